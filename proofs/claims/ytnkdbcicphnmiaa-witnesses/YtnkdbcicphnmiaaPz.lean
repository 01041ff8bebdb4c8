/-
  policies.Image.readTables: the walk.
-/
import Derived.Test.YtnkdbcicphnmiaaT12
namespace Go.Proofs.Ytnkdbcicphnmiaa
namespace Mc
open Go.RowKit

/-- What was read is a table's rows. -/
theorem rows_of {w w' : World} {t : ByteArray} (ht : TOk t 0) {gv nv : Value} (hg : BR w' w.heap.size gv ((List.range (tabAt t 0).S).map (tabAt t 0).gr)) (hn : NR w' w.heap.size nv ((List.range ((tabAt t 0).S * (tabAt t 0).C)).map fun k => bt t (258 + bt t 0 + k))) : TRws w' w'.heap.size (tabAt t 0) gv nv := by
  refine ⟨ht.ok, _, _, own_less hg (Nat.zero_le _), NR.less hn (Nat.zero_le _), fun q hq => (hg.lt q hq).2, fun q hq => (hn.lt q hq).2, by simp, fun q hq => ?_, by simp, fun q c hq hc => ?_⟩
  · rw [List.getD_eq_getElem?_getD, List.getElem?_map, List.getElem?_range hq]; rfl
  · have h1 : (q + 1) * (tabAt t 0).C ≤ (tabAt t 0).S * (tabAt t 0).C := Nat.mul_le_mul_right _ hq
    rw [Nat.add_mul, Nat.one_mul] at h1
    rw [List.getD_eq_getElem?_getD, List.getElem?_map, List.getElem?_range (by omega)]
    show bt t (258 + bt t 0 + (q * bt t (0 + 1) + c)) = bt t (0 + 258 + bt t 0 + (q * bt t (0 + 1) + c))
    rw [Nat.zero_add 258]
theorem setRow_alloc1 (w : World) (A B : Array Value) (t : TypeId) : (w.alloc (Obj.cells A t)).setRow w.heap.size B = w.alloc (Obj.cells B t) := by
  simp only [World.setRow, World.alloc]
  congr 1
  apply Array.ext_getElem?
  intro i
  rw [Array.getElem?_modify, Array.getElem?_push, Array.getElem?_push]
  by_cases h : i = w.heap.size
  · subst h; simp
  · simp [h, Ne.symm h]
theorem RtI.pushC {w wr w2 : World} {gi N : Nat} {f : ByteArray} {ta : Option Addr} {tc : Nat} {ts : Nat → TabN} {cs : List Value} {i : Nat} (h : RtI w wr gi N f ta tc ts cs i) {g cap : Nat} {gv nv : Value} {c0 : Array Value} (hr : TRws wr wr.heap.size (ts i) gv nv) (hc : tbC (ts i).cl (ts i).C gv nv = c0) (hgrow : wr.grownBy w2 (.slice ta i tc : Value).ownBlock) (ho : w2.ownsRow w.heap.size 142 259 (.slice (some ⟨g, 0, none⟩) (i + 1) cap) (i + 1) (cs ++ c0.toList)) :
    w2.cell? ⟨gi, 2, none⟩ = some (.slice ta i tc) ∧ w2.frozen? ⟨gi, 2, none⟩ = false ∧ RtI w (w2.setCell ⟨gi, 2, none⟩ (.slice (some ⟨g, 0, none⟩) (i + 1) cap)) gi N f (some ⟨g, 0, none⟩) cap ts (cs ++ c0.toList) (i + 1) := by
  subst hc
  exact h.push hr hgrow ho
theorem ba_empty {t : ByteArray} (h : t.size = 0) : t = ⟨#[]⟩ := by
  cases t with
  | mk d => congr 1; exact Array.eq_empty_of_size_eq_zero h

section
attribute [local go_sem ↓] Go.wp_at_zero Go.wp_at_succ zvTb wp_ldT wp_bsT
attribute [local go_sem] zcTb_size zcTb_ne aggcells
set_option maxRecDepth 20000 in
set_option maxHeartbeats 2000000 in
theorem readTables_any (w : World) (gi N : Nat) (f x : ByteArray) (p r : Nat) (hi : w.heap[gi]? = some (.cells #[.int .i64 (N : Int), .string f, .slice none 0 0] 83 (0, 0))) (hp : p ≤ x.size) (hx : x.size ≤ 9223372036854775807) (hr : r ≤ 255) :
    Calls Try.prog 69 #[.pointer (some ⟨gi, 0, none⟩), .string (x.extract p x.size), .int .i64 (r : Int)] w fun e w' => Fr [gi] w w' ∧ ((TsOk x p r ∧ e = .returned (.bool true) ∧ ∃ ta tc cs, RtI w w' gi N f ta tc (fun i => tabAt x (tpos x p i)) cs r) ∨ (¬ TsOk x p r ∧ e = .returned (.bool false))) := by
  have HS0 := hide (RtI.start (ts := fun i => tabAt x (tpos x p i)) hi)
  have hgi := (Array.getElem?_eq_some_iff.1 hi).1
  have hrI : (r : Int) ≤ 255 := by omega
  have HP := hide hp
  have HX := hide hx
  have HRR := hide hr
  clear hi hp hx hr
  go_enter Try.func69, Try.ntmps69
  go_wp2_with fail
  go_loopw [1, 7] (fun tx ix wr => ∃ (i : Nat) (ta : Option Addr) (tc : Nat) (cs : List Value), tx = .string (x.extract (tpos x p i) x.size) ∧ ix = .int .i64 (i : Int) ∧ Hid (i ≤ r ∧ (∀ j, j < i → TOk x (tpos x p j)) ∧ RtI w wr gi N f ta tc (fun i => tabAt x (tpos x p i)) cs i)) (fun _ ix _ => lenLeft r ix)
  case atStart => exact ⟨0, none, 0, [], rfl, rfl, Nat.zero_le _, fun j hj => by omega, unhide HS0⟩
  case round =>
    clear HS0
    rename World => wr
    obtain ⟨i, ta, tc, cs, rfl, rfl, HH⟩ := hrel
    obtain ⟨hir, hok, hI⟩ := unhide HH
    clear HH
    have hpl : tpos x p i ≤ x.size := tpos_le (unhide HP) i hok
    have hsz : (x.extract (tpos x p i) x.size).size = x.size - tpos x p i := by rw [ByteArray.size_extract]; omega
    by_cases hlt : i < r
    · have hltI : (i : Int) < (r : Int) := by omega
      have htI : ((x.extract (tpos x p i) x.size).size : Int) ≤ 9223372036854775807 := by have := unhide HX; omega
      have HRD := hide (TRead_any wr (x.extract (tpos x p i) x.size) (by have := unhide HX; omega))
      have HTO : Hid (TOk (x.extract (tpos x p i) x.size) 0 ↔ TOk x (tpos x p i)) := by have := TOk_rest (x := x) (a := tpos x p i) (p := 0) hpl; rwa [Nat.add_zero] at this
      have HTT : Hid (tabAt (x.extract (tpos x p i) x.size) 0 = tabAt x (tpos x p i)) := by have := tabAt_rest x (tpos x p i) 0; rwa [Nat.add_zero] at this
      have HNX : Hid ((x.extract (tpos x p i) x.size).extract (tsz (x.extract (tpos x p i) x.size) 0) (x.extract (tpos x p i) x.size).size = x.extract (tpos x p (i + 1)) x.size) := by
        show _ = _
        rw [ext_ext, tsz_rest, Nat.add_zero]; rfl
      have HI := hide hI
      have HOK := hide hok
      have HLT := hide hlt
      have HIR := hide hir
      have hgr : gi < wr.heap.size := by have := hI.le; omega
      clear hir hok hI hlt hpl hsz
      generalize x.extract (tpos x p i) x.size = t at *
      go_wp2_with fail
      refine (unhide HRD).mono ?_
      rintro e w1 ⟨hb1, hrd⟩
      clear HRD
      have HI1 := hide ((unhide HI).below hb1)
      have hg1 : gi < w1.heap.size := by have := hb1.size; omega
      rcases hrd with ⟨hto, gv, nv, rfl, hg, hn⟩ | ⟨hno, rfl⟩
      · obtain ⟨a1, k1, rfl⟩ := hg.form
        obtain ⟨a2, k2, rfl⟩ := hn.form
        have hrw := rows_of hto hg hn
        have HTK := hide ((unhide HTO).1 hto)
        have hz1 : (1 : Int) ≤ ((tsz t 0 : Nat) : Int) := by have := tsz_pos t 0; omega
        have hz2 : ((tsz t 0 : Nat) : Int) ≤ (t.size : Int) := by have := hto.size; omega
        have hz3 : (0 : Int) ≤ ((tsz t 0 : Nat) : Int) := by omega
        have HSZ := hide (tbC_size (tabAt t 0).cl (tabAt t 0).C (.slice a1 ((List.range (tabAt t 0).S).map (tabAt t 0).gr).length k1) (.slice a2 ((List.range ((tabAt t 0).S * (tabAt t 0).C)).map fun k => bt t (258 + bt t 0 + k)).length k2))
        have HON := hide (tbC_one a1 a2 ((List.range (tabAt t 0).S).map (tabAt t 0).gr).length ((List.range ((tabAt t 0).S * (tabAt t 0).C)).map fun k => bt t (258 + bt t 0 + k)).length k1 k2 (tabAt t 0).cl (tabAt t 0).C)
        generalize ((List.range (tabAt t 0).S).map (tabAt t 0).gr).length = n1 at *
        generalize ((List.range ((tabAt t 0).S * (tabAt t 0).C)).map fun k => bt t (258 + bt t 0 + k)).length = n2 at *
        generalize hc0 : tbC (tabAt t 0).cl (tabAt t 0).C (.slice a1 n1 k1) (.slice a2 n2 k2) = c0 at *
        have HC0 : Hid (tbC (tabAt x (tpos x p i)).cl (tabAt x (tpos x p i)).C (.slice a1 n1 k1) (.slice a2 n2 k2) = c0) := by show _ = _; rw [← unhide HTT]; exact hc0
        rw [unhide HTT] at hrw
        have HRW := hide hrw
        have HI2 := hide ((unhide HI1).alloc (.cells c0 142))
        have HTB : Hid (IsTb (w1.alloc (.cells c0 142)).drew (.pointer (some ⟨w1.heap.size, 0, none⟩)) c0) := ⟨_, rfl, heap_alloc_new _ _, unhide HSZ⟩
        have hT1 := (unhide HTB).has
        have hT2 := (unhide HTB).of
        have hT3 : IsTv (.agg c0) := ⟨c0, rfl, unhide HSZ⟩
        have HX2 := hide ((unhide HI2).alloc (.cells c0 142)).drew
        have HB2 : Hid (Below w1.heap.size w1 ((w1.alloc (.cells c0 142)).alloc (.cells c0 142))) := ((Below.refl _ _).alloc (Nat.le_refl _) _).alloc (by simp) _
        have HRW2 : Hid (TRws ((w1.alloc (.cells c0 142)).alloc (.cells c0 142)).drew ((w1.alloc (.cells c0 142)).alloc (.cells c0 142)).drew.heap.size (tabAt x (tpos x p i)) (.slice a1 n1 k1) (.slice a2 n2 k2)) := (unhide HRW).fr ((Fr.ofBelow (unhide HB2)).drew) (NoRows.nil _) (by show _ ≤ ((w1.alloc (.cells c0 142)).alloc (.cells c0 142)).heap.size; simp; omega)
        have c2 : (w1.alloc (.cells c0 142)).cell? ⟨gi, 2, none⟩ = some (.slice ta i tc) := by rw [cell_of_row _ _ _ _ _ _ (unhide HI2).im]; rfl
        have hg2 : gi < (w1.alloc (.cells c0 142)).heap.size := by simp; omega
        have HC2 : Hid ((((w1.alloc (.cells c0 142)).alloc (.cells c0 142)).drew).heap[(w1.alloc (.cells c0 142)).heap.size]? = some (.cells c0 142 (0, 0))) := heap_alloc_new _ _
        have HWS : Hid (w.heap.size ≤ (w1.alloc (.cells c0 142)).heap.size) := (unhide HI2).le
        have HI1000 : Hid (i ≤ 1000) := by have := unhide HLT; have := unhide HRR; show _ ≤ _; omega
        clear hb1 hto hg hn hrw hc0 HI HI1 HTB HB2 HTO HTT
        generalize tsz t 0 = z at *
        go_wp2_with (refine store_row rfl 142 _ _ rfl rfl w1.heap.size c0 rfl rfl 142 _ (heap_alloc_new _ _) (by rw [unhide HSZ]; exact infoT) (by rw [zcTb_size]; exact (unhide HSZ).symm) (unhide HON) ?_; rw [setRow_alloc1])
        generalize w1.alloc (.cells c0 142) = w2 at *
        generalize w1.heap.size = g8 at *
        go_region_law (refine appT (by rfl) _ _ (by rfl) w.heap.size _ i cs (by rfl) (by exact (unhide HX2).own) w2.heap.size c0 (by rfl) (by exact unhide HC2) (unhide HSZ) (unhide HON) (unhide HI1000) (by have := unhide HWS; simp; omega) (w2.heap.size + 1) (by simp) ?_; intro g5 cap5 w8 ho hgrow hlies hlt5; obtain ⟨c9, f9, hP9⟩ := (unhide HX2).pushC (unhide HRW2) (unhide HC0) hgrow ho; have HP9 := hide hP9; clear ho hgrow hlies hP9)
        all_goals
          go_wp2_with fail
          go_roundw
          case rel => exact ⟨i + 1, _, _, _, congrArg Value.string (unhide HNX), by go_num, unhide HLT, fun j hj => (by
            by_cases e : j = i
            · rw [e]; exact unhide HTK
            · exact unhide HOK j (by omega)), unhide HP9⟩
          case measure => have := unhide HLT; simp [lenLeft, intOf]; omega
      · have HF : Hid (¬ TsOk x p r) := fun h => hno ((unhide HTO).2 (h.1 i (unhide HLT)))
        have HFr : Hid (Fr [gi] w (w1.alloc (.cells zcTb 142))) := ((unhide HI1).alloc _).fr
        clear hb1 hno HI HTO HTT HNX
        go_wp2_with (refine store_row rfl 142 _ _ rfl rfl w1.heap.size zcTb rfl rfl 142 _ (heap_alloc_new _ _) (by rw [zcTb_size]; exact infoT) rfl (tbC_one _ _ _ _ _ _ _ _) ?_)
        go_ret
        exact ⟨(unhide HFr).row (Or.inr (unhide HI1).le) _, .inr ⟨unhide HF, rfl⟩⟩
    · have hir2 : i = r := by omega
      subst hir2
      have hltI : ¬ (i : Int) < (i : Int) := by omega
      have HI := hide hI
      by_cases ht0 : (x.extract (tpos x p i) x.size).size = 0
      · have HT : Hid (TsOk x p i) := ⟨hok, by omega⟩
        have ht1 := ba_empty ht0
        rw [ht1]
        clear hir hok hI hlt hpl hsz ht0 ht1
        go_wp2_with fail
        go_ret
        exact ⟨(unhide HI).fr, .inl ⟨unhide HT, rfl, _, _, _, unhide HI⟩⟩
      · have HF : Hid (¬ TsOk x p i) := fun h => by have := h.2; omega
        have hne : ¬ (x.extract (tpos x p i) x.size).toList = [] := fun e => by rw [ByteArray.toList_eq] at e; exact ht0 (by have := congrArg List.length e; rwa [Array.length_toList] at this)
        clear hir hok hI hlt hpl hsz ht0
        generalize x.extract (tpos x p i) x.size = t at *
        go_wp2_with fail
        go_ret
        exact ⟨(unhide HI).fr, .inr ⟨unhide HF, by simpa using hne⟩⟩
end

end Mc
end Go.Proofs.Ytnkdbcicphnmiaa
