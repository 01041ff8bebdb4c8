/-
  judge.layer.verdicts.
-/
import Derived.Test.YtohefinejdfhaabPi
namespace Go.Proofs.Ytohefinejdfhaab
namespace Mc
open Go.RowKit
attribute [local go_sem ↓] Go.wp_at_zero Go.wp_at_succ

theorem PresL.ofBelow {B : Nat} {w w' : World} (h : Below w.heap.size w w') (hB : B ≤ w.heap.size) : PresL B w w' :=
  ⟨⟨h.os, h.tape, h.output, h.size, fun k hk => h.block k (by omega)⟩, fun k cs ty fr hk _ _ => (Fr.ofBelow h).at hk (by simp)⟩
theorem LBx.below {w w' : World} {B gl : Nat} {v : Value} {ds : List Nat} (h : LBx w B gl v ds) (hb : Below w.heap.size w w') : LBx w' B gl v ds := ⟨h.hB, (Fr.ofBelow hb).at h.heap (by simp), (Fr.ofBelow hb).own h.row (by simp)⟩
theorem ImB.presL {w w' : World} {B gi N m tc : Nat} {f : ByteArray} {ta : Option Addr} (h : ImB w gi N f ta m tc) (hp : PresL B w w') : ImB w' gi N f ta m tc := ⟨hp.keep _ _ _ _ h.heap (by decide) (by decide)⟩

/-- The verdicts' words. -/
def verdW (f : ByteArray) (m n : Nat) : List Nat := (List.range n).map fun s => (trueF f (bitsM s m)).toNat
theorem verdW_succ (f : ByteArray) (m n : Nat) : verdW f m (n + 1) = verdW f m n ++ [(trueF f (bitsM n m)).toNat] := by unfold verdW; rw [List.range_succ, List.map_append]; rfl
theorem verdW_len (f : ByteArray) (m n : Nat) : (verdW f m n).length = n := by unfold verdW; simp

set_option maxRecDepth 20000 in
set_option maxHeartbeats 1000000 in
theorem verdicts_any (w : World) (B gl gi N m tc : Nat) (f : ByteArray) (ta : Option Addr) (ds : List Nat) (h : LB w B gl ds) (hi : ImB w gi N f ta m tc) (hm : m ≤ 4) (hf : f.size ≤ 1000) (hl : ds.length ≤ 50000) :
    Calls Try.prog 69 #[.pointer (some ⟨gl, 0, none⟩), .pointer (some ⟨gi, 0, none⟩)] w fun e w' => e = .returned (arV (32 + ds.length) (32 + ds.length + 2 ^ m)) ∧ PresL B w w' ∧ LB w' B gl (ds ++ verdW f m (2 ^ m)) := by
  obtain ⟨v, hx⟩ := h
  have HSZ : Hid (B ≤ w.heap.size) := by have := hx.hB; have := hx.lt; show _ ≤ _; omega
  have HA0 := hide (address_any _ B gl ds ⟨v, hx.alloc (Obj.cells #[.int .i64 0, .int .i64 0] 131)⟩ (by omega))
  have HP0 : Hid (PresL B w (w.alloc (Obj.cells #[.int .i64 0, .int .i64 0] 131))) := PresL.alloc B w _ (unhide HSZ)
  have HX0 : Hid (LB (w.alloc (Obj.cells #[.int .i64 0, .int .i64 0] 131)) B gl (ds ++ verdW f m 0)) := by
    show LB _ _ _ _
    rw [show ds ++ verdW f m 0 = ds by simp [verdW]]
    exact ⟨v, hx.alloc _⟩
  have HBX : Hid ((w.alloc (Obj.cells #[.int .i64 0, .int .i64 0] 131)).heap[w.heap.size]? = some (Obj.cells #[.int .i64 0, .int .i64 0] 131 (0, 0))) := heap_alloc_new _ _
  have HI := hide (fun w' (hp : PresL B w w') => hi.presL hp)
  have HL := hide hl
  have HM := hide hm
  have HF := hide hf
  have hlI : (ds.length : Int) ≤ 50000 := by omega
  have hmI : (m : Int) ≤ 4 := by omega
  clear hx hi hl hm hf
  go_enter Try.func69, Try.ntmps69
  go_wp2_with fail
  refine (unhide HA0).mono ?_
  rintro e w1 ⟨rfl, hww⟩
  rw [hww]
  clear hww
  go_wp2_with fail
  generalize hg4 : w.heap.size = g4 at *
  have HG4 := hide hg4
  clear hg4
  generalize hwa : (w.alloc (Obj.cells #[.int .i64 0, .int .i64 0] 131)) = wa at *
  clear hwa HA0
  go_loop [6, 7] (fun sx ix => ∃ i : Nat, sx = .int .i64 ((2 ^ i : Nat) : Int) ∧ ix = .int .i64 (i : Int) ∧ Hid (i ≤ m)) (fun _ ix => lenLeft m ix)
  case atStart => exact ⟨0, rfl, rfl, Nat.zero_le _⟩
  case round =>
    obtain ⟨i, rfl, rfl, HH⟩ := hrel
    have HR := hide (Rules_any wa gi N m tc f ta (unhide HI wa (unhide HP0)))
    by_cases hlt : i < m
    · have hltI : (i : Int) < (m : Int) := by omega
      have hp16 : 2 ^ i ≤ 16 := by
        have := unhide HM
        exact Nat.le_trans (Nat.pow_le_pow_right (by decide) (show i ≤ 4 by omega)) (by decide)
      have e1 : ((2 ^ i : Nat) : Int) * 2 = ((2 ^ (i + 1) : Nat) : Int) := by rw [Nat.pow_succ, Int.natCast_mul]; rfl
      have ew : IntKind.i64.wrap ((2 ^ (i + 1) : Nat) : Int) = ((2 ^ (i + 1) : Nat) : Int) := wrap_i64 (2 ^ (i + 1)) (by rw [Nat.pow_succ]; omega)
      have HLT := hide hlt
      clear hlt hp16
      generalize 2 ^ i = p at *
      generalize hp2 : 2 ^ (i + 1) = p2 at *
      have HP2 := hide hp2
      clear hp2
      go_wp2_with fail
      refine (unhide HR).mono ?_
      rintro e w2 ⟨rfl, hww⟩
      rw [hww]
      clear hww
      go_wp2_with fail
      go_round
      case rel => exact ⟨i + 1, by rw [unhide HP2], by go_num, unhide HLT⟩
      case measure => have := unhide HLT; simp [lenLeft, intOf]; omega
    · have hi2 : i = m := by have := unhide HH; omega
      subst hi2
      have hp16 : 2 ^ i ≤ 16 := by
        have := unhide HM
        exact Nat.le_trans (Nat.pow_le_pow_right (by decide) this) (by decide)
      clear hlt HH
      generalize hpe : 2 ^ i = p at *
      have HPE := hide hpe
      clear hpe
      have hpI : (p : Int) ≤ 16 := by omega
      go_wp2_with fail
      refine (unhide HR).mono ?_
      rintro e w2 ⟨rfl, hww⟩
      rw [hww]
      clear hww
      go_wp2_with fail
      go_loopw [8] (fun ix wr => ∃ s : Nat, ix = .int .i64 (s : Int) ∧ Hid (s ≤ p ∧ PresL B w wr ∧ LB wr B gl (ds ++ verdW f i s) ∧ wr.heap[g4]? = some (Obj.cells #[.int .i64 0, .int .i64 0] 131 (0, 0)))) (fun ix _ => lenLeft p ix)
      case atStart => exact ⟨0, rfl, Nat.zero_le _, unhide HP0, unhide HX0, unhide HBX⟩
      case round =>
        clear HP0 HX0 HBX HR
        rename World => wr
        obtain ⟨s, rfl, HH⟩ := hrel
        obtain ⟨hs, hP, ⟨v, hx⟩, hbx⟩ := unhide HH
        have hdl : (ds ++ verdW f i s).length = ds.length + s := by rw [List.length_append, verdW_len]
        by_cases hlt : s < p
        · have hltI : (s : Int) < (p : Int) := by omega
          have HR := hide (Rules_any wr gi N i tc f ta (unhide HI wr hP))
          have HMK := hide (marked_any wr s i (by omega) (by have := unhide HM; omega))
          have HLT := hide hlt
          have HLEN : Hid ((ds ++ verdW f i s).length ≤ 3000000) := by have := unhide HL; rw [hdl]; show _ ≤ _; omega
          have HSN : Hid (ds ++ verdW f i (s + 1) = ds ++ verdW f i s ++ [(trueF f (bitsM s i)).toNat]) := by show _ = _; rw [verdW_succ, List.append_assoc]
          have HP := hide hP
          have HX := hide hx
          have HBX := hide hbx
          clear HH hs hP hx hbx hlt hdl
          generalize ds ++ verdW f i s = xs at *
          go_wp2_with fail
          refine (unhide HR).mono ?_
          rintro e w3 ⟨rfl, hww⟩
          obtain rfl : wr = w3 := hww.symm
          clear hww HR
          go_wp2_with fail
          refine (unhide HMK).mono ?_
          rintro e w4 ⟨vb, rfl, hb4, hr4⟩
          have HX4 := hide ((unhide HX).below hb4)
          have HP4' := hide (PresL.ofBelow (B := B) hb4 (by have := (unhide HX).hB; have := (unhide HX).lt; omega))
          have HP4 := hide ((unhide HP).trans (unhide HP4'))
          have HB4 := hide ((unhide HP4').keep _ _ _ _ (unhide HBX) (by decide) (by decide))
          have HGR := hide (Grants_any w4 gi N i tc wr.heap.size f ta _ vb (unhide HI w4 (unhide HP4)) hr4 (unhide HF) (by rw [bitsM_len]; have := unhide HM; omega))
          obtain ⟨ba, bc, rfl⟩ := hr4.form
          clear hb4 hr4 HMK HP HX HBX HP4'
          go_wp2_with fail
          refine (unhide HGR).mono ?_
          rintro e w5 ⟨rfl, hb5⟩
          have hx5 := (unhide HX4).below hb5
          have HP5' := hide (PresL.ofBelow (B := B) hb5 (by have := (unhide HX4).hB; have := (unhide HX4).lt; omega))
          have HP5 := hide ((unhide HP4).trans (unhide HP5'))
          have HB5 := hide ((unhide HP5').keep _ _ _ _ (unhide HB4) (by decide) (by decide))
          obtain ⟨va, vc, rfl⟩ := hx5.row.form
          have c0 := hx5.cell
          have hgl := hx5.lt
          have HBS : Hid (B ≤ w5.heap.size) := by have := hx5.hB; show _ ≤ _; omega
          generalize trueF f (bitsM s i) = y at *
          have HXA := hide (fun (z : Int) => hx5.alloc (Obj.cells #[.int .i64 z] 3))
          have HPA : Hid (∀ z : Int, PresL B w (w5.alloc (Obj.cells #[.int .i64 z] 3))) := fun z => (unhide HP5).trans (PresL.alloc B w5 _ (unhide HBS))
          have HBA : Hid (∀ z : Int, (w5.alloc (Obj.cells #[.int .i64 z] 3)).heap[g4]? = some (Obj.cells #[.int .i64 0, .int .i64 0] 131 (0, 0))) := fun z => (Fr.ofAlloc _ _).at (unhide HB5) (by simp)
          clear hb5 hx5 HGR HX4 HP4 HB4 HP5' HP5 HB5
          cases y
          all_goals
            go_wp2_with (at_builtin; refine app1 rfl (.tmp 37) (.tmp 39) rfl B _ _ rfl (unhide HXA _).row w5.heap.size _ rfl (new_cell rfl) (unhide HLEN) (by have := unhide HBS; simp; omega) (w5.heap.size + 1) (by simp) ?_; intro g5 cap5 w8 ho hgrow hlies hlt5; obtain ⟨c9, f9, hX9, hP9⟩ := (unhide HXA _).push hgrow ho (hlies.imp (fun e => e) (fun e => by rw [e]; simp)); have HX9 := hide hX9; have HP9 := hide ((unhide HPA _).trans hP9); have HB9 := hide (hP9.keep _ _ _ _ (unhide HBA _) (by decide) (by decide)); clear ho hgrow hlies hX9 hP9)
            go_roundw
            case rel => exact ⟨s + 1, by go_num, unhide HLT, unhide HP9, ⟨_, by rw [unhide HSN]; exact unhide HX9⟩, unhide HB9⟩
            case measure => have := unhide HLT; simp [lenLeft, intOf]; omega
        · have hs2 : s = p := by omega
          subst hs2
          have hgx := (Array.getElem?_eq_some_iff.1 hbx).1
          have HA := hide (address_any wr B gl _ ⟨_, hx⟩ (by rw [hdl]; have := unhide HL; omega))
          rw [hdl] at HA
          obtain ⟨b0, b1⟩ := boxA hbx
          have f0 : wr.frozen? ⟨g4, 0, none⟩ = false := frozen_of_row _ _ _ _ _ hbx
          have f1 : wr.frozen? ⟨g4, 1, none⟩ = false := frozen_of_row _ _ _ _ _ hbx
          have HP := hide hP
          have HX := hide hx
          have HBX := hide hbx
          clear HH hs hP hx hbx hlt hdl
          go_wp2_with fail
          refine (unhide HA).mono ?_
          rintro e w9 ⟨rfl, hww⟩
          obtain rfl : wr = w9 := hww.symm
          clear hww
          go_wp2_with fail
          have hend : ((wr.setCell ⟨g4, 0, none⟩ (.int .i64 (32 + (ds.length : Int)))).setCell ⟨g4, 1, none⟩ (.int .i64 (32 + ((ds.length : Int) + (s : Int))))).heap[g4]? = some (Obj.cells #[.int .i64 (32 + (ds.length : Int)), .int .i64 (32 + ((ds.length : Int) + (s : Int)))] 131 (0, 0)) := by
            rw [heap_setCell_same _ _ _ _ _ _ (heap_setCell_same _ _ _ _ _ _ (unhide HBX))]; rfl
          refine bodyPost_ret (results_cell_row (p := 4) (ty := 131) rfl _ _ g4 131 _ (0, 0) _ rfl hend Try.underlying131 rfl (by kernel_rfl)) rfl ?_
          rw [unhide HPE]
          refine ⟨?_, ((unhide HP).res (Nat.le_of_eq (unhide HG4)) (unhide HSZ) _ _).res (Nat.le_of_eq (unhide HG4)) (unhide HSZ) _ _, _, ((unhide HX).res (unhide HBX) _ _).res (heap_setCell_same _ _ _ _ _ _ (unhide HBX)) _ _⟩
          unfold arV
          push_cast
          rw [Int.add_assoc]

end Mc
end Go.Proofs.Ytohefinejdfhaab
