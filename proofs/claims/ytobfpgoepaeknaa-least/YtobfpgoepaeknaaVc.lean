/-
  The graph: the letters.
-/
import Derived.Test.YtobfpgoepaeknaaT24
import Derived.Test.YtobfpgoepaeknaaWl
namespace Go.Proofs.Ytobfpgoepaeknaa
open Go.RowKit
attribute [local go_sem ↓] Go.wp_at_zero Go.wp_at_succ

theorem Sorted.len_le {N : Nat} {E : Nat → Nat → Prop} {hs : List Nat} {kd : Nat → Nat} (h : Sorted N E hs kd) : hs.length ≤ N := by
  refine Nat.le_of_not_lt fun hlt => ?_
  obtain ⟨i, j, hij, hj, e⟩ := pigeon N (fun k => hs.getD k 0) fun k hk => (h.head k (by omega)).1
  have := h.incr i j hij (by omega)
  omega
theorem fit_eqv (p : Part) : Equivalence (fun b b' => fitP p b = fitP p b') := ⟨fun _ => rfl, fun h => h.symm, fun h g => h.trans g⟩
theorem getD_map_fit (p : Part) {hb : List Nat} {k : Nat} (hk : k < hb.length) : (hb.map (fitP p)).getD k 0 = fitP p (hb.getD k 0) := by
  rw [List.getD_eq_getElem?_getD, List.getD_eq_getElem?_getD, List.getElem?_map, List.getElem?_eq_getElem hk]; rfl

structure SbI (w wr : World) (gg : Nat) (p : Part) (gv nv lv : Value) (F : Nat → Nat) (hb : List Nat) (b : Nat) : Prop where
  fr : Fr [gg] w wr
  bg : wr.heap[gg]? = some (.cells (graphA lv F gv nv) 101 (0, 0))
  row : NRow wr w.heap.size lv (hb.map (fitP p))
  so : Sorted b (fun b b' => fitP p b = fitP p b') hb F
section sb
variable {w wr : World} {gg : Nat} {p : Part} {gv nv lv : Value} {F : Nat → Nat} {hb : List Nat} {b : Nat}
theorem SbI.lt (h : SbI w wr gg p gv nv lv F hb b) : gg < wr.heap.size := (Array.getElem?_eq_some_iff.1 h.bg).1
theorem SbI.drew (h : SbI w wr gg p gv nv lv F hb b) : SbI w wr.drew gg p gv nv lv F hb b := ⟨h.fr.drew, h.bg, h.row, h.so⟩
theorem SbI.alloc (h : SbI w wr gg p gv nv lv F hb b) (o : Obj) : SbI w (wr.alloc o) gg p gv nv lv F hb b :=
  ⟨h.fr.alloc o, by rw [Below.heap_alloc _ _ _ h.lt]; exact h.bg, h.row.below ((Below.refl _ _).alloc (Nat.le_refl _) _), h.so⟩
/-- The letter of a byte is laid down: an old one. -/
theorem SbI.old (h : SbI w wr gg p gv nv lv F hb b) (hb' : b < 256) {k : Nat} (hk : k < hb.length) (he : fitP p b = fitP p (hb.getD k 0)) : SbI w (wr.setCell ⟨gg, 1 + b, none⟩ (.int .i64 (k : Int))) gg p gv nv lv (fun c => if c = b then k else F c) hb (b + 1) :=
  ⟨h.fr.set (.inl (by simp)) _ _, by rw [heap_setCell_same _ _ _ _ _ _ h.bg, graphA_set _ _ _ _ hb'], own_set_any h.row h.bg (by decide) _ _, h.so.old (fit_eqv p) hk he (fun a ha => if_neg (by omega)) (if_pos rfl)⟩
/-- A new one. -/
theorem SbI.new (h : SbI w wr gg p gv nv lv F hb b) (hb' : b < 256) (hno : ∀ j, j < hb.length → fitP p (hb.getD j 0) ≠ fitP p b) {w2 : World} {v' : Value} (hgrow : wr.grownBy w2 lv.ownBlock)
    (ho : w2.ownsRow w.heap.size 3 1 v' ((hb.map (fitP p)).length + 1) (natCells (hb.map (fitP p)) ++ [.int .i64 ((fitP p b : Nat) : Int)])) :
    SbI w ((w2.setCell ⟨gg, 0, none⟩ v').setCell ⟨gg, 1 + b, none⟩ (.int .i64 ((hb.length : Nat) : Int))) gg p gv nv v' (fun c => if c = b then hb.length else F c) (hb ++ [b]) (b + 1) := by
  have hne : ∀ q, lv.ownBlock = some q → q ≠ gg := own_off h.row h.bg (by decide)
  have hbg : w2.heap[gg]? = some (.cells (graphA lv F gv nv) 101 (0, 0)) := by
    rw [hgrow.block _ h.lt (fun e => hne gg e.symm rfl)]; exact h.bg
  have hrow : NRow w2 w.heap.size v' (hb.map (fitP p) ++ [fitP p b]) := NRow.of ho
  have hb1 : (w2.setCell ⟨gg, 0, none⟩ v').heap[gg]? = some (.cells (graphA v' F gv nv) 101 (0, 0)) := by rw [heap_setCell_same _ _ _ _ _ _ hbg, graphA_set0]
  refine ⟨((h.fr.grown hgrow (fun k hk => .inr (h.row.lt k hk).1)).set (.inl (by simp)) _ _).set (.inl (by simp)) _ _, by rw [heap_setCell_same _ _ _ _ _ _ hb1, graphA_set _ _ _ _ hb'], ?_, h.so.new (fit_eqv p) (fun j hj e => hno j hj e.symm) (fun a ha => if_neg (by omega)) (if_pos rfl)⟩
  rw [List.map_append]
  exact own_set_any (own_set_any hrow hbg (by decide) _ _) hb1 (by decide) _ _
end sb

set_option maxRecDepth 20000 in
set_option maxHeartbeats 1000000 in
theorem sortBytes_any (w : World) (gg ga : Nat) (p : Part) (gv nv : Value) (hA : AutB w ga p) (hg : w.heap[gg]? = some (.cells (graphA (.slice none 0 0) (fun _ => 0) gv nv) 101 (0, 0))) :
    Calls Try.prog 69 #[.pointer (some ⟨gg, 0, none⟩), .pointer (some ⟨ga, 0, none⟩)] w fun e w' => e = .returned (.tuple #[]) ∧ ∃ lv F hb, SbI w w' gg p gv nv lv F hb 256 := by
  obtain ⟨av, ha, -⟩ := hA
  have hgg := (Array.getElem?_eq_some_iff.1 hg).1
  have hga := (Array.getElem?_eq_some_iff.1 ha).1
  have hne : ga ≠ gg := by
    rintro rfl
    rw [ha] at hg
    simp at hg
  have HA := hide ha
  have HNE := hide hne
  have HGG := hide hgg
  have HGA := hide hga
  have H0 : Hid (SbI w w gg p gv nv (.slice none 0 0) (fun _ => 0) [] 0) := ⟨Fr.refl _ _, hg, World.ownsRow_nil _ _ _ _, Sorted.nil _ _⟩
  obtain ⟨i, i0, i1, i2, i3⟩ := info_of info3
  have HI := hide (And.intro i0 (And.intro i1 (And.intro i2 i3)))
  clear i0 i1 i2 i3 hg ha hgg hga hne
  go_enter Try.func69, Try.ntmps69
  go_wp2
  go_loopw [4] (fun bx wr => ∃ (b : Nat) (lv : Value) (F : Nat → Nat) (hb : List Nat), bx = .int .i64 (b : Int) ∧ Hid (b ≤ 256) ∧ Hid (SbI w wr gg p gv nv lv F hb b)) (fun bx _ => left256 bx)
  case atStart => exact ⟨0, _, _, _, rfl, Nat.zero_le _, unhide H0⟩
  case round =>
    rename World => wr
    obtain ⟨b, lv, F, hb, rfl, HB, HH⟩ := hrel
    by_cases hbl : b < 256
    · have hbI : (b : Int) < 256 := by omega
      have HBL := hide hbl
      have hA2 : wr.heap[ga]? = some (.cells (autA av (fitP p) (p.last : Int)) 56 (0, 0)) := (unhide HH).fr.at (unhide HA) (by simpa using unhide HNE)
      have hfit : wr.cell? ⟨ga, 1 + b, none⟩ = some (.int .i64 ((fitP p b : Nat) : Int)) := by rw [cell_of_row _ _ _ _ _ _ hA2, autA_b _ _ _ hbl]
      obtain ⟨la, lc, hlv⟩ := (unhide HH).row.form
      have hlm : (hb.map (fitP p)).length = hb.length := List.length_map _
      rw [hlm] at hlv
      subst hlv
      have hl0 : wr.cell? ⟨gg, 0, none⟩ = some (.slice la hb.length lc) := by rw [cell_of_row _ _ _ _ _ _ (unhide HH).bg, graphA_0]
      have hll : hb.length ≤ 256 := Nat.le_trans (unhide HH).so.len_le (unhide HB)
      have hllI : (hb.length : Int) ≤ 256 := by omega
      have HLL := hide hll
      have hg1 : gg < wr.heap.size := (unhide HH).lt
      have hg2 : ga < wr.heap.size := Nat.lt_of_lt_of_le (unhide HGA) (unhide HH).fr.size
      have HFIT := hide hfit
      have HL0 := hide hl0
      clear hbl hA2 hlm hll hfit hl0 hg1
      go_wp2
      go_loopw [5] (fun kx wr' => ∃ k : Nat, kx = .int .i64 (k : Int) ∧ k ≤ hb.length ∧ Hid (∀ j, j < k → fitP p (hb.getD j 0) ≠ fitP p b) ∧ Hid (SbI w wr' gg p gv nv (.slice la hb.length lc) F hb b ∧ wr'.cell? ⟨ga, 1 + b, none⟩ = some (.int .i64 ((fitP p b : Nat) : Int)) ∧ ga < wr'.heap.size)) (fun kx _ => hb.length - (intOf kx).toNat)
      case atStart => exact ⟨0, rfl, Nat.zero_le _, fun j hj => absurd hj (Nat.not_lt_zero _), unhide HH, unhide HFIT, hg2⟩
      case round =>
        clear hg2 HFIT HL0 HH
        rename World => w2
        obtain ⟨k, rfl, hk, HNO, HH⟩ := hrel
        have hl0 : w2.cell? ⟨gg, 0, none⟩ = some (.slice la hb.length lc) := by rw [cell_of_row _ _ _ _ _ _ (unhide HH).1.bg, graphA_0]
        have hfz := frozen_of_row w2 gg 0 _ _ (unhide HH).1.bg
        have hfz2 := frozen_of_row w2 gg (1 + b) _ _ (unhide HH).1.bg
        have hcb : w2.cell? ⟨gg, 1 + b, none⟩ = some (.int .i64 ((F b : Nat) : Int)) := by rw [cell_of_row _ _ _ _ _ _ (unhide HH).1.bg, graphA_b _ _ _ _ (unhide HBL)]
        have hfit := (unhide HH).2.1
        by_cases hlt : k < hb.length
        · obtain ⟨g2, cap, he, hc⟩ := (unhide HH).1.row.at (k := k) (by rw [List.length_map]; exact hlt)
          rw [getD_map_fit p hlt] at hc
          simp only [Value.slice.injEq, List.length_map, true_and] at he
          obtain ⟨rfl, rfl⟩ := he
          have hlt' : (k : Int) < (hb.length : Int) := by omega
          have HK := hide hlt
          clear hlt
          by_cases heq : fitP p (hb.getD k 0) = fitP p b
          · have HEQ := hide heq
            have HN := hide (SbI.old (unhide HH).1.drew (unhide HBL) (unhide HK) heq.symm)
            rw [heq] at hc
            have hkne : ¬ (k : Int) = (hb.length : Int) := by omega
            generalize fitP p b = y at *
            clear heq
            go_wp2
            go_region
            all_goals
              go_wp2
              go_roundw
              case rel => exact ⟨b + 1, _, _, _, by go_num, unhide HBL, unhide HN⟩
              case measure => have := unhide HBL; simp [left256, intOf]; omega
          · have hne : ¬ ((fitP p (hb.getD k 0) : Nat) : Int) = ((fitP p b : Nat) : Int) := by omega
            have HNO2 : Hid (∀ j, j < k + 1 → fitP p (hb.getD j 0) ≠ fitP p b) := fun j hj => by
              by_cases e : j = k
              · subst e; exact heq
              · exact unhide HNO j (by omega)
            generalize fitP p b = y at *
            generalize fitP p (hb.getD k 0) = z at *
            clear heq
            go_wp2
            go_region
            all_goals
              go_wp2
              go_roundw
              case rel => exact ⟨k + 1, by go_num, unhide HK, unhide HNO2, (unhide HH).1.drew, hfit, (unhide HH).2.2⟩
              case measure => have := unhide HK; simp [intOf]; omega
        · have hk2 : k = hb.length := by omega
          subst hk2
          have hg1 := (unhide HH).1.lt
          have hg2 := (unhide HH).2.2
          have HO2 := hide (World.ownsRow.alloc (unhide HH).1.row (Obj.cells #[.int .i64 ((fitP p b : Nat) : Int)] 3))
          have HS2 := hide (((unhide HH).1.alloc (Obj.cells #[.int .i64 ((fitP p b : Nat) : Int)] 3)).drew.drew)
          have HSZ : Hid (w.heap.size ≤ w2.heap.size) := (unhide HH).1.fr.size
          have HOFF : Hid (∀ q, (Value.slice la hb.length lc).ownBlock = some q → q ≠ gg) := own_off (unhide HH).1.row (unhide HH).1.bg (by decide)
          generalize hy : fitP p b = y at *
          have HY := hide hy
          have hlm : (hb.map (fitP p)).length = hb.length := List.length_map _
          have HLM := hide hlm
          clear hy hlm
          go_wp2
          go_region
          all_goals
            go_wp2
            go_region_law (refine step_append_own (by rfl) _ _ _ (by rfl) w.heap.size 3 i (.int .i64 0) 1 8 Try.underlying53 (unhide HI).1 (unhide HI).2.1 (unhide HI).2.2.1 (unhide HI).2.2.2 rfl (by decide) _ _ _ (by rfl) (by exact unhide HO2) ⟨w2.heap.size, 0, none⟩ 1 1 [.int .i64 (y : Int)] (by rfl) rfl (by exact cell_one_new _ _ _) (by intro u hu; simp at hu; subst hu; rfl) (by have := unhide HLL; have := unhide HLM; unfold maxLen; omega) (by have := unhide HLL; have := unhide HLM; omega) (by have := unhide HSZ; simp; omega) ?_; intro v' w3 ho3 hgrow; have hb3 : w3.heap[gg]? = _ := (hgrow.block gg (by simp; omega) (fun e => unhide HOFF gg e.symm rfl)).trans (unhide HS2).bg; have y0 : w3.cell? ⟨gg, 0, none⟩ = some (.slice la hb.length lc) := (by rw [cell_of_row _ _ _ _ _ _ hb3, graphA_0]); have y1 : w3.cell? ⟨gg, 1 + b, none⟩ = some (.int .i64 ((F b : Nat) : Int)) := (by rw [cell_of_row _ _ _ _ _ _ hb3, graphA_b _ _ _ _ (unhide HBL)]); have z0 := frozen_of_row w3 gg 0 _ _ hb3; have z1 := frozen_of_row w3 gg (1 + b) _ _ hb3; have HN := hide (SbI.new (unhide HS2) (unhide HBL) (by rw [unhide HY]; exact unhide HNO) hgrow (by rw [unhide HY]; exact ho3)); obtain ⟨va3, n3, vc3, rfl⟩ := own_slice ho3; clear hb3 ho3 hgrow)
            all_goals
              go_wp2
              go_roundw
              case rel => exact ⟨b + 1, _, _, _, by go_num, unhide HBL, unhide HN⟩
              case measure => have := unhide HBL; simp [left256, intOf]; omega
    · have hb2 : b = 256 := by have := unhide HB; omega
      subst hb2
      go_wp2
      go_end0
      exact ⟨rfl, _, _, _, unhide HH⟩

end Go.Proofs.Ytobfpgoepaeknaa
