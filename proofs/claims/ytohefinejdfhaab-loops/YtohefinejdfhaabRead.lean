/-
  pattern.Read and veil.Pattern: what they answer, by the reading of a text.
-/
import Derived.Test.YtohefinejdfhaabWgt2
namespace Go.Proofs.Ytohefinejdfhaab
open Go.RowKit

set_option maxHeartbeats 400000 in
theorem Read_long (w : World) (t : ByteArray) (ht : 60 < t.size) :
    Calls Try.prog 35 #[.string t] w fun e w' =>
      e = .returned (.tuple #[.agg #[.slice none 0 0, .slice none 0 0], .int .i64 1, .int .i64 0]) ∧ Below w.heap.size w w' := by
  have ht' : (60 : Int) < (t.size : Int) := by omega
  go_enter Try.func35, Try.ntmps35
  go_wp2
  exact bodyPost_ret (v := .tuple #[.agg #[.slice none 0 0, .slice none 0 0], .int .i64 1, .int .i64 0]) (by simp [results, Try.results35, go_sem]) rfl ⟨rfl, (Below.refl _ _).alloc (Nat.le_refl _) _⟩

theorem ownsRow_less {w : World} {B B' e z : Nat} {v : Value} {n : Nat} {xs : List Value} (h : w.ownsRow B e z v n xs) (hB : B' ≤ B) : w.ownsRow B' e z v n xs := by
  refine ⟨h.1, ?_⟩
  rcases h.2 with h2 | ⟨g, cap, cur, hv, hg, r⟩
  · exact Or.inl h2
  · exact Or.inr ⟨g, cap, cur, hv, Nat.le_trans hB hg, r⟩

theorem below_set2 {B : Nat} {a w : World} {u v : Value} (h : Below B a w) : Below B a ((w.setCell ⟨B, 0, none⟩ u).setCell ⟨B, 1, none⟩ v) :=
  (h.setCell (p := ⟨B, 0, none⟩) (Nat.le_refl _) u).setCell (p := ⟨B, 1, none⟩) (Nat.le_refl _) v
theorem own_slice {w : World} {B e z : Nat} {v : Value} {n : Nat} {xs : List Value} (h : w.ownsRow B e z v n xs) : ∃ a n' c, v = .slice a n' c := by
  rcases h.2 with ⟨h1, _⟩ | ⟨g, cap, cur, hv, _⟩
  · exact ⟨_, _, _, h1⟩
  · exact ⟨_, _, _, hv⟩

theorem readErr_bad {t : ByteArray} {y : St} (h : y.s.bad = true ∨ y.s.k < t.size) : readErr t y = (2, (y.s.k : Int)) := by
  unfold readErr
  rw [if_pos]
  simpa using h
theorem readErr_big {t : ByteArray} {y : St} (h : y.s.bad = false) (h2 : ¬ y.s.k < t.size) (h3 : 12 < lastW (weighAll y.ns)) : readErr t y = (3, 0) := by
  unfold readErr
  rw [if_neg (by simp [h]; omega), if_pos h3]
theorem readErr_ok {t : ByteArray} {y : St} (h : y.s.bad = false) (h2 : ¬ y.s.k < t.size) (h3 : ¬ 12 < lastW (weighAll y.ns)) : readErr t y = (0, lastW (weighAll y.ns)) := by
  unfold readErr
  rw [if_neg (by simp [h]; omega), if_neg h3]

set_option maxHeartbeats 1000000 in
theorem Read_any (w : World) (t : ByteArray) (ht : t.size ≤ 60) :
    Calls Try.prog 35 #[.string t] w fun e w' => ∃ y i nv sv, Rds t 0 0 x0 (y, i) ∧
      (∃ a n c, nv = .slice a n c) ∧ (∃ a n c, sv = .slice a n c) ∧ e = .returned (.tuple #[.agg #[nv, sv], .int .i64 (readErr t y).1, .int .i64 (readErr t y).2]) ∧ Below w.heap.size w w' ∧
      ((readErr t y).1 = 0 → w'.ownsRow w.heap.size 157 6 nv y.ns.length (nodeCells y.ns) ∧ w'.ownsRow w.heap.size 109 256 sv y.fs.length (setsCells y.fs)) := by
  have ht' : (t.size : Int) ≤ 60 := by omega
  have R0 : RdS ((w.alloc (Obj.cells #[.slice none 0 0, .slice none 0 0] 70)).alloc (Obj.cells #[.string t, .int .i64 0, .bool false, .slice none 0 0, .slice none 0 0] 100)) (w.heap.size + 1) t x0 := by
    refine ⟨.slice none 0 0, .slice none 0 0, ?_, World.ownsRow_nil _ _ _ _, World.ownsRow_nil _ _ _ _⟩
    exact heap_alloc2_new _ _ _
  have HP := hide (readPattern_any t ht t.size _ _ x0 R0 ⟨Nat.zero_le _, Nat.le_refl _, by simp [x0]; omega⟩ (Nat.sub_le _ _))
  have HT0 := hide (heap_alloc2_old w (Obj.cells #[.slice none 0 0, .slice none 0 0] 70) (Obj.cells #[.string t, .int .i64 0, .bool false, .slice none 0 0, .slice none 0 0] 100))
  have HB0 := hide (((Below.refl w.heap.size w).alloc (Nat.le_refl _) (Obj.cells #[.slice none 0 0, .slice none 0 0] 70)).alloc (by simp) (Obj.cells #[.string t, .int .i64 0, .bool false, .slice none 0 0, .slice none 0 0] 100))
  clear R0
  go_enter Try.func35, Try.ntmps35
  go_wp2_with fail
  refine (unhide HP).mono ?_
  rintro e w1 ⟨y, i, rfl, hr, hb1, nv, sv, h1, h2, h3⟩
  have hy := Rds.facts (x := x0) (Nat.zero_le _) hr
  have hky : y.s.k ≤ t.size := hy.2.1
  have hny : y.ns.length ≤ 1000 := by have := hy.2.2.2; simp [x0] at this; omega
  obtain ⟨fu, hfu⟩ := hr
  have hdo := rdF_ok t fu 0 0 x0 (y, i) hfu (by intro n hn; simp [x0] at hn)
  have hne : y.ns ≠ [] := by have := hdo.2; intro e; rw [e] at this; simp [lays] at this
  have HR := hide (show Rds t 0 0 x0 (y, i) from ⟨fu, hfu⟩)
  have hT1 := (hb1.block w.heap.size (by omega)).trans (unhide HT0)
  have HT1 := hide hT1
  have hB1 := (unhide HB0).trans (hb1.mono (by omega))
  have HB1 := hide hB1
  have t0 : w1.cell? ⟨w.heap.size, 0, none⟩ = some (.slice none 0 0) := by rw [cell_of_row _ _ _ _ _ _ hT1]; rfl
  have t1 : w1.cell? ⟨w.heap.size, 1, none⟩ = some (.slice none 0 0) := by rw [cell_of_row _ _ _ _ _ _ hT1]; rfl
  have u0 : w1.frozen? ⟨w.heap.size, 0, none⟩ = false := frozen_of_row _ _ _ _ _ hT1
  have u1 : w1.frozen? ⟨w.heap.size, 1, none⟩ = false := frozen_of_row _ _ _ _ _ hT1
  obtain ⟨c0, c1, c2, c3, c4⟩ := h1.cells
  obtain ⟨na, nn, nc, rfl⟩ := own_slice h2
  obtain ⟨sa, sn, sc, rfl⟩ := own_slice h3
  have H2 := hide h2
  have H3 := hide h3
  have HD := hide hdo.1
  have hs1 := hB1.size
  have hk60 : (y.s.k : Int) ≤ 60 := by omega
  clear hy hfu hdo hT1 hB1 h1 h2 h3 hb1 HP HT0 HB0
  by_cases hbad : y.s.bad = true
  · have HE := hide (readErr_bad (t := t) (y := y) (Or.inl hbad))
    go_wp2
    go_region
    all_goals go_wp2
    all_goals
      refine bodyPost_ret (v := .tuple #[.agg #[.slice none 0 0, .slice none 0 0], .int .i64 2, .int .i64 (y.s.k : Int)]) (by simp [results, Try.results35, go_sem, t0, t1]) rfl ?_
      exact ⟨y, i, _, _, unhide HR, ⟨_, _, _, rfl⟩, ⟨_, _, _, rfl⟩, by rw [unhide HE], (by first | exact below_set2 (unhide HB1) | exact (below_set2 (unhide HB1)).drew), fun h => by rw [unhide HE] at h; cases h⟩
  · have hbad' : y.s.bad = false := by simpa using hbad
    clear hbad
    by_cases hlt : y.s.k < t.size
    · have HE := hide (readErr_bad (t := t) (y := y) (Or.inr hlt))
      have hlt' : (y.s.k : Int) < (t.size : Int) := by omega
      clear hlt
      go_wp2
      go_region
      all_goals go_wp2
      all_goals
        refine bodyPost_ret (v := .tuple #[.agg #[.slice none 0 0, .slice none 0 0], .int .i64 2, .int .i64 (y.s.k : Int)]) (by simp [results, Try.results35, go_sem, t0, t1]) rfl ?_
        exact ⟨y, i, _, _, unhide HR, ⟨_, _, _, rfl⟩, ⟨_, _, _, rfl⟩, by rw [unhide HE], (by first | exact below_set2 (unhide HB1) | exact (below_set2 (unhide HB1)).drew), fun h => by rw [unhide HE] at h; cases h⟩
    · have hlt' : (t.size : Int) ≤ (y.s.k : Int) := by omega
      have HW := hide (weigh_any w1 _ _ (.slice sa sn sc) y.ns (unhide H2) hny hne (unhide HD))
      have HLT := hide hlt
      clear hlt
      go_wp2_with fail
      refine (unhide HW).mono ?_
      rintro e w2 ⟨rfl, hw2⟩
      have hsz : w.heap.size < w1.heap.size := (Array.getElem?_eq_some_iff.1 (unhide HT1)).1
      have hbl : w.heap.size + 1 < w1.heap.size := block_lt_of_cell c0
      have t0' := (hw2.cell (p := ⟨w.heap.size, 0, none⟩) hsz).trans t0
      have t1' := (hw2.cell (p := ⟨w.heap.size, 1, none⟩) hsz).trans t1
      have u0' := (hw2.frozen (p := ⟨w.heap.size, 0, none⟩) hsz).trans u0
      have u1' := (hw2.frozen (p := ⟨w.heap.size, 1, none⟩) hsz).trans u1
      have d3 := (hw2.cell (p := ⟨w.heap.size + 1, 3, none⟩) hbl).trans c3
      have d4 := (hw2.cell (p := ⟨w.heap.size + 1, 4, none⟩) hbl).trans c4
      have hw2' : Below w.heap.size w w2 := (unhide HB1).trans (hw2.mono (by omega))
      have HB2 := hide hw2'
      have hg2 := grownBy_of_below hw2 none
      have HN2 := hide ((unhide H2).kept hg2 (by cases (Value.slice na nn nc).ownBlock <;> simp))
      have HS2 := hide ((unhide H3).kept hg2 (by cases (Value.slice sa sn sc).ownBlock <;> simp))
      clear t0 t1 u0 u1 c0 c1 c2 c3 c4 hw2 hw2' hg2 HB1 HT1 HW
      by_cases hbig : 12 < lastW (weighAll y.ns)
      · have HE := hide (readErr_big (t := t) (y := y) hbad' (unhide HLT) hbig)
        generalize lastW (weighAll y.ns) = lw at *
        go_wp2
        refine bodyPost_ret (v := .tuple #[.agg #[.slice none 0 0, .slice none 0 0], .int .i64 3, .int .i64 0]) (by simp [results, Try.results35, go_sem, t0', t1']) rfl ?_
        exact ⟨y, i, _, _, unhide HR, ⟨_, _, _, rfl⟩, ⟨_, _, _, rfl⟩, by rw [unhide HE], below_set2 (unhide HB2), fun h => by rw [unhide HE] at h; cases h⟩
      · have HE := hide (readErr_ok (t := t) (y := y) hbad' (unhide HLT) hbig)
        have hbig' : lastW (weighAll y.ns) ≤ 12 := by omega
        clear hbig
        generalize lastW (weighAll y.ns) = lw at *
        go_wp2
        refine bodyPost_ret (v := .tuple #[.agg #[.slice na nn nc, .slice sa sn sc], .int .i64 0, .int .i64 lw]) (by simp [results, Try.results35, go_sem, t0', t1']) rfl ?_
        refine ⟨y, i, _, _, unhide HR, ⟨_, _, _, rfl⟩, ⟨_, _, _, rfl⟩, by rw [unhide HE], below_set2 (unhide HB2), fun _ => ⟨?_, ?_⟩⟩
        · exact ownsRow_less (ownsRow_setCell_below (ownsRow_setCell_below (unhide HN2) (by simp; omega) _) (by simp; omega) _) (by omega)
        · exact ownsRow_less (ownsRow_setCell_below (ownsRow_setCell_below (unhide HS2) (by simp; omega) _) (by simp; omega) _) (by omega)

end Go.Proofs.Ytohefinejdfhaab
