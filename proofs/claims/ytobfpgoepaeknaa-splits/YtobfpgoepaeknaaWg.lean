/-
  Parts: timesPart, partOf.
-/
import Derived.Test.YtobfpgoepaeknaaWf
namespace Go.Proofs.Ytobfpgoepaeknaa
open Go.RowKit

/-- The nodes in memory. -/
def NdRow (w : World) (v : Value) (ns : List Nd) : Prop := w.ownsRow 0 109 6 v ns.length (nodeCells ns)
theorem NdRow.below {w w' : World} {v : Value} {ns : List Nd} (h : NdRow w v ns) (hb : Below w.heap.size w w') : NdRow w' v ns := own_below h hb

/-- What partOf does at node i. -/
def DoesP (ns : List Nd) (fs : List (Nat → Bool)) (nv sv : Value) (i : Int) (p : Part) : Prop :=
  ∀ w, NdRow w nv ns → Calls Try.prog 38 #[.agg #[nv, sv], .int .i64 i] w fun e w' => ∃ v, e = .returned v ∧ PartAt w' v fs p ∧ Below w.heap.size w w'

def ndA (n : Nd) : Array Value := #[.int .i64 n.kind, .int .i64 n.left, .int .i64 n.right, .int .i64 n.low, .int .i64 n.high, .int .i64 n.set]

theorem empty_at (w : World) (fs : List (Nat → Bool)) : PartAt w (.agg #[.bool true, .int .i64 0, .int .i64 0, .slice none 0 0, .slice none 0 0]) fs emptyN := ⟨_, _, [], rfl, World.ownsRow_nil _ _ _ _, World.ownsRow_nil _ _ _ _, rfl⟩
theorem void_at (w : World) (fs : List (Nat → Bool)) : PartAt w (.agg #[.bool false, .int .i64 0, .int .i64 0, .slice none 0 0, .slice none 0 0]) fs voidN := ⟨_, _, [], rfl, World.ownsRow_nil _ _ _ _, World.ownsRow_nil _ _ _ _, rfl⟩

set_option maxHeartbeats 1000000 in
theorem timesPart_of (ns : List Nd) (fs : List (Nat → Bool)) (g cap sn sc : Nat) (sa : Option Addr) (n : Nd) (x y : Nat) (a : Re) (hx : n.low = (x : Int)) (hy : n.high = (y : Int)) (x9 : x ≤ 9) (y9 : y ≤ 9)
    (ih : x ≤ y → y ≠ 0 → DoesP ns fs (.slice (some ⟨g, 0, none⟩) ns.length cap) (.slice sa sn sc) n.left (partN a)) (hl : x ≤ y → y ≠ 0 → (partN a).next.length * y ≤ 50) (w : World) (hn : NdRow w (.slice (some ⟨g, 0, none⟩) ns.length cap) ns) :
    Calls Try.prog 59 #[.agg #[.slice (some ⟨g, 0, none⟩) ns.length cap, .slice sa sn sc], .agg (ndA n)] w fun e w' => ∃ v, e = .returned v ∧ PartAt w' v fs (partN (.times x y a)) ∧ Below w.heap.size w w' := by
  have t3 := three_blocks w (Obj.cells #[.slice (some ⟨g, 0, none⟩) ns.length cap, .slice sa sn sc] 50) (Obj.cells (ndA n) 109) (Obj.cells zeroPart 80)
  have hb3 := three_below w (Obj.cells #[.slice (some ⟨g, 0, none⟩) ns.length cap, .slice sa sn sc] 50) (Obj.cells (ndA n) 109) (Obj.cells zeroPart 80)
  have HT3 := hide t3
  have HB3 := hide hb3
  have HN := hide hn
  clear t3 hb3 hn
  unfold ndA
  rw [hx, hy]
  by_cases c1 : y < x
  · have e1 : partN (.times x y a) = voidN := by rw [partN_times, if_pos c1]
    rw [e1]
    have c1' : (y : Int) < (x : Int) := by omega
    clear ih hl
    go_enter Try.func59, Try.ntmps59
    go_wp2
    refine bodyPost_ret (v := .agg #[.bool false, .int .i64 0, .int .i64 0, .slice none 0 0, .slice none 0 0]) (by simp [results, Try.results59, go_sem]) rfl ?_
    exact ⟨_, rfl, void_at _ _, by exact three_below _ _ _ _⟩
  · have c1' : (x : Int) ≤ (y : Int) := by omega
    by_cases c2 : y = 0
    · subst c2
      have e1 : partN (.times x 0 a) = emptyN := by rw [partN_times, if_neg c1]; rfl
      rw [e1]
      have hx0 : x = 0 := by omega
      subst hx0
      clear ih hl c1 c1'
      go_enter Try.func59, Try.ntmps59
      go_wp2
      refine bodyPost_ret (v := .agg #[.bool true, .int .i64 0, .int .i64 0, .slice none 0 0, .slice none 0 0]) (by simp [results, Try.results59, go_sem]) rfl ?_
      exact ⟨_, rfl, empty_at _ _, by exact three_below _ _ _ _⟩
    · have e1 : partN (.times x y a) = repeatN (partN a) x y := by rw [partN_times, if_neg c1, if_neg c2]
      rw [e1]
      have c2' : ¬ (y : Int) = 0 := by omega
      have HIH := hide (ih (by omega) c2)
      have HL := hide (hl (by omega) c2)
      have H9 := hide (And.intro x9 y9)
      clear ih hl c1 c2 x9 y9
      go_enter Try.func59, Try.ntmps59
      go_wp2_with fail
      refine (unhide HIH _ ((unhide HN).below (by exact three_below _ _ _ _))).mono ?_
      rintro e w1 ⟨v, rfl, hv, hw1⟩
      have k1 := (hw1.block (w.heap.size + 1) (by simp)).trans (three_blocks w _ _ _).2.1
      have k2 := (hw1.block (w.heap.size + 1 + 1) (by simp)).trans (three_blocks w _ _ _).2.2
      have hs1 : w.heap.size + 1 + 1 < w1.heap.size := (Array.getElem?_eq_some_iff.1 k2).1
      have hs0 : w.heap.size + 1 < w1.heap.size := by omega
      have hbw : Below w.heap.size w w1 := (three_below w _ _ _).trans (hw1.mono (by simp; omega))
      have d3 : w1.cell? ⟨w.heap.size + 1, 3, none⟩ = some (.int .i64 (x : Int)) := by rw [cell_of_row _ _ _ _ _ _ k1]; rfl
      have d4 : w1.cell? ⟨w.heap.size + 1, 4, none⟩ = some (.int .i64 (y : Int)) := by rw [cell_of_row _ _ _ _ _ _ k1]; rfl
      have HV := hide hv
      obtain ⟨nv, sv, zs, rfl, v2, v3, v4⟩ := id hv
      obtain ⟨va1, vc1, rfl⟩ := v2.form
      obtain ⟨va2, vc2, rfl⟩ := v3.form
      have HK2 := hide k2
      have HBW := hide hbw
      clear hv v2 v3 v4 hw1 k1 k2 hbw
      go_wp2_with fail
      refine (repeat_any _ _ fs (partN a) x y (PartAt.below (unhide HV) (by exact (Below.refl _ _).alloc (Nat.le_refl _) _)) (partN_ok a) (unhide H9).2 (unhide H9).1 (unhide HL)).mono ?_
      rintro e w2 ⟨v', rfl, hv', hw2⟩
      have k2' := (hw2.block (w.heap.size + 1 + 1) (by simp; omega)).trans ((Below.heap_alloc _ _ _ (by omega)).trans (unhide HK2))
      obtain ⟨q0, q1, q2, q3, q4⟩ := part_cells k2'
      obtain ⟨r0, r1, r2, r3, r4⟩ := part_free k2'
      have HV' := hide hv'
      obtain ⟨nv', sv', zs', rfl, v2', v3', v4'⟩ := id hv'
      obtain ⟨va3, vc3, rfl⟩ := v2'.form
      obtain ⟨va4, vc4, rfl⟩ := v3'.form
      have HBW2 := hide (((unhide HBW).alloc (by omega) _).trans (hw2.mono (by simp; omega)))
      have HK2' := hide k2'
      clear hv' v2' v3' v4' hw2 k2'
      go_wp2
      refine bodyPost_ret (v := .agg #[.bool (repeatN (partN a) x y).empty, .int .i64 ((repeatN (partN a) x y).first : Int), .int .i64 ((repeatN (partN a) x y).last : Int), .slice va3 (repeatN (partN a) x y).next.length vc3, .slice va4 zs'.length vc4]) (by simp [results, Try.results59, go_sem, *]) rfl ?_
      exact ⟨_, rfl, set5_part (unhide HV') ⟨_, _, unhide HK2'⟩, set5_below (unhide HBW2) (by omega)⟩

end Go.Proofs.Ytobfpgoepaeknaa
