/-
  The document's answer: its nodes in memory; but.
-/
import Derived.Test.YtohefinejdfhaaaRe
namespace Go.Proofs.Ytohefinejdfhaaa
open Go.RowKit

/-- The 261 cells of a node. -/
def rnA (r : Rn) : Array Value := #[.int .i64 r.kind, .int .i64 r.l, .int .i64 r.r, .int .i64 r.m, .int .i64 r.n] ++ setA r.f

theorem size_rnA (r : Rn) : (rnA r).size = 261 := by simp [rnA, size_setA]
theorem get_rnA (r : Rn) (k : Nat) (h : k < 256) : (rnA r)[5 + k]? = some (.bool (r.f k)) := by
  unfold rnA
  rw [Array.getElem?_append_right (by simp)]
  simp only [List.size_toArray, List.length_cons, List.length_nil, Nat.zero_add, Nat.add_sub_cancel_left]
  exact get_setA r.f k h
theorem rnA_one (r : Rn) : (rnA r).all (·.oneCell') = true := by
  unfold rnA
  rw [Array.all_append, setA_one]
  simp [Value.oneCell']
theorem rnA_set (r : Rn) (k : Nat) (v : Bool) : (rnA r).setIfInBounds (5 + k) (.bool v) = rnA ⟨r.kind, r.l, r.r, r.m, r.n, fun j => if j = k then v else r.f j⟩ := by
  unfold rnA
  rw [← setA_set]
  rw [Array.setIfInBounds_append_right (by simp)]
  simp
theorem rnA_kind (r : Rn) (v : Int) : (rnA r).setIfInBounds 0 (.int .i64 v) = rnA ⟨v, r.l, r.r, r.m, r.n, r.f⟩ := by
  unfold rnA
  rw [Array.setIfInBounds_append_left (by simp)]
  simp
theorem rnA_l (r : Rn) (v : Int) : (rnA r).setIfInBounds 1 (.int .i64 v) = rnA ⟨r.kind, v, r.r, r.m, r.n, r.f⟩ := by
  unfold rnA
  rw [Array.setIfInBounds_append_left (by simp)]
  simp
theorem rnA_r (r : Rn) (v : Int) : (rnA r).setIfInBounds 2 (.int .i64 v) = rnA ⟨r.kind, r.l, v, r.m, r.n, r.f⟩ := by
  unfold rnA
  rw [Array.setIfInBounds_append_left (by simp)]
  simp
theorem rnA_m (r : Rn) (v : Int) : (rnA r).setIfInBounds 3 (.int .i64 v) = rnA ⟨r.kind, r.l, r.r, v, r.n, r.f⟩ := by
  unfold rnA
  rw [Array.setIfInBounds_append_left (by simp)]
  simp
theorem rnA_n (r : Rn) (v : Int) : (rnA r).setIfInBounds 4 (.int .i64 v) = rnA ⟨r.kind, r.l, r.r, r.m, v, r.f⟩ := by
  unfold rnA
  rw [Array.setIfInBounds_append_left (by simp)]
  simp
theorem rnA_congr {r r' : Rn} (h0 : r.kind = r'.kind) (h1 : r.l = r'.l) (h2 : r.r = r'.r) (h3 : r.m = r'.m) (h4 : r.n = r'.n) (h : ∀ j, j < 256 → r.f j = r'.f j) : rnA r = rnA r' := by
  unfold rnA
  rw [h0, h1, h2, h3, h4, setA_congr h]
theorem zero78 : Try.zeroCells132 = rnA ⟨0, 0, 0, 0, 0, noSet⟩ := by kernel_rfl
theorem info78 : (Try.prog.info? 132).map (·.size) = some 261 := by kernel_rfl

def butTo (f : Nat → Bool) (k : Nat) : Nat → Bool := fun j => if j < k then !f j else false
def butR (r : Rn) : Rn := ⟨2, 0, 0, 0, 0, fun j => !r.f j⟩

theorem butTo_step (f : Nat → Bool) (k : Nat) : rnA ⟨2, 0, 0, 0, 0, fun j => if j = k then !f k else butTo f k j⟩ = rnA ⟨2, 0, 0, 0, 0, butTo f (k + 1)⟩ := by
  refine rnA_congr rfl rfl rfl rfl rfl (fun j _ => ?_)
  simp only [butTo]
  by_cases e : j = k
  · subst e; simp
  · simp [e, show (j < k + 1) = (j < k) from propext ⟨fun _ => by omega, fun _ => by omega⟩]

theorem heap3_0 (w : World) (A B C : Obj) : (((w.alloc A).alloc B).alloc C).heap[w.heap.size]? = some A := by
  rw [Below.heap_alloc _ _ _ (by simp; omega)]; exact heap_alloc2_old w A B
theorem heap3_1 (w : World) (A B C : Obj) : (((w.alloc A).alloc B).alloc C).heap[w.heap.size + 1]? = some B := by
  rw [Below.heap_alloc _ _ _ (by simp)]; exact heap_alloc2_new w A B
theorem heap3_2 (w : World) (A B C : Obj) : (((w.alloc A).alloc B).alloc C).heap[w.heap.size + 2]? = some C := by
  have := heap_alloc_new ((w.alloc A).alloc B) C
  simpa using this

set_option maxHeartbeats 1000000 in
theorem but_any (w : World) (r : Rn) :
    Calls Try.prog 171 #[.agg (rnA r)] w fun e w' => e = .returned (.agg (rnA (butR r))) ∧ Below w.heap.size w w' := by
  have HA := hide (heap3_0 w (Obj.cells (rnA r) 132) (Obj.cells Try.zeroCells132 132) (Obj.cells Try.zeroCells132 132))
  have HB := hide (heap3_1 w (Obj.cells (rnA r) 132) (Obj.cells Try.zeroCells132 132) (Obj.cells Try.zeroCells132 132))
  have HC := hide (heap3_2 w (Obj.cells (rnA r) 132) (Obj.cells Try.zeroCells132 132) (Obj.cells Try.zeroCells132 132))
  have hB : Below w.heap.size w (((w.alloc (Obj.cells (rnA r) 132)).alloc (Obj.cells Try.zeroCells132 132)).alloc (Obj.cells Try.zeroCells132 132)) := (((Below.refl _ _).alloc (Nat.le_refl _) _).alloc (by simp) _).alloc (by simp; omega) _
  have HBel := hide hB
  clear hB
  have hz2 : Try.zeroCells132.setIfInBounds 0 (.int .i64 2) = rnA ⟨2, 0, 0, 0, 0, noSet⟩ := by rw [zero78, rnA_kind]
  have HZ2 := hide hz2
  clear hz2
  go_enter Try.func171, Try.ntmps171
  go_wp2_with (refine wpList_store_row0 rfl 132 _ _ rfl rfl (w.heap.size + 2) _ rfl rfl 132 _ (unhide HC) (by rw [unhide HZ2, size_rnA]; exact info78) (by rw [unhide HZ2, zero78, size_rnA, size_rnA]) (by rw [unhide HZ2]; exact rnA_one _) ?_)
  have HA2 := hide ((setRow_other (((w.alloc (Obj.cells (rnA r) 132)).alloc (Obj.cells Try.zeroCells132 132)).alloc (Obj.cells Try.zeroCells132 132)) (w.heap.size + 2) w.heap.size (Try.zeroCells132.setIfInBounds 0 (.int .i64 2)) (by omega)).trans (unhide HA))
  have HB2 := hide ((setRow_other (((w.alloc (Obj.cells (rnA r) 132)).alloc (Obj.cells Try.zeroCells132 132)).alloc (Obj.cells Try.zeroCells132 132)) (w.heap.size + 2) (w.heap.size + 1) (Try.zeroCells132.setIfInBounds 0 (.int .i64 2)) (by omega)).trans (unhide HB))
  have HC2 := hide (setRow_heap _ _ _ (Try.zeroCells132.setIfInBounds 0 (.int .i64 2)) _ _ (unhide HC))
  have HBel2 := hide (below_setRow (unhide HBel) (g := w.heap.size + 2) (by omega) (Try.zeroCells132.setIfInBounds 0 (.int .i64 2)))
  clear HA HB HC HBel
  generalize (((w.alloc (Obj.cells (rnA r) 132)).alloc (Obj.cells Try.zeroCells132 132)).alloc (Obj.cells Try.zeroCells132 132)).setRow (w.heap.size + 2) (Try.zeroCells132.setIfInBounds 0 (.int .i64 2)) = w0 at *
  go_loopw [4] (fun i wr => ∃ k : Nat, i = .int .i64 k ∧ Hid (k ≤ 256 ∧ Below w.heap.size w wr ∧ wr.heap[w.heap.size]? = some (Obj.cells (rnA r) 132 (0, 0)) ∧ wr.heap[w.heap.size + 1]? = some (Obj.cells Try.zeroCells132 132 (0, 0)) ∧ wr.heap[w.heap.size + 1 + 1]? = some (Obj.cells (rnA ⟨2, 0, 0, 0, 0, butTo r.f k⟩) 132 (0, 0)))) (fun i _ => left256 i)
  case atStart => exact ⟨0, rfl, by omega, unhide HBel2, unhide HA2, unhide HB2, by rw [show rnA ⟨2, 0, 0, 0, 0, butTo r.f 0⟩ = rnA ⟨2, 0, 0, 0, 0, noSet⟩ from rnA_congr rfl rfl rfl rfl rfl (fun j _ => by simp [butTo, noSet]), ← unhide HZ2]; exact unhide HC2⟩
  case round =>
    rename_i wr
    obtain ⟨k, rfl, H⟩ := hrel
    obtain ⟨hk, hb, ha, hz, hc⟩ := unhide H
    have HB := hide hb
    have HA := hide ha
    have HZ := hide hz
    have HC := hide hc
    clear H HA2 HB2 HC2 HBel2
    by_cases hlt : k < 256
    · have x1 : wr.cell? ⟨w.heap.size, 5 + k, none⟩ = some (.bool (r.f k)) := by rw [cell_of_row _ _ _ _ _ _ ha, get_rnA _ _ hlt]
      have x2 : wr.cell? ⟨w.heap.size + 1 + 1, 5 + k, none⟩ = some (.bool (butTo r.f k k)) := by rw [cell_of_row _ _ _ _ _ _ hc, get_rnA _ _ hlt]
      have x3 : wr.frozen? ⟨w.heap.size + 1 + 1, 5 + k, none⟩ = false := frozen_of_row _ _ _ _ _ hc
      have hlt' : (k : Int) < 256 := by omega
      have HL := hide hlt
      generalize butTo r.f k k = v0 at x2
      clear hb ha hz hc hk hlt
      go_wp2
      go_roundw
      case rel =>
        refine ⟨k + 1, by go_num, by have := unhide HL; omega, (unhide HB).setCell (by simp; omega) _, by rw [heap_setCell_other _ _ _ _ (by simp; omega)]; exact unhide HA, by rw [heap_setCell_other _ _ _ _ (by simp)]; exact unhide HZ, ?_⟩
        rw [heap_setCell_same _ _ _ _ _ _ (unhide HC), rnA_set, butTo_step]
      case measure => have := unhide HL; simp [left256, intOf]; omega
    · have hk2 : k = 256 := by omega
      subst hk2
      clear hb ha hz hc
      go_wp2_with (first
        | refine wpList_load_row rfl 132 _ rfl (w.heap.size + 1 + 1) rfl 132 _ (0, 0) _ (unhide HC) Try.underlying132 rfl (by rw [size_rnA]; exact info78) ?_
        | refine wpList_store_row0 rfl 132 _ _ rfl rfl (w.heap.size + 1) _ rfl rfl 132 _ (unhide HZ) (by rw [size_rnA]; exact info78) (by rw [zero78, size_rnA, size_rnA]) (rnA_one _) ?_)
      have hfin : rnA ⟨2, 0, 0, 0, 0, butTo r.f 256⟩ = rnA (butR r) := rnA_congr rfl rfl rfl rfl rfl (fun j hj => by simp [butTo, butR, hj])
      exact bodyPost_ret (v := .agg (rnA ⟨2, 0, 0, 0, 0, butTo r.f 256⟩))
        (results_cell_row (p := 2) (ty := 132) rfl _ _ (w.heap.size + 1) 132 _ (0, 0) _ rfl (setRow_heap _ _ _ _ _ _ (unhide HZ)) Try.underlying132 rfl (by rw [size_rnA]; exact info78))
        rfl ⟨by rw [hfin], below_setRow (unhide HB) (by omega) _⟩

end Go.Proofs.Ytohefinejdfhaaa
