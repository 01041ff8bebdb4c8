/-
  Sets of bytes: arrays of 256 bools, by value.
  The reader of patterns: an item of a set, a whole set.
-/
import Derived.Test.YtobfpgoepaeknaaT01
namespace Go.Proofs.Ytobfpgoepaeknaa
open Go.RowKit

/-- The 256 cells of a set. -/
def setA (f : Nat → Bool) : Array Value := Array.ofFn (n := 256) fun i => .bool (f i.val)
def addTo (f : Nat → Bool) (lo hi : Int) (k : Nat) : Nat → Bool := fun j => f j || (decide (j < k) && (decide (lo ≤ (j : Int)) && decide ((j : Int) ≤ hi)))
def notTo (f : Nat → Bool) (k : Nat) : Nat → Bool := fun j => if j < k then !f j else f j

theorem size_setA (f : Nat → Bool) : (setA f).size = 256 := by simp [setA]
/-- The empty set's cells, by a name. -/
def zcS : Array Value := setA fun _ => false
theorem zero84 : zcS = setA (fun _ => false) := rfl
theorem zcS_size : zcS.size = 256 := size_setA _
theorem zcS_ne : zcS ≠ #[] := fun e => by have := zcS_size; rw [e] at this; simp at this
theorem zvS (w : World) : (zeroValue 85).run Try.prog w = .ok (.agg zcS) w := by kernel_rfl
attribute [local go_sem ↓] zvS
attribute [local go_sem] zcS_size zcS_ne
theorem get_setA (f : Nat → Bool) (k : Nat) (h : k < 256) : (setA f)[k]? = some (.bool (f k)) := by simp [setA, h]
theorem setA_congr {f g : Nat → Bool} (h : ∀ j, j < 256 → f j = g j) : setA f = setA g := by
  unfold setA
  congr 1
  funext i
  rw [h i.val i.isLt]
theorem setA_one (f : Nat → Bool) : (setA f).all (·.oneCell') = true := by
  rw [Array.all_eq_true]
  intro i hi
  simp [setA, Value.oneCell']
theorem setA_set (f : Nat → Bool) (k : Nat) (v : Bool) : (setA f).setIfInBounds k (.bool v) = setA (fun j => if j = k then v else f j) := by
  apply Array.ext_getElem?
  intro i
  rw [Array.getElem?_setIfInBounds]
  by_cases hi : i < 256
  · rw [get_setA (fun j => if j = k then v else f j) i hi]
    by_cases hk : k = i
    · subst hk; simp [size_setA, hi]
    · rw [if_neg hk, get_setA f i hi]; simp [show ¬ i = k from fun e => hk e.symm]
  · have h1 : (setA f)[i]? = none := by rw [Array.getElem?_eq_none]; simp [size_setA]; omega
    have h2 : (setA (fun j => if j = k then v else f j))[i]? = none := by rw [Array.getElem?_eq_none]; simp [size_setA]; omega
    rw [h1, h2]
    split
    · rw [if_neg (by simp [size_setA]; omega)]
    · rfl
theorem addTo_yes (f : Nat → Bool) (lo hi : Int) (k : Nat) (h1 : lo ≤ (k : Int)) (h2 : (k : Int) ≤ hi) : (setA (addTo f lo hi k)).setIfInBounds k (.bool true) = setA (addTo f lo hi (k + 1)) := by
  rw [setA_set]
  apply setA_congr
  intro j _
  unfold addTo
  by_cases hj : j = k
  · subst hj; simp [h1, h2]
  · simp [hj, show (j < k + 1) = (j < k) from propext ⟨fun _ => by omega, fun _ => by omega⟩]
theorem addTo_no (f : Nat → Bool) (lo hi : Int) (k : Nat) (h : ¬ (lo ≤ (k : Int) ∧ (k : Int) ≤ hi)) : setA (addTo f lo hi k) = setA (addTo f lo hi (k + 1)) := by
  apply setA_congr
  intro j _
  unfold addTo
  by_cases hj : j = k
  · subst hj
    have : (decide (lo ≤ (j : Int)) && decide ((j : Int) ≤ hi)) = false := by simp; omega
    simp [this]
  · simp [show (j < k + 1) = (j < k) from propext ⟨fun _ => by omega, fun _ => by omega⟩]
theorem addTo_zero (f : Nat → Bool) (lo hi : Int) : setA f = setA (addTo f lo hi 0) := by
  apply setA_congr; intro j _; simp [addTo]
theorem addTo_all (f : Nat → Bool) (lo hi : Int) : setA (addTo f lo hi 256) = setA (addR f lo hi) := by
  apply setA_congr; intro j hj; simp [addTo, addR, hj]
theorem notTo_zero (f : Nat → Bool) : setA f = setA (notTo f 0) := by
  apply setA_congr; intro j _; simp [notTo]
theorem notTo_all (f : Nat → Bool) : setA (notTo f 256) = setA (fun j => !f j) := by
  apply setA_congr; intro j hj; simp [notTo, hj]
theorem notTo_step (f : Nat → Bool) (k : Nat) : (setA (notTo f k)).setIfInBounds k (.bool !(f k)) = setA (notTo f (k + 1)) := by
  rw [setA_set]
  apply setA_congr
  intro j _
  unfold notTo
  by_cases hj : j = k
  · subst hj; simp
  · simp [hj, show (j < k + 1) = (j < k) from propext ⟨fun _ => by omega, fun _ => by omega⟩]


def left256 (i : Value) : Nat := 256 - (intOf i).toNat

theorem below_setRow {B g : Nat} {a w : World} (h : Below B a w) (hg : B ≤ g) (cs : Array Value) : Below B a (w.setRow g cs) :=
  h.trans ⟨rfl, rfl, rfl, by simp, fun k hk => setRow_other w g k cs (by omega)⟩

/-- A whole row stored, where the frame stays as it is. -/
theorem wpList_store_row0 {P : Program} {ops : Array Oper} {rest : List Oper} {o : Oper} {a : Act} {w : World} {Q : Exit → Act → World → Prop} (hgd : o.guard = none) (ty : TypeId) (x y : Operand) (ho : o.op = .store ty x y) (hd : o.dst = none)
    (g : Nat) (cells : Array Value) (hx : a.eval x = .pointer (some ⟨g, 0, none⟩)) (hy : a.eval y = .agg cells)
    (t : TypeId) (old : Array Value) (hg : w.heap[g]? = some (.cells old t (0, 0))) (hi : (P.info? ty).map (·.size) = some cells.size)
    (hold : old.size = cells.size) (h1 : cells.all (·.oneCell') = true)
    (h : wpList P ops Q rest a (w.setRow g cells)) : wpList P ops Q (o :: rest) a w :=
  wpList_store_row hgd ty x y ho g cells hx hy t old hg hi hold h1 (by rw [hd]; exact h)

theorem row_set {w : World} {b k : Nat} {f : Nat → Bool} {v : Bool} (h : w.heap[b]? = some (.cells (setA f) 85 (0, 0))) :
    (w.setCell ⟨b, k, none⟩ (.bool v)).heap[b]? = some (.cells (setA (fun j => if j = k then v else f j)) 85 (0, 0)) := by
  rw [heap_setCell_same w b k (setA f) _ _ h, setA_set]

set_option maxHeartbeats 400000 in
theorem addRange_any (w : World) (f : Nat → Bool) (lo hi : Int)  :
    Calls Try.prog 107 #[.agg (setA f), .int .i64 lo, .int .i64 hi] w fun e w' =>
      e = .returned (.agg (setA (addR f lo hi))) ∧ Below w.heap.size w w' := by
  go_enter Try.func107, Try.ntmps107
  go_wp2
  go_loopw [7] (fun i wr => ∃ k : Nat, k ≤ 256 ∧ i = .int .i64 k ∧ Below w.heap.size w wr ∧ wr.heap[w.heap.size]? = some (Obj.cells (setA (addTo f lo hi k)) 85 (0, 0)) ∧ wr.heap[w.heap.size + 1]? = some (Obj.cells (setA fun _ => false) 85 (0, 0))) (fun i _ => left256 i)
  case atStart => exact ⟨0, by omega, rfl, (((Below.refl _ _).alloc (Nat.le_refl _) _).alloc (by simp) _), by rw [← addTo_zero]; exact heap_alloc2_old _ _ _, by rw [← zero84]; exact heap_alloc2_new _ _ _⟩
  case round =>
    rename_i wr
    obtain ⟨k, hk, rfl, hb, hs, hz⟩ := hrel
    have HB := hide hb
    have HS := hide hs
    have HZ := hide hz
    by_cases hlt : k < 256
    · have hc : wr.cell? ⟨w.heap.size, k, none⟩ = some (.bool (addTo f lo hi k k)) := by rw [cell_of_row _ _ _ _ _ _ hs, get_setA _ _ hlt]
      have hf : wr.frozen? ⟨w.heap.size, k, none⟩ = false := frozen_of_row _ _ _ _ _ hs
      clear hb hs hz hk
      have hlt' : (k : Int) < 256 := by omega
      have HL := hide hlt
      clear hlt
      generalize hv : addTo f lo hi k k = v0 at hc
      clear hv
      by_cases h1 : lo ≤ (k : Int)
      · by_cases h2 : (k : Int) ≤ hi
        · go_wp2
          go_roundw
          case rel => exact ⟨k + 1, by have := unhide HL; omega, by go_num, (unhide HB).setCell (Nat.le_refl _) _, by rw [← addTo_yes f lo hi k h1 h2, heap_setCell_same _ _ _ _ _ _ (unhide HS)], by rw [heap_setCell_other _ _ _ _ (by simp)]; exact unhide HZ⟩
          case measure => have := unhide HL; simp [left256, intOf]; omega
        · go_wp2
          go_roundw
          case rel => exact ⟨k + 1, by have := unhide HL; omega, by go_num, unhide HB, by rw [← addTo_no f lo hi k (by omega)]; exact unhide HS, unhide HZ⟩
          case measure => have := unhide HL; simp [left256, intOf]; omega
      · go_wp2
        go_roundw
        case rel => exact ⟨k + 1, by have := unhide HL; omega, by go_num, unhide HB, by rw [← addTo_no f lo hi k (by omega)]; exact unhide HS, unhide HZ⟩
        case measure => have := unhide HL; simp [left256, intOf]; omega
    · have hk2 : k = 256 := by omega
      subst hk2
      clear hb hs hz
      go_wp2_with (first
        | refine wpList_load_row rfl 85 _ rfl w.heap.size rfl 85 _ (0, 0) _ (unhide HS) Try.underlying85 rfl (by rw [size_setA]; kernel_rfl) ?_
        | refine wpList_store_row rfl 85 _ _ rfl (w.heap.size + 1) _ rfl rfl 85 _ (unhide HZ) (by rw [size_setA]; kernel_rfl) (by rw [size_setA, size_setA]) (setA_one _) ?_)
      exact bodyPost_ret (v := .agg (setA (addTo f lo hi 256)))
        (results_cell_row (p := 6) (ty := 85) rfl _ _ (w.heap.size + 1) 85 _ (0, 0) _ rfl (setRow_heap _ _ _ _ _ _ (unhide HZ)) Try.underlying85 rfl (by rw [size_setA]; kernel_rfl))
        rfl ⟨by rw [addTo_all], below_setRow (unhide HB) (by omega) _⟩

set_option maxHeartbeats 400000 in
theorem complement_any (w : World) (f : Nat → Bool) :
    Calls Try.prog 105 #[.agg (setA f)] w fun e w' =>
      e = .returned (.agg (setA fun j => !f j)) ∧ Below w.heap.size w w' := by
  go_enter Try.func105, Try.ntmps105
  go_wp2
  go_loopw [3] (fun i wr => ∃ k : Nat, k ≤ 256 ∧ i = .int .i64 k ∧ Below w.heap.size w wr ∧ wr.heap[w.heap.size]? = some (Obj.cells (setA (notTo f k)) 85 (0, 0)) ∧ wr.heap[w.heap.size + 1]? = some (Obj.cells (setA fun _ => false) 85 (0, 0))) (fun i _ => left256 i)
  case atStart => exact ⟨0, by omega, rfl, (((Below.refl _ _).alloc (Nat.le_refl _) _).alloc (by simp) _), by rw [← notTo_zero]; exact heap_alloc2_old _ _ _, by rw [← zero84]; exact heap_alloc2_new _ _ _⟩
  case round =>
    rename_i wr
    obtain ⟨k, hk, rfl, hb, hs, hz⟩ := hrel
    have HB := hide hb
    have HS := hide hs
    have HZ := hide hz
    by_cases hlt : k < 256
    · have hc : wr.cell? ⟨w.heap.size, k, none⟩ = some (.bool (f k)) := by rw [cell_of_row _ _ _ _ _ _ hs, get_setA _ _ hlt]; simp [notTo]
      have hf : wr.frozen? ⟨w.heap.size, k, none⟩ = false := frozen_of_row _ _ _ _ _ hs
      clear hb hs hz hk
      have hlt' : (k : Int) < 256 := by omega
      have HL := hide hlt
      clear hlt
      go_wp2
      go_roundw
      case rel => exact ⟨k + 1, by have := unhide HL; omega, by go_num, (unhide HB).setCell (Nat.le_refl _) _, by rw [← notTo_step f k, heap_setCell_same _ _ _ _ _ _ (unhide HS)], by rw [heap_setCell_other _ _ _ _ (by simp)]; exact unhide HZ⟩
      case measure => have := unhide HL; simp [left256, intOf]; omega
    · have hk2 : k = 256 := by omega
      subst hk2
      clear hb hs hz
      go_wp2_with (first
        | refine wpList_load_row rfl 85 _ rfl w.heap.size rfl 85 _ (0, 0) _ (unhide HS) Try.underlying85 rfl (by rw [size_setA]; kernel_rfl) ?_
        | refine wpList_store_row rfl 85 _ _ rfl (w.heap.size + 1) _ rfl rfl 85 _ (unhide HZ) (by rw [size_setA]; kernel_rfl) (by rw [size_setA, size_setA]) (setA_one _) ?_)
      exact bodyPost_ret (v := .agg (setA (notTo f 256)))
        (results_cell_row (p := 2) (ty := 85) rfl _ _ (w.heap.size + 1) 85 _ (0, 0) _ rfl (setRow_heap _ _ _ _ _ _ (unhide HZ)) Try.underlying85 rfl (by rw [size_setA]; kernel_rfl))
        rfl ⟨by rw [notTo_all], below_setRow (unhide HB) (by omega) _⟩

end Go.Proofs.Ytobfpgoepaeknaa
namespace Go.Proofs.Ytobfpgoepaeknaa
open Go.RowKit
attribute [local go_sem ↓] zvS
attribute [local go_sem] zcS_size zcS_ne

theorem grownBy_of_below {w w' : World} (h : Below w.heap.size w w') (r : Option Nat) : w.grownBy w' r :=
  ⟨h.os, h.tape, h.output, h.size, fun k hk _ => h.block k hk⟩
theorem grownBy_setRow {w w1 : World} {r : Option Nat} (h : w.grownBy w1 r) {g : Nat} (hg : w.heap.size ≤ g) (cs : Array Value) : w.grownBy (w1.setRow g cs) r :=
  ⟨h.os, h.tape, h.output, by simpa using h.size, fun k hk hr => by rw [setRow_other w1 g k cs (by omega)]; exact h.block k hk hr⟩

section
variable {w w' : World} {b : Nat} {t : ByteArray} {s : S1} {nv sv : Value}
theorem Post1.alloc (h : Post1 w w' b t s nv sv) (o : Obj) : Post1 w (w'.alloc o) b t s nv sv :=
  ⟨grownBy_alloc h.1 o, by unfold Rd1; rw [Below.heap_alloc _ _ _ h.2.lt]; exact h.2⟩
theorem Post1.below {w2 : World} (h : Post1 w w' b t s nv sv) (k : Below w'.heap.size w' w2) : Post1 w w2 b t s nv sv :=
  ⟨grownBy_trans h.1 (grownBy_of_below k _), by unfold Rd1; rw [k.block _ h.2.lt]; exact h.2⟩
theorem Post1.setRow (h : Post1 w w' b t s nv sv) (hb : b < w.heap.size) {g : Nat} (hg : w.heap.size ≤ g) (cs : Array Value) : Post1 w (w'.setRow g cs) b t s nv sv :=
  ⟨grownBy_setRow h.1 hg cs, by unfold Rd1; rw [setRow_other _ _ _ _ (by omega)]; exact h.2⟩
/-- A block that is not the reader's stands. -/
theorem Post1.other (h : Post1 w w' b t s nv sv) {g : Nat} {o : Obj} (hg : w.heap[g]? = some o) (hne : g ≠ b) : w'.heap[g]? = some o := by
  rw [h.1.block g (Array.getElem?_eq_some_iff.1 hg).1 (by simpa using hne)]; exact hg
end

set_option maxHeartbeats 400000 in
theorem readItem_any (w : World) (b : Nat) (t : ByteArray) (s : S1) (nv sv : Value) (f : Nat → Bool) (h : Rd1 w b t s nv sv)
    (ht : t.size ≤ 60) (hk : s.k ≤ t.size) :
    Calls Try.prog 110 #[.pointer (some ⟨b, 0, none⟩), .agg (setA f)] w fun e w' =>
      e = .returned (.agg (setA (addR f (readItemS t s).1.1 (readItemS t s).1.2))) ∧ Post1 w w' b t (readItemS t s).2 nv sv := by
  have hbl := h.lt
  have P0 : Post1 w ((w.alloc (Obj.cells (setA f) 85)).alloc (Obj.cells zcS 85)) b t s nv sv := ((Post1.refl h).alloc _).alloc _
  have HS0 := hide (heap_alloc2_old w (Obj.cells (setA f) 85) (Obj.cells zcS 85))
  have HZ0 := hide (heap_alloc2_new w (Obj.cells (setA f) 85) (Obj.cells zcS 85))
  have hk1 := readSetByteS_le (t := t) (s := s) hk
  go_enter Try.func110, Try.ntmps110
  go_wp2_with fail
  refine (readSetByte_any _ b t s nv sv P0.2 ht hk).mono ?_
  rintro e w1 ⟨rfl, hw1⟩
  have P1 := P0.trans hw1
  have HS1 := hide (hw1.other (unhide HS0) (by omega))
  have HZ1 := hide (hw1.other (unhide HZ0) (by omega))
  generalize hr1 : readSetByteS t s = r1 at *
  obtain ⟨lo, s1⟩ := r1
  have Hr1 := hide hr1
  clear hr1 HS0 HZ0 P0 hw1
  simp only at hk1 P1
  go_wp2_with fail
  refine (take_any _ b t s1 nv sv 45 P1.2 ht hk1).mono ?_
  rintro e w2 ⟨rfl, hw2⟩
  have P2 := P1.trans hw2
  have HS2 := hide (hw2.other (unhide HS1) (by omega))
  have HZ2 := hide (hw2.other (unhide HZ1) (by omega))
  clear HS1 HZ1 P1 hw2
  by_cases hc : (s1.pk t == 45) = true
  · have hk2 := takeS_le (t := t) (c := 45) (s := s1) (by omega) hk1
    have hk3 := readSetByteS_le (t := t) (s := takeS t 45 s1) hk2
    have HC := hide hc
    generalize hs2 : takeS t 45 s1 = s2 at *
    have Hs2 := hide hs2
    clear hs2
    go_wp2_with fail
    refine (readSetByte_any _ b t s2 nv sv P2.2 ht hk2).mono ?_
    rintro e w3 ⟨rfl, hw3⟩
    have P3 := P2.trans hw3
    have HS3 := hide (hw3.other (unhide HS2) (by omega))
    have HZ3 := hide (hw3.other (unhide HZ2) (by omega))
    generalize hr3 : readSetByteS t s2 = r3 at *
    obtain ⟨hi, s3⟩ := r3
    have Hr3 := hide hr3
    clear hr3 HS2 HZ2 P2 hw3
    simp only at hk3 P3
    go_wp2_with (refine wpList_load_row rfl 85 _ rfl w.heap.size rfl 85 _ (0, 0) _ (unhide HS3) Try.underlying85 rfl (by rw [size_setA]; kernel_rfl) ?_)
    refine (addRange_any _ f lo hi).mono ?_
    rintro e w4 ⟨rfl, hw4⟩
    have P4 := P3.below hw4
    have HZ4 := hide ((hw4.block _ (Array.getElem?_eq_some_iff.1 (unhide HZ3)).1).trans (unhide HZ3))
    clear P3 HS3 HZ3 hw4
    go_wp2_with (refine wpList_store_row rfl 85 _ _ rfl (w.heap.size + 1) _ rfl rfl 85 _ (unhide HZ4) (by rw [size_setA]; kernel_rfl) (by rw [zero84, size_setA, size_setA]) (setA_one _) ?_)
    refine bodyPost_ret (v := .agg (setA (addR f lo hi)))
        (results_cell_row (p := 4) (ty := 85) rfl _ _ (w.heap.size + 1) 85 _ (0, 0) _ rfl (setRow_heap _ _ _ _ _ _ (unhide HZ4)) Try.underlying85 rfl (by rw [size_setA]; kernel_rfl))
        rfl ?_
    have hfin : readItemS t s = ((lo, hi), s3) := by
      simp only [readItemS, unhide Hr1, unhide HC, unhide Hs2, unhide Hr3, if_true]
    rw [hfin]
    exact ⟨rfl, P4.setRow hbl (by omega) _⟩
  · have hc' : (s1.pk t == 45) = false := by simpa using hc
    have e2 : takeS t 45 s1 = s1 := by simp only [takeS, hc']; rfl
    rw [e2] at P2
    have HC := hide hc'
    clear e2 hc
    go_wp2_with (refine wpList_load_row rfl 85 _ rfl w.heap.size rfl 85 _ (0, 0) _ (unhide HS2) Try.underlying85 rfl (by rw [size_setA]; kernel_rfl) ?_)
    refine (addRange_any _ f lo lo).mono ?_
    rintro e w4 ⟨rfl, hw4⟩
    have P4 := P2.below hw4
    have HZ4 := hide ((hw4.block _ (Array.getElem?_eq_some_iff.1 (unhide HZ2)).1).trans (unhide HZ2))
    clear P2 HS2 HZ2 hw4
    go_wp2_with (refine wpList_store_row rfl 85 _ _ rfl (w.heap.size + 1) _ rfl rfl 85 _ (unhide HZ4) (by rw [size_setA]; kernel_rfl) (by rw [zero84, size_setA, size_setA]) (setA_one _) ?_)
    refine bodyPost_ret (v := .agg (setA (addR f lo lo)))
        (results_cell_row (p := 4) (ty := 85) rfl _ _ (w.heap.size + 1) 85 _ (0, 0) _ rfl (setRow_heap _ _ _ _ _ _ (unhide HZ4)) Try.underlying85 rfl (by rw [size_setA]; kernel_rfl))
        rfl ?_
    have hfin : readItemS t s = ((lo, lo), s1) := by
      simp only [readItemS, unhide Hr1, unhide HC]; rfl
    rw [hfin]
    exact ⟨rfl, P4.setRow hbl (by omega) _⟩

end Go.Proofs.Ytobfpgoepaeknaa
