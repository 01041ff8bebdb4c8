/-
  The reader of patterns: an item of a set, a whole set.
-/
import Derived.Test.YtohefinejdfhaabSet
namespace Go.Proofs.Ytohefinejdfhaab
open Go.RowKit
attribute [local go_sem ↓] zvS
attribute [local go_sem] zcS_size zcS_ne

theorem grownBy_of_below {w w' : World} (h : Below w.heap.size w w') (r : Option Nat) : w.grownBy w' r :=
  ⟨h.os, h.tape, h.output, h.size, fun k hk _ => h.block k hk⟩
theorem grownBy_setRow {w w1 : World} {r : Option Nat} (h : w.grownBy w1 r) {g : Nat} (hg : w.heap.size ≤ g) (cs : Array Value) : w.grownBy (w1.setRow g cs) r :=
  ⟨h.os, h.tape, h.output, by simpa using h.size, fun k hk hr => by rw [setRow_other w1 g k cs (by omega)]; exact h.block k hk hr⟩

section
variable {w w' : World} {b : Nat} {t : ByteArray} {s : S1} {nv sv : Value}
theorem Post1.alloc (h : Post1 w w' b t s nv sv) (o : Obj) : Post1 w (w'.alloc o) b t s nv sv :=
  ⟨grownBy_alloc h.1 o, by unfold Rd1; rw [Below.heap_alloc _ _ _ h.2.lt]; exact h.2⟩
theorem Post1.below {w2 : World} (h : Post1 w w' b t s nv sv) (k : Below w'.heap.size w' w2) : Post1 w w2 b t s nv sv :=
  ⟨grownBy_trans h.1 (grownBy_of_below k _), by unfold Rd1; rw [k.block _ h.2.lt]; exact h.2⟩
theorem Post1.setRow (h : Post1 w w' b t s nv sv) (hb : b < w.heap.size) {g : Nat} (hg : w.heap.size ≤ g) (cs : Array Value) : Post1 w (w'.setRow g cs) b t s nv sv :=
  ⟨grownBy_setRow h.1 hg cs, by unfold Rd1; rw [setRow_other _ _ _ _ (by omega)]; exact h.2⟩
/-- A block that is not the reader's stands. -/
theorem Post1.other (h : Post1 w w' b t s nv sv) {g : Nat} {o : Obj} (hg : w.heap[g]? = some o) (hne : g ≠ b) : w'.heap[g]? = some o := by
  rw [h.1.block g (Array.getElem?_eq_some_iff.1 hg).1 (by simpa using hne)]; exact hg
end

set_option maxHeartbeats 400000 in
theorem readItem_any (w : World) (b : Nat) (t : ByteArray) (s : S1) (nv sv : Value) (f : Nat → Bool) (h : Rd1 w b t s nv sv)
    (ht : t.size ≤ 60) (hk : s.k ≤ t.size) :
    Calls Try.prog 158 #[.pointer (some ⟨b, 0, none⟩), .agg (setA f)] w fun e w' =>
      e = .returned (.agg (setA (addR f (readItemS t s).1.1 (readItemS t s).1.2))) ∧ Post1 w w' b t (readItemS t s).2 nv sv := by
  have hbl := h.lt
  have P0 : Post1 w ((w.alloc (Obj.cells (setA f) 109)).alloc (Obj.cells zcS 109)) b t s nv sv := ((Post1.refl h).alloc _).alloc _
  have HS0 := hide (heap_alloc2_old w (Obj.cells (setA f) 109) (Obj.cells zcS 109))
  have HZ0 := hide (heap_alloc2_new w (Obj.cells (setA f) 109) (Obj.cells zcS 109))
  have hk1 := readSetByteS_le (t := t) (s := s) hk
  go_enter Try.func158, Try.ntmps158
  go_wp2_with fail
  refine (readSetByte_any _ b t s nv sv P0.2 ht hk).mono ?_
  rintro e w1 ⟨rfl, hw1⟩
  have P1 := P0.trans hw1
  have HS1 := hide (hw1.other (unhide HS0) (by omega))
  have HZ1 := hide (hw1.other (unhide HZ0) (by omega))
  generalize hr1 : readSetByteS t s = r1 at *
  obtain ⟨lo, s1⟩ := r1
  have Hr1 := hide hr1
  clear hr1 HS0 HZ0 P0 hw1
  simp only at hk1 P1
  go_wp2_with fail
  refine (take_any _ b t s1 nv sv 45 P1.2 ht hk1).mono ?_
  rintro e w2 ⟨rfl, hw2⟩
  have P2 := P1.trans hw2
  have HS2 := hide (hw2.other (unhide HS1) (by omega))
  have HZ2 := hide (hw2.other (unhide HZ1) (by omega))
  clear HS1 HZ1 P1 hw2
  by_cases hc : (s1.pk t == 45) = true
  · have hk2 := takeS_le (t := t) (c := 45) (s := s1) (by omega) hk1
    have hk3 := readSetByteS_le (t := t) (s := takeS t 45 s1) hk2
    have HC := hide hc
    generalize hs2 : takeS t 45 s1 = s2 at *
    have Hs2 := hide hs2
    clear hs2
    go_wp2_with fail
    refine (readSetByte_any _ b t s2 nv sv P2.2 ht hk2).mono ?_
    rintro e w3 ⟨rfl, hw3⟩
    have P3 := P2.trans hw3
    have HS3 := hide (hw3.other (unhide HS2) (by omega))
    have HZ3 := hide (hw3.other (unhide HZ2) (by omega))
    generalize hr3 : readSetByteS t s2 = r3 at *
    obtain ⟨hi, s3⟩ := r3
    have Hr3 := hide hr3
    clear hr3 HS2 HZ2 P2 hw3
    simp only at hk3 P3
    go_wp2_with (refine wpList_load_row rfl 109 _ rfl w.heap.size rfl 109 _ (0, 0) _ (unhide HS3) Try.underlying109 rfl (by rw [size_setA]; kernel_rfl) ?_)
    refine (addRange_any _ f lo hi).mono ?_
    rintro e w4 ⟨rfl, hw4⟩
    have P4 := P3.below hw4
    have HZ4 := hide ((hw4.block _ (Array.getElem?_eq_some_iff.1 (unhide HZ3)).1).trans (unhide HZ3))
    clear P3 HS3 HZ3 hw4
    go_wp2_with (refine wpList_store_row rfl 109 _ _ rfl (w.heap.size + 1) _ rfl rfl 109 _ (unhide HZ4) (by rw [size_setA]; kernel_rfl) (by rw [zero84, size_setA, size_setA]) (setA_one _) ?_)
    refine bodyPost_ret (v := .agg (setA (addR f lo hi)))
        (results_cell_row (p := 4) (ty := 109) rfl _ _ (w.heap.size + 1) 109 _ (0, 0) _ rfl (setRow_heap _ _ _ _ _ _ (unhide HZ4)) Try.underlying109 rfl (by rw [size_setA]; kernel_rfl))
        rfl ?_
    have hfin : readItemS t s = ((lo, hi), s3) := by
      simp only [readItemS, unhide Hr1, unhide HC, unhide Hs2, unhide Hr3, if_true]
    rw [hfin]
    exact ⟨rfl, P4.setRow hbl (by omega) _⟩
  · have hc' : (s1.pk t == 45) = false := by simpa using hc
    have e2 : takeS t 45 s1 = s1 := by simp only [takeS, hc']; rfl
    rw [e2] at P2
    have HC := hide hc'
    clear e2 hc
    go_wp2_with (refine wpList_load_row rfl 109 _ rfl w.heap.size rfl 109 _ (0, 0) _ (unhide HS2) Try.underlying109 rfl (by rw [size_setA]; kernel_rfl) ?_)
    refine (addRange_any _ f lo lo).mono ?_
    rintro e w4 ⟨rfl, hw4⟩
    have P4 := P2.below hw4
    have HZ4 := hide ((hw4.block _ (Array.getElem?_eq_some_iff.1 (unhide HZ2)).1).trans (unhide HZ2))
    clear P2 HS2 HZ2 hw4
    go_wp2_with (refine wpList_store_row rfl 109 _ _ rfl (w.heap.size + 1) _ rfl rfl 109 _ (unhide HZ4) (by rw [size_setA]; kernel_rfl) (by rw [zero84, size_setA, size_setA]) (setA_one _) ?_)
    refine bodyPost_ret (v := .agg (setA (addR f lo lo)))
        (results_cell_row (p := 4) (ty := 109) rfl _ _ (w.heap.size + 1) 109 _ (0, 0) _ rfl (setRow_heap _ _ _ _ _ _ (unhide HZ4)) Try.underlying109 rfl (by rw [size_setA]; kernel_rfl))
        rfl ?_
    have hfin : readItemS t s = ((lo, lo), s1) := by
      simp only [readItemS, unhide Hr1, unhide HC]; rfl
    rw [hfin]
    exact ⟨rfl, P4.setRow hbl (by omega) _⟩

end Go.Proofs.Ytohefinejdfhaab
