/-
  The automaton: setAt.
-/
import Derived.Test.YtohefinejdfhaabWh
import Derived.Test.YtohefinejdfhaabGn
namespace Go.Proofs.Ytohefinejdfhaab
open Go.RowKit
attribute [local go_sem ↓] zvS
attribute [local go_sem] zcS_size zcS_ne
attribute [local go_sem ↓] Go.wp_at_zero Go.wp_at_succ

/-- The sets in memory. -/
def FsRow (w : World) (B : Nat) (v : Value) (fs : List (Nat → Bool)) : Prop := w.ownsRow B 109 256 v fs.length (setsCells fs)
theorem FsRow.below {w w' : World} {B : Nat} {v : Value} {fs : List (Nat → Bool)} (h : FsRow w B v fs) (hb : Below w.heap.size w w') : FsRow w' B v fs := own_below h hb
theorem FsRow.form {w : World} {B : Nat} {v : Value} {fs : List (Nat → Bool)} (h : FsRow w B v fs) : (∃ a c, v = .slice a fs.length c) := by
  rcases h.2 with ⟨rfl, h0⟩ | ⟨g, cap, cur, rfl, _⟩
  · exact ⟨none, 0, by rw [h0]⟩
  · exact ⟨_, _, rfl⟩

theorem set_cells {w : World} {B g cap : Nat} {fs : List (Nat → Bool)} (h : FsRow w B (.slice (some ⟨g, 0, none⟩) fs.length cap) fs) (k : Nat) (f : Nat → Bool) (hk : fs[k]? = some f) :
    ∀ j v, (setA f).toList[j]? = some v → w.cell? ((⟨g, k * 256, none⟩ : Addr).add j) = some v := by
  have key : ∀ (l : List (Nat → Bool)) (k : Nat) (j : Nat) (v : Value), l[k]? = some f → (setA f).toList[j]? = some v → (setsCells l)[k * 256 + j]? = some v := by
    intro l
    induction l with
    | nil => intro k j v h; simp at h
    | cons a l ih =>
      intro k j v h hv
      have e : setsCells (a :: l) = (setA a).toList ++ setsCells l := by simp [setsCells]
      rw [e]
      have hl : (setA a).toList.length = 256 := by rw [Array.length_toList, size_setA]
      have hj : j < 256 := by
        have := (List.getElem?_eq_some_iff.1 hv).1
        rwa [Array.length_toList, size_setA] at this
      cases k with
      | zero =>
        simp only [List.getElem?_cons_zero, Option.some.injEq] at h
        subst h
        rw [List.getElem?_append_left (by rw [hl]; omega), Nat.zero_mul, Nat.zero_add]
        exact hv
      | succ k =>
        rw [List.getElem?_append_right (by rw [hl]; omega), hl]
        have := ih k j v (by simpa using h) hv
        rw [show (k + 1) * 256 + j - 256 = k * 256 + j from by omega]
        exact this
  intro j v hv
  have h1 := key fs k j v hk hv
  have h' : w.ownsRow B 109 256 (.slice (some ⟨g, 0, none⟩) fs.length cap) fs.length (setsCells fs) := h
  have h2 := h'.cells (g := g) rfl _ _ h1
  have hadd : (⟨g, 0, none⟩ : Addr).add (k * 256 + j) = (⟨g, k * 256, none⟩ : Addr).add j := by unfold Addr.add; split <;> split <;> simp_all
  rwa [hadd] at h2

theorem setOf_neg {fs : List (Nat → Bool)} {z : Int} (h : z < 0) : setOf fs z = fun _ => false := by unfold setOf; rw [if_neg (by omega)]
theorem setOf_over {fs : List (Nat → Bool)} {z : Int} (h : (fs.length : Int) ≤ z) : setOf fs z = fun _ => false := by
  unfold setOf; rw [if_pos (by omega), List.getElem?_eq_none (by omega)]; rfl
theorem setOf_at {fs : List (Nat → Bool)} {k : Nat} {f : Nat → Bool} (h : fs[k]? = some f) : setOf fs (k : Int) = f := by
  unfold setOf; rw [if_pos (by omega), Int.toNat_natCast, h]; rfl

set_option maxHeartbeats 400000 in
theorem setAt_any (w : World) (na : Option Addr) (nn nc : Nat) (sv : Value) (fs : List (Nat → Bool)) (z : Int) (B : Nat) (h : FsRow w B sv fs) (hl : fs.length ≤ 1000) :
    Calls Try.prog 58 #[.agg #[.slice na nn nc, sv], .int .i64 z] w fun e w' => e = .returned (.agg (setA (setOf fs z))) ∧ Below w.heap.size w w' := by
  obtain ⟨sa, sc, rfl⟩ := h.form
  have H := hide h
  have HT := hide (heap_alloc2_old w (Obj.cells #[.slice na nn nc, .slice sa fs.length sc] 70) (Obj.cells zcS 109))
  have HZ := hide (heap_alloc2_new w (Obj.cells #[.slice na nn nc, .slice sa fs.length sc] 70) (Obj.cells zcS 109))
  have HB := hide (((Below.refl w.heap.size w).alloc (Nat.le_refl _) (Obj.cells #[.slice na nn nc, .slice sa fs.length sc] 70)).alloc (by simp) (Obj.cells zcS 109))
  have hlI : (fs.length : Int) ≤ 1000 := by omega
  clear h hl
  by_cases hz : z < 0
  · rw [setOf_neg hz]
    go_enter Try.func58, Try.ntmps58
    go_wp2_with (refine wpList_store_row rfl 109 _ _ rfl (w.heap.size + 1) zcS rfl rfl 109 _ (unhide HZ) (by rw [zero84, size_setA]; kernel_rfl) rfl (by rw [zero84]; exact setA_one _) ?_)
    exact bodyPost_ret (v := .agg (setA fun _ => false))
        (by rw [← zero84]; exact results_cell_row (p := 4) (ty := 109) rfl _ _ (w.heap.size + 1) 109 _ (0, 0) _ rfl (setRow_heap _ _ _ _ _ _ (unhide HZ)) Try.underlying109 rfl (by rw [zero84, size_setA]; kernel_rfl))
        rfl ⟨rfl, below_setRow (unhide HB) (by omega) _⟩
  · by_cases hz2 : (fs.length : Int) ≤ z
    · rw [setOf_over hz2]
      have hz0 : 0 ≤ z := by omega
      clear hz
      go_enter Try.func58, Try.ntmps58
      go_wp2_with (refine wpList_store_row rfl 109 _ _ rfl (w.heap.size + 1) zcS rfl rfl 109 _ (unhide HZ) (by rw [zero84, size_setA]; kernel_rfl) rfl (by rw [zero84]; exact setA_one _) ?_)
      exact bodyPost_ret (v := .agg (setA fun _ => false))
        (by rw [← zero84]; exact results_cell_row (p := 4) (ty := 109) rfl _ _ (w.heap.size + 1) 109 _ (0, 0) _ rfl (setRow_heap _ _ _ _ _ _ (unhide HZ)) Try.underlying109 rfl (by rw [zero84, size_setA]; kernel_rfl))
        rfl ⟨rfl, below_setRow (unhide HB) (by omega) _⟩
    · obtain ⟨k, rfl⟩ := Int.eq_ofNat_of_zero_le (show 0 ≤ z by omega)
      have hk : k < fs.length := by omega
      have hkI : (k : Int) < (fs.length : Int) := by omega
      have hf : fs[k]? = some fs[k] := List.getElem?_eq_getElem hk
      rw [setOf_at hf]
      obtain ⟨m, hm⟩ : ∃ m, fs.length = m + 1 := ⟨fs.length - 1, by omega⟩
      obtain ⟨g, cap, he⟩ : ∃ g cap, Value.slice sa fs.length sc = .slice (some ⟨g, 0, none⟩) fs.length cap := by
        have h' : w.ownsRow B 109 256 (.slice sa fs.length sc) fs.length (setsCells fs) := unhide H
        rw [hm] at h' ⊢; exact own_form h'
      simp only [Value.slice.injEq, true_and] at he
      obtain ⟨rfl, rfl⟩ := he
      have HC := hide (set_cells ((unhide H).below (unhide HB)) k _ hf)
      generalize fs[k] = f at *
      clear hz hz2 hf hm hk
      go_enter Try.func58, Try.ntmps58
      go_wp2_with (first
        | refine wpList_load_mid rfl 109 _ rfl ⟨g, k * 256, none⟩ rfl (setA f) (unhide HC) _ Try.underlying109 rfl (by rw [size_setA]; kernel_rfl) ?_
        | refine wpList_store_row rfl 109 _ _ rfl (w.heap.size + 1) _ rfl rfl 109 _ (unhide HZ) (by rw [size_setA]; kernel_rfl) (by rw [zero84, size_setA, size_setA]) (setA_one _) ?_)
      exact bodyPost_ret (v := .agg (setA f))
        (results_cell_row (p := 4) (ty := 109) rfl _ _ (w.heap.size + 1) 109 _ (0, 0) _ rfl (setRow_heap _ _ _ _ _ _ (unhide HZ)) Try.underlying109 rfl (by rw [size_setA]; kernel_rfl))
        rfl ⟨rfl, below_setRow (unhide HB) (by omega) _⟩

end Go.Proofs.Ytohefinejdfhaab
