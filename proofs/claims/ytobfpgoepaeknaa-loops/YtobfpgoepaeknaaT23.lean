/-
  The suffixes by cuts: what the statement Loops asks Match.
  The law Loops: times.
-/
import Derived.Test.YtobfpgoepaeknaaKh
import Derived.Deep.DeepCutAuto
namespace Go.Proofs.Ytobfpgoepaeknaa
open Go.RowKit
attribute [local go_sem ↓] Go.wp_at_zero Go.wp_at_succ

theorem cut_cat0 (A B : Lang) (s : List Nat) : CutTo A B s 0 (s.length + 1) ↔ catL A B s := by
  constructor
  · rintro ⟨i, _, _, h1, h2⟩; exact ⟨_, _, (List.take_append_drop i s).symm, h1, h2⟩
  · rintro ⟨u, v, rfl, h1, h2⟩
    exact ⟨u.length, Nat.zero_le _, by simp; omega, by rw [List.take_left']; exact h1; rfl, by rw [List.drop_left']; exact h2; rfl⟩
theorem star_cut (A : Lang) (s : List Nat) : starL A s ↔ s = [] ∨ CutTo A (starL A) s 1 (s.length + 1) := by
  constructor
  · intro h
    obtain ⟨k, hk, hp⟩ : ∃ k, k ≤ s.length ∧ pwL A k s := by
      obtain ⟨k, _, hk, hp⟩ := (starL_short A s).1 h
      exact ⟨k, hk, hp⟩
    clear h hk
    induction k generalizing s with
    | zero => exact Or.inl hp
    | succ k ih =>
      obtain ⟨u, v, rfl, h1, h2⟩ := hp
      cases u with
      | nil => exact ih v h2
      | cons c u =>
        refine Or.inr ⟨(c :: u).length, by simp, by simp; omega, ?_, ?_⟩
        · rw [List.take_left']; exact h1; rfl
        · rw [List.drop_left']; exact ⟨k, h2⟩; rfl
  · rintro (rfl | ⟨i, _, _, h1, k, h2⟩)
    · exact ⟨0, rfl⟩
    · exact ⟨k + 1, _, _, (List.take_append_drop i s).symm, h1, h2⟩
theorem plus_cut (A : Lang) (s : List Nat) : plusL A s ↔ catL A (starL A) s := by
  constructor
  · rintro ⟨k, hk, hp⟩
    obtain ⟨j, rfl⟩ : ∃ j, k = j + 1 := ⟨k - 1, by omega⟩
    obtain ⟨u, v, h, h1, h2⟩ := hp
    exact ⟨u, v, h, h1, j, h2⟩
  · rintro ⟨u, v, h, h1, j, h2⟩
    exact ⟨j + 1, by omega, u, v, h, h1, h2⟩
theorem times_over {m n : Nat} (h : n < m) (A : Lang) (s : List Nat) : ¬ timesL m n A s := by rintro ⟨k, h1, h2, _⟩; omega
theorem times_none (A : Lang) (s : List Nat) : timesL 0 0 A s ↔ s = [] := by
  constructor
  · rintro ⟨k, _, h2, h⟩
    have : k = 0 := by omega
    subst this; exact h
  · rintro rfl; exact ⟨0, Nat.le_refl _, Nat.le_refl _, rfl⟩
theorem times_cut {m n : Nat} (hn : 1 ≤ n) (A : Lang) (s : List Nat) : timesL m n A s ↔ catL A (timesL (m - 1) (n - 1) A) s ∨ (m = 0 ∧ s = []) := by
  constructor
  · rintro ⟨k, h1, h2, h⟩
    cases k with
    | zero => exact Or.inr ⟨by omega, h⟩
    | succ k =>
      obtain ⟨u, v, e, g1, g2⟩ := h
      exact Or.inl ⟨u, v, e, g1, k, by omega, by omega, g2⟩
  · rintro (⟨u, v, e, g1, k, h1, h2, g2⟩ | ⟨rfl, rfl⟩)
    · by_cases hm : m ≤ k + 1
      · exact ⟨k + 1, hm, by omega, u, v, e, g1, g2⟩
      · omega
    · exact ⟨0, Nat.le_refl _, by omega, rfl⟩
theorem times_cut0 (i : Nat) (A : Lang) (s : List Nat) : timesL 0 (i + 1) A s ↔ catL A (timesL 0 i A) s ∨ s = [] := by
  rw [times_cut (by omega)]
  simp
theorem times_cutS (j i : Nat) (A : Lang) (s : List Nat) : timesL (j + 1) (i + 1) A s ↔ catL A (timesL j i A) s := by
  rw [times_cut (by omega)]
  simp
theorem empty_bytes (s : ByteArray) : (s.toList == ([] : List UInt8)) = true ↔ bytesN s = [] := by
  rw [ByteArray.toList_eq, beq_iff_eq]
  unfold bytesN
  rw [List.map_eq_nil_iff]

section
variable (w : World) {p s : ByteArray} {x : List Nat} {v : Val} {y : Bool}
theorem says_suf {c : UInt8} {F : Val → Val} (hA : Ga x v) (hx : bytesN p = x) (hS : Gs [c.toNat] F) (hp : p.size ≤ 42) (hw : (F v).2 ≤ 12) (hs : s.size ≤ 16) (hy : y = true ↔ (F v).1 (bytesN s)) :
    Calls Try.prog 13 #[.string (p ++ { data := #[c] }), .string s, .bool y] w fun e w' => e = .returned (.bool true) ∧ Below w.heap.size w w' := by
  have hb : bytesN (p ++ { data := #[c] }) = x ++ [c.toNat] := by rw [bytesN_app, hx]; rfl
  refine says_any w _ s y _ _ (Gi.of hA hS).b.p hb ?_ hw hs hy
  rw [← bytesN_len, hb]
  have h1 := bytesN_len p
  rw [hx] at h1
  simp; omega
/-- The text p{m,n}. -/
def timesB (p : ByteArray) (m n : Nat) : ByteArray := p ++ { data := #[123] } ++ digitsB.extract m (m + 1) ++ { data := #[44] } ++ digitsB.extract n (n + 1) ++ { data := #[125] }
theorem timesB_bytes {m n : Nat} (hx : bytesN p = x) (hm : m ≤ 9) (hn : n ≤ 9) : bytesN (timesB p m n) = x ++ [123, 48 + m, 44, 48 + n, 125] := by
  unfold timesB
  have e1 : bytesN (digitsB.extract m (m + 1)) = [48 + m] := by rw [digits_at m (by omega)]; unfold hexd; rw [if_pos (by omega)]
  have e2 : bytesN (digitsB.extract n (n + 1)) = [48 + n] := by rw [digits_at n (by omega)]; unfold hexd; rw [if_pos (by omega)]
  rw [bytesN_app, bytesN_app, bytesN_app, bytesN_app, bytesN_app, hx, e1, e2]; simp [bytesN]
theorem Gp.times {m n : Nat} (hA : Ga x v) (hm : m ≤ 9) (hn : n ≤ 9) : Gp (x ++ [123, 48 + m, 44, 48 + n, 125]) (timesV m n v) := (Gi.of hA (Gs.times hm hn)).b.p
theorem timesB_size {m n : Nat} (hx : bytesN p = x) (hm : m ≤ 9) (hn : n ≤ 9) (hp : p.size ≤ 42) : (timesB p m n).size ≤ 60 := by
  rw [← bytesN_len, timesB_bytes hx hm hn]
  have h1 := bytesN_len p
  rw [hx] at h1
  simp; omega
theorem says_times {m n : Nat} (hA : Ga x v) (hx : bytesN p = x) (hm : m ≤ 9) (hn : n ≤ 9) (hp : p.size ≤ 42) (hw : (timesV m n v).2 ≤ 12) (hs : s.size ≤ 16) (hy : y = true ↔ timesL m n v.1 (bytesN s)) :
    Calls Try.prog 13 #[.string (timesB p m n), .string s, .bool y] w fun e w' => e = .returned (.bool true) ∧ Below w.heap.size w w' :=
  says_any w _ s y _ _ (Gp.times hA hm hn) (timesB_bytes hx hm hn) (timesB_size hx hm hn hp) hw hs hy
theorem times_wt {m n k : Nat} (h0 : 1 ≤ v.2) (hk : v.2 * (n : Int) ≤ 12) (h : k ≤ n) : (timesV m k v).2 ≤ 12 := by
  show max1 (v.2 * (k : Int)) ≤ 12
  have : v.2 * (k : Int) ≤ v.2 * (n : Int) := Int.mul_le_mul_of_nonneg_left (by omega) (by omega)
  unfold max1; split <;> omega
end

end Go.Proofs.Ytobfpgoepaeknaa
namespace Go.Proofs.Ytobfpgoepaeknaa
open Go.RowKit
attribute [local go_sem ↓] Go.wp_at_zero Go.wp_at_succ

theorem none_bytes (s : ByteArray) : s.toList.isEmpty = true ↔ bytesN s = [] := by
  rw [ByteArray.toList_eq, List.isEmpty_iff]
  unfold bytesN
  rw [List.map_eq_nil_iff]

set_option maxRecDepth 20000 in
set_option maxHeartbeats 1000000 in
theorem times_over_any (w : World) (p s : ByteArray) (m n : Nat) (x : List Nat) (v : Val) (hA : Ga x v) (hx : bytesN p = x) (hp : p.size ≤ 42) (hm : m ≤ 9) (hn : n ≤ 9) (h1 : 1 ≤ v.2) (h2 : v.2 * (n : Int) ≤ 12) (hs : s.size ≤ 16) (c1 : n < m) :
    Calls Try.prog 19 #[.string p, .int .i64 (m : Int), .int .i64 (n : Int), .string s] w fun e w' => e = .returned (.bool true) ∧ Below w.heap.size w w' := by
  have HT := hide (fun w => says_times w (s := s) (y := false) hA hx hm hn hp (times_wt (m := m) h1 h2 (Nat.le_refl n)) hs (no_iff (times_over c1 _ _)))
  have hmI : (m : Int) ≤ 9 := by omega
  have hnI : (n : Int) ≤ 9 := by omega
  have c1' : (n : Int) < (m : Int) := by omega
  clear hA hx hm hn h1 h2 hs c1
  go_enter Try.func19, Try.ntmps19
  go_wp2
  go_quiet (fail)
  go_wp2_with fail
  refine (unhide HT _).mono ?_
  rintro e w1 ⟨rfl, hw1⟩
  go_wp2
  go_ret
  exact ⟨rfl, (below_drewN (Below.refl _ _) _).trans hw1⟩

set_option maxRecDepth 20000 in
set_option maxHeartbeats 1000000 in
theorem times_none_any (w : World) (p s : ByteArray) (x : List Nat) (v : Val) (hA : Ga x v) (hx : bytesN p = x) (hp : p.size ≤ 42) (h1 : 1 ≤ v.2) (hs : s.size ≤ 16) :
    Calls Try.prog 19 #[.string p, .int .i64 ((0 : Nat) : Int), .int .i64 ((0 : Nat) : Int), .string s] w fun e w' => e = .returned (.bool true) ∧ Below w.heap.size w w' := by
  have HT := hide (fun w y hy => says_times w (m := 0) (n := 0) (s := s) (y := y) hA hx (by omega) (by omega) hp (times_wt (m := 0) (n := 0) h1 (by simp) (Nat.le_refl _)) hs (Iff.trans hy (times_none v.1 (bytesN s)).symm))
  clear hA hx h1 hs
  go_enter Try.func19, Try.ntmps19
  go_wp2
  go_quiet (fail)
  go_wp2_with fail
  refine (unhide HT _ _ (none_bytes s)).mono ?_
  rintro e w1 ⟨rfl, hw1⟩
  go_wp2
  go_ret
  exact ⟨rfl, (below_drewN (Below.refl _ _) _).trans hw1⟩

end Go.Proofs.Ytobfpgoepaeknaa
