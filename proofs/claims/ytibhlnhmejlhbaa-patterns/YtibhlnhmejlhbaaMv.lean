/-
  Plain mathematics: what the document's answer makes of a text that the reader has read, and its weight: how parts are joined.
-/
import Derived.Test.YtibhlnhmejlhbaaMu
namespace Go.Proofs.Ytibhlnhmejlhbaa

def p2 (n : Nat) : Int := ((2 ^ n : Nat) : Int)
theorem p2_pos (n : Nat) : 1 ≤ p2 n := by unfold p2; have := Nat.one_le_two_pow (n := n); omega
theorem p2_mono {a b : Nat} (h : a ≤ b) : p2 a ≤ p2 b := by unfold p2; have := Nat.pow_le_pow_right (n := 2) (by omega) h; omega
theorem p2_add (a b : Nat) : p2 (a + b) = p2 a * p2 b := by unfold p2; rw [Nat.pow_add]; simp
theorem p2_succ (a : Nat) : p2 (a + 1) = 2 * p2 a := by rw [p2_add]; show p2 a * 2 = _; omega
theorem p2_sum {a b : Nat} (ha : 1 ≤ a) (hb : 1 ≤ b) : p2 a + p2 b ≤ p2 (a + b) := by
  obtain ⟨a, rfl⟩ : ∃ a', a = a' + 1 := ⟨a - 1, by omega⟩
  obtain ⟨b, rfl⟩ : ∃ b', b = b' + 1 := ⟨b - 1, by omega⟩
  have h1 : p2 a ≤ p2 (a + b) := p2_mono (by omega)
  have h2 : p2 b ≤ p2 (a + b) := p2_mono (by omega)
  rw [show a + 1 + (b + 1) = a + b + 1 + 1 from by omega, p2_succ, p2_succ, p2_succ, p2_succ]
  omega
theorem p2_bar (a b : Nat) : p2 a + p2 b ≤ p2 (a + 1 + b) := by
  have h1 : p2 a ≤ p2 (a + b) := p2_mono (by omega)
  have h2 : p2 b ≤ p2 (a + b) := p2_mono (by omega)
  rw [show a + 1 + b = a + b + 1 from by omega, p2_succ]
  omega
theorem p2_top {n : Nat} (h : n ≤ 60) : p2 n ≤ wTop := Int.le_trans (p2_mono h) (by decide)

/-- The document's answer makes of the text from A to B a node that weighs W. -/
def Ref (tag : Nat) (t : ByteArray) (A B : Nat) (W : Int) (bnd : Nat) : Prop :=
  ∀ rs, ∃ n rs1 k, rfF n tag (t.extract A B) 0 0 rs = some (rs ++ rs1, k) ∧ rs1.length ≤ bnd ∧ Wt (rs ++ rs1) k W

def PatI (t : ByteArray) (A B : Nat) (W : Int) : Prop := A ≤ B ∧ B ≤ t.size ∧ 1 ≤ W ∧ W ≤ p2 (B - A) ∧ Seq' t noPar A B ∧ Ref 0 t A B W (2 * (B - A) + 1)
def BraI (t : ByteArray) (A B : Nat) (W : Int) : Prop := A ≤ B ∧ B ≤ t.size ∧ 1 ≤ W ∧ W ≤ p2 (B - A) ∧ Seq' t noBar A B ∧ Ref 2 t A B W (2 * (B - A) + 1)
def BraJ (t : ByteArray) (A B : Nat) (W : Int) : Prop := A < B ∧ B ≤ t.size ∧ 1 ≤ W ∧ W ≤ p2 (B - A) ∧ Seq' t noBar A B ∧ Ref 2 t A B W (2 * (B - A) - 1)
def PieI (t : ByteArray) (A B : Nat) (W : Int) : Prop := A < B ∧ B ≤ t.size ∧ 1 ≤ W ∧ W ≤ p2 (B - A) ∧ Seq' t noBar A B ∧
  ∀ E, B ≤ E → E ≤ t.size → ∀ rs, ∃ rs1 k, rs1.length ≤ 2 * (B - A) - 1 ∧ Wt (rs ++ rs1) k W ∧ ∀ fin, (∃ n, rfF n 3 (t.extract A E) (B - A) k (rs ++ rs1) = some fin) → ∃ n, rfF n 2 (t.extract A E) 0 0 rs = some fin
def AtoI (t : ByteArray) (A B : Nat) (W : Int) : Prop := A < B ∧ B ≤ t.size ∧ 1 ≤ W ∧ W ≤ p2 (B - A) ∧ StepT t A B ∧ noBar (byteAt t A) = true ∧ Ref 4 t A B W (2 * (B - A) - 1)
def Rest1 (t : ByteArray) (C B : Nat) (S : Int) : Prop := (C = B ∧ S = 0) ∨ (C < B ∧ byteAt t C = 124 ∧ PatI t (C + 1) B S)
def Rest3 (t : ByteArray) (C B : Nat) (S : Int) : Prop := (C = B ∧ S = 0) ∨ BraJ t C B S

theorem pat_join {t : ByteArray} {A C B : Nat} {W S : Int} (h60 : t.size ≤ 60) (h : BraI t A C W) (k : Rest1 t C B S) : PatI t A B (W + S) := by
  obtain ⟨b1, b2, b3, b4, b5, b6⟩ := h
  rcases k with ⟨rfl, rfl⟩ | ⟨k1, k2, q1, q2, q3, q4, q5, q6⟩
  · refine ⟨b1, b2, by omega, by omega, b5.mono (fun c hc => by simp [noBar] at hc; simp [noPar, hc.2]), fun rs => ?_⟩
    obtain ⟨n, rs1, k, e1, e2, e3⟩ := b6 rs
    rw [Int.add_zero]
    obtain ⟨sn, hsn⟩ := b5
    have hs := size_ext (t := t) (a := A) b2
    obtain ⟨m, hm⟩ := read_loop h60 b2 (Nat.le_refl _) rs (rs ++ rs1, k) sn A (Nat.le_refl _) b1 hsn ⟨n + 1, by
      rw [rfF, if_neg (by omega), if_pos (by omega), ext_ext (by omega), Nat.add_zero, show A + (C - A) = C from by omega, e1]
      simp only [Option.bind_some]
      rw [if_pos (by omega)]⟩
    rw [Nat.sub_self] at hm
    exact ⟨m + 1, rs1, k, by rw [rfF]; exact hm, e2, e3⟩
  · have hw := p2_bar (C - A) (B - (C + 1))
    rw [show C - A + 1 + (B - (C + 1)) = B - A from by omega] at hw
    refine ⟨by omega, q2, by omega, by omega, ?_, fun rs => ?_⟩
    · refine Seq'.trans (by omega) (b5.mono (fun c hc => by simp [noBar] at hc; simp [noPar, hc.2])) (Seq'.trans q1 (Seq'.one (by omega) (by rw [k2]; decide) (step_one (by omega) (by omega) (by omega) (by omega))) q5)
    · obtain ⟨n, rs1, k, e1, e2, e3⟩ := b6 rs
      obtain ⟨n2, rs2, kk, g1, g2, g3⟩ := q6 (rs ++ rs1)
      obtain ⟨sn, hsn⟩ := b5
      have hs := size_ext (t := t) (a := A) q2
      have hbd1 : W ≤ wTop := Int.le_trans b4 (p2_top (by omega))
      have hbd2 : S ≤ wTop := Int.le_trans q4 (p2_top (by omega))
      obtain ⟨m, hm⟩ := read_loop h60 q2 (Nat.le_of_lt k1) rs (rs ++ rs1 ++ rs2 ++ [⟨4, k, kk, 0, 0, noSet⟩], ((rs ++ rs1 ++ rs2).length : Int)) sn A (Nat.le_refl _) b1 hsn ⟨max n n2 + 1, by
        rw [rfF, if_neg (by rw [byteAt_win q2 b1 k1, k2]; simp), if_pos (by omega), ext_ext (by omega), Nat.add_zero, show A + (C - A) = C from by omega, rfF_mono n (max n n2) _ _ _ _ _ _ (by omega) e1]
        simp only [Option.bind_some]
        rw [if_neg (by omega), hs, ext_ext (by omega), show A + (C - A + 1) = C + 1 from by omega, show A + (B - A) = B from by omega, rfF_mono n2 (max n n2) _ _ _ _ _ _ (by omega) g1]
        rfl⟩
      rw [Nat.sub_self] at hm
      refine ⟨m + 1, rs1 ++ rs2 ++ [⟨4, k, kk, 0, 0, noSet⟩], ((rs ++ rs1 ++ rs2).length : Int), ?_, ?_, ?_⟩
      · rw [rfF, hm]; simp only [List.append_assoc]
      · simp only [List.length_append, List.length_cons, List.length_nil]; omega
      · have := Wt.sum 4 (Or.inr rfl) (e3.app rs2) g3 (by omega) (by omega) hbd1 hbd2
        simp only [List.append_assoc] at this ⊢
        exact this

theorem br_join {t : ByteArray} {A C B : Nat} {W S : Int} (h60 : t.size ≤ 60) (h : PieI t A C W) (k : Rest3 t C B S) (hns : C < B → atSuffixB (byteAt t C) = false) : BraJ t A B (W + S) := by
  obtain ⟨b1, b2, b3, b4, b5, b6⟩ := h
  rcases k with ⟨rfl, rfl⟩ | ⟨q1, q2, q3, q4, q5, q6⟩
  · refine ⟨b1, b2, by omega, by omega, b5, fun rs => ?_⟩
    obtain ⟨rs1, k, e1, e2, e3⟩ := b6 C (Nat.le_refl _) b2 rs
    have hs := size_ext (t := t) (a := A) b2
    obtain ⟨n, hn⟩ := e3 (rs ++ rs1, k) ⟨1, by
      rw [rfF, if_neg (by omega), if_neg (by omega), if_neg (by omega), if_neg (by omega), if_pos (by omega)]⟩
    rw [Int.add_zero]
    exact ⟨n, rs1, k, hn, e1, e2⟩
  · have hw := p2_sum (a := C - A) (b := B - C) (by omega) (by omega)
    rw [show C - A + (B - C) = B - A from by omega] at hw
    refine ⟨by omega, q2, by omega, by omega, Seq'.trans (by omega) b5 q5, fun rs => ?_⟩
    obtain ⟨rs1, k, e1, e2, e3⟩ := b6 B (by omega) q2 rs
    obtain ⟨n2, rs2, kk, g1, g2, g3⟩ := q6 (rs ++ rs1)
    have hs := size_ext (t := t) (a := A) q2
    have hsx := hns q1
    simp only [atSuffixB, Bool.or_eq_false_iff] at hsx
    have hby := byteAt_win (t := t) q2 (show A ≤ C by omega) q1
    have hbd1 : W ≤ wTop := Int.le_trans b4 (p2_top (by omega))
    have hbd2 : S ≤ wTop := Int.le_trans q4 (p2_top (by omega))
    obtain ⟨n, hn⟩ := e3 (rs ++ rs1 ++ rs2 ++ [⟨3, k, kk, 0, 0, noSet⟩], ((rs ++ rs1 ++ rs2).length : Int)) ⟨n2 + 1, by
      rw [rfF, hby, if_neg (by simp [hsx.1.1.1]), if_neg (by simp [hsx.1.1.2]), if_neg (by simp [hsx.1.2]), if_neg (by simp [hsx.2]), if_neg (by omega), if_pos (by omega), hs, ext_ext (by omega), show A + (C - A) = C from by omega, show A + (B - A) = B from by omega, g1]
      rfl⟩
    refine ⟨n, rs1 ++ rs2 ++ [⟨3, k, kk, 0, 0, noSet⟩], ((rs ++ rs1 ++ rs2).length : Int), ?_, ?_, ?_⟩
    · rw [hn]; simp only [List.append_assoc]
    · simp only [List.length_append, List.length_cons, List.length_nil]; omega
    · have := Wt.sum 3 (Or.inl rfl) (e2.app rs2) g3 (by omega) (by omega) hbd1 hbd2
      simp only [List.append_assoc] at this ⊢
      exact this

/-- Suffixes from A to B upon a node that weighs W0 make W of it. -/
def SufI (t : ByteArray) (A B : Nat) (W0 W : Int) : Prop := A ≤ B ∧ B ≤ t.size ∧ 1 ≤ W ∧ W ≤ W0 * p2 (B - A) ∧ Seq' t noBar A B ∧
  ∀ a0 E rs l, a0 ≤ A → B ≤ E → E ≤ t.size → W0 ≤ p2 (A - a0) → Wt rs l W0 → ∃ rs1 k, rs1.length ≤ 2 * (B - A) ∧ Wt (rs ++ rs1) k W ∧ ∀ fin, (∃ n, rfF n 3 (t.extract a0 E) (B - a0) k (rs ++ rs1) = some fin) → ∃ n, rfF n 3 (t.extract a0 E) (A - a0) l rs = some fin

theorem SufI.refl {t : ByteArray} {A : Nat} {W : Int} (hA : A ≤ t.size) (h : 1 ≤ W) : SufI t A A W W := by
  refine ⟨Nat.le_refl _, hA, h, by rw [Nat.sub_self]; show W ≤ W * 1; omega, Seq'.refl _ _ _, fun a0 E rs l _ _ _ _ hw => ⟨[], l, by simp, by simpa using hw, fun fin hf => by simpa using hf⟩⟩
theorem SufI.trans {t : ByteArray} {A B C : Nat} {W0 W1 W2 : Int} (h : SufI t A B W0 W1) (k : SufI t B C W1 W2) : SufI t A C W0 W2 := by
  obtain ⟨a1, a2, a3, a4, a5, a6⟩ := h
  obtain ⟨b1, b2, b3, b4, b5, b6⟩ := k
  have hp : W1 * p2 (C - B) ≤ W0 * p2 (B - A) * p2 (C - B) := Int.mul_le_mul_of_nonneg_right a4 (by have := p2_pos (C - B); omega)
  rw [Int.mul_assoc, ← p2_add, show B - A + (C - B) = C - A from by omega] at hp
  refine ⟨by omega, b2, b3, by omega, Seq'.trans b1 a5 b5, fun a0 E rs l h1 h2 h3 h4 h5 => ?_⟩
  obtain ⟨rs1, k1, c1, c2, c3⟩ := a6 a0 E rs l h1 (by omega) h3 h4 h5
  have hw1 : W1 ≤ p2 (B - a0) := by
    have : W0 * p2 (B - A) ≤ p2 (A - a0) * p2 (B - A) := Int.mul_le_mul_of_nonneg_right h4 (by have := p2_pos (B - A); omega)
    rw [← p2_add, show A - a0 + (B - A) = B - a0 from by omega] at this
    omega
  obtain ⟨rs2, k2, d1, d2, d3⟩ := b6 a0 E (rs ++ rs1) k1 (by omega) h2 h3 hw1 c2
  refine ⟨rs1 ++ rs2, k2, by simp only [List.length_append]; omega, by rw [← List.append_assoc]; exact d2, fun fin hf => ?_⟩
  rw [← List.append_assoc] at hf
  exact c3 fin (d3 fin hf)

theorem suf_star {t : ByteArray} {A : Nat} {W : Int} (hA : A < t.size) (hc : byteAt t A = 42 ∨ byteAt t A = 43 ∨ byteAt t A = 63) (h1 : 1 ≤ W) : SufI t A (A + 1) W W := by
  have hp : W * 1 ≤ W * p2 (A + 1 - A) := Int.mul_le_mul_of_nonneg_left (p2_pos _) (by omega)
  refine ⟨by omega, hA, h1, by omega, Seq'.one (by omega) (by rcases hc with e | e | e <;> rw [e] <;> decide) (step_one hA (by omega) (by omega) (by omega)), fun a0 E rs l g1 g2 g3 g4 g5 => ?_⟩
  have hs := size_ext (t := t) (a := a0) g3
  have hby := byteAt_win (t := t) g3 g1 (show A < E by omega)
  rcases hc with e | e | e
  · refine ⟨[⟨5, l, 0, 0, 0, noSet⟩], (rs.length : Int), by simp, Wt.same 5 (Or.inl rfl) g5, fun fin ⟨n, hn⟩ => ⟨n + 1, ?_⟩⟩
    rw [rfF, hby, e, if_pos ⟨by omega, by decide⟩, show A - a0 + 1 = A + 1 - a0 from by omega]; exact hn
  · refine ⟨[⟨6, l, 0, 0, 0, noSet⟩], (rs.length : Int), by simp, Wt.same 6 (Or.inr (Or.inl rfl)) g5, fun fin ⟨n, hn⟩ => ⟨n + 1, ?_⟩⟩
    rw [rfF, hby, e, if_neg (by simp), if_pos ⟨by omega, by decide⟩, show A - a0 + 1 = A + 1 - a0 from by omega]; exact hn
  · refine ⟨[⟨7, l, 0, 0, 0, noSet⟩], (rs.length : Int), by simp, Wt.same 7 (Or.inr (Or.inr rfl)) g5, fun fin ⟨n, hn⟩ => ⟨n + 1, ?_⟩⟩
    rw [rfF, hby, e, if_neg (by simp), if_neg (by simp), if_pos ⟨by omega, by decide⟩, show A - a0 + 1 = A + 1 - a0 from by omega]; exact hn

theorem suf_times {t : ByteArray} {A : Nat} {W : Int} (h60 : t.size ≤ 60) (hA : A + 4 < t.size) (c0 : byteAt t A = 123) (c1 : decB (byteAt t (A + 1)) = true) (c2 : byteAt t (A + 2) = 44) (c3 : decB (byteAt t (A + 3)) = true) (c4 : byteAt t (A + 4) = 125) (h1 : 1 ≤ W) :
    SufI t A (A + 5) W (max1 (W * (byteAt t (A + 3) - 48))) := by
  have d1 : 48 ≤ byteAt t (A + 1) ∧ byteAt t (A + 1) ≤ 57 := by simpa [decB] using c1
  have d3 : 48 ≤ byteAt t (A + 3) ∧ byteAt t (A + 3) ≤ 57 := by simpa [decB] using c3
  have m0 : 0 ≤ W * (byteAt t (A + 3) - 48) := Int.mul_nonneg (by omega) (by omega)
  have m9 : W * (byteAt t (A + 3) - 48) ≤ W * 9 := Int.mul_le_mul_of_nonneg_left (by omega) (by omega)
  have e5 : p2 (A + 5 - A) = 32 := by rw [show A + 5 - A = 5 from by omega]; rfl
  have hmx : max1 (W * (byteAt t (A + 3) - 48)) ≤ W * 32 := by unfold max1; split <;> omega
  refine ⟨by omega, by omega, by unfold max1; split <;> omega, by rw [e5]; exact hmx, ?_, fun a0 E rs l g1 g2 g3 g4 g5 => ?_⟩
  · have s0 : Seq' t noBar A (A + 1) := Seq'.one (by omega) (by rw [c0]; decide) (step_one (by omega) (by omega) (by omega) (by omega))
    have s1 : Seq' t noBar (A + 1) (A + 2) := Seq'.one (by omega) (by simp only [noBar, Bool.and_eq_true, Bool.not_eq_true', beq_eq_false_iff_ne]; omega) (step_one (by omega) (by omega) (by omega) (by omega))
    have s2 : Seq' t noBar (A + 2) (A + 3) := Seq'.one (by omega) (by rw [c2]; decide) (step_one (by omega) (by omega) (by omega) (by omega))
    have s3 : Seq' t noBar (A + 3) (A + 4) := Seq'.one (by omega) (by simp only [noBar, Bool.and_eq_true, Bool.not_eq_true', beq_eq_false_iff_ne]; omega) (step_one (by omega) (by omega) (by omega) (by omega))
    have s4 : Seq' t noBar (A + 4) (A + 5) := Seq'.one (by omega) (by rw [c4]; decide) (step_one (by omega) (by omega) (by omega) (by omega))
    exact Seq'.trans (by omega) s0 (Seq'.trans (by omega) s1 (Seq'.trans (by omega) s2 (Seq'.trans (by omega) s3 s4)))
  · have hs := size_ext (t := t) (a := a0) g3
    have hby := byteAt_win (t := t) g3 g1 (show A < E by omega)
    have hb1 : byteAt (t.extract a0 E) (A - a0 + 1) = byteAt t (A + 1) := by rw [show A - a0 + 1 = A + 1 - a0 from by omega]; exact byteAt_win g3 (by omega) (by omega)
    have hb3 : byteAt (t.extract a0 E) (A - a0 + 3) = byteAt t (A + 3) := by rw [show A - a0 + 3 = A + 3 - a0 from by omega]; exact byteAt_win g3 (by omega) (by omega)
    have hp32 : p2 (A - a0) * 32 ≤ wTop := by
      have := p2_top (n := A - a0 + 5) (by omega)
      rw [p2_add] at this
      exact this
    refine ⟨[⟨8, l, 0, byteAt t (A + 1) - 48, byteAt t (A + 3) - 48, noSet⟩], (rs.length : Int), by simp, Wt.times _ _ g5 m0 (by omega), fun fin ⟨n, hn⟩ => ⟨n + 1, ?_⟩⟩
    rw [rfF, hby, c0, if_neg (by simp), if_neg (by simp), if_neg (by simp), if_pos ⟨by omega, by decide⟩, hb1, hb3, if_pos ⟨by omega, c1, c3⟩, show A - a0 + 5 = A + 5 - a0 from by omega]
    exact hn

theorem pie_of {t : ByteArray} {A C B : Nat} {W W1 : Int} (h60 : t.size ≤ 60) (h : AtoI t A C W) (k : SufI t C B W W1) : PieI t A B W1 := by
  obtain ⟨a1, a2, a3, a4, a5, a6, a7⟩ := h
  obtain ⟨b1, b2, b3, b4, b5, b6⟩ := k
  have hw : W * p2 (B - C) ≤ p2 (C - A) * p2 (B - C) := Int.mul_le_mul_of_nonneg_right a4 (by have := p2_pos (B - C); omega)
  rw [← p2_add, show C - A + (B - C) = B - A from by omega] at hw
  refine ⟨by omega, b2, b3, by omega, Seq'.trans b1 (Seq'.one a1 a6 a5) b5, fun E hE hEs rs => ?_⟩
  obtain ⟨n, rs1, k, e1, e2, e3⟩ := a7 rs
  obtain ⟨rs2, k2, d1, d2, d3⟩ := b6 A E (rs ++ rs1) k (by omega) hE hEs a4 e3
  refine ⟨rs1 ++ rs2, k2, by simp only [List.length_append]; omega, by rw [← List.append_assoc]; exact d2, fun fin hf => ?_⟩
  rw [← List.append_assoc] at hf
  obtain ⟨m, hm⟩ := d3 fin hf
  have hs := size_ext (t := t) (a := A) hEs
  have hov := a5 A E (Nat.le_refl _) (by omega) hEs 200 (by omega)
  rw [Nat.sub_self] at hov
  refine ⟨max n m + 1, ?_⟩
  rw [rfF, if_neg (by omega), hov]
  simp only [Option.bind_some]
  rw [if_pos (by omega), ext_ext (by omega), Nat.add_zero, show A + (C - A) = C from by omega, rfF_mono n (max n m) _ _ _ _ _ _ (by omega) e1]
  simp only [Option.bind_some]
  exact rfF_mono m (max n m) _ _ _ _ _ _ (by omega) hm

theorem ato_par {t : ByteArray} {A C : Nat} {W : Int} (hA : byteAt t A = 40) (h : PatI t (A + 1) C W) (hC : C < t.size) (hc : byteAt t C = 41) : AtoI t A (C + 1) W := by
  obtain ⟨b1, b2, b3, b4, b5, b6⟩ := h
  have hm := p2_mono (show C - (A + 1) ≤ C + 1 - A by omega)
  refine ⟨by omega, hC, b3, by omega, step_par hA b5 b1 hC hc, by rw [hA]; decide, fun rs => ?_⟩
  obtain ⟨n, rs1, k, e1, e2, e3⟩ := b6 rs
  have hs := size_ext (t := t) (a := A) (b := C + 1) (by omega)
  have hb0 : byteAt (t.extract A (C + 1)) 0 = 40 := by rw [byteAt_ext (by omega) (by omega), Nat.add_zero]; exact hA
  refine ⟨n + 1, rs1, k, ?_, by omega, e3⟩
  rw [rfF]
  · rw [if_pos ⟨by omega, by rw [hb0]; decide⟩, if_pos (by omega), hs, ext_ext (by omega), show A + (C + 1 - A - 1) = C from by omega]
    exact e1
  all_goals (intro hh; omega)
theorem ato_leaf {t : ByteArray} {A B : Nat} {f : Nat → Bool} (hs : StepT t A B) (hAB : A < B) (hB : B ≤ t.size) (h40 : byteAt t A ≠ 40) (hnb : noBar (byteAt t A) = true) (hl : leafS (t.extract A B) = some ⟨2, 0, 0, 0, 0, f⟩) : AtoI t A B 1 := by
  refine ⟨hAB, hB, by omega, p2_pos _, hs, hnb, fun rs => ⟨1, [⟨2, 0, 0, 0, 0, f⟩], (rs.length : Int), ?_, by simp; omega, Wt.one _ _ (by simp)⟩⟩
  have hb0 : byteAt (t.extract A B) 0 = byteAt t A := by rw [byteAt_ext hB (by omega), Nat.add_zero]
  rw [rfF]
  · rw [if_neg (by rw [hb0]; simp [h40]), hl]
    rfl
  all_goals (intro hh; omega)

end Go.Proofs.Ytibhlnhmejlhbaa
