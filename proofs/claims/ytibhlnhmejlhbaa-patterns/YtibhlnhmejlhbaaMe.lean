/-
  Plain facts on the reading of a pattern: it goes on, it stays in the text, it lays no more than so many nodes.
-/
import Derived.Test.YtibhlnhmejlhbaaMd
namespace Go.Proofs.Ytibhlnhmejlhbaa

def Grows (t : ByteArray) (c : Nat) (x y : St) : Prop :=
  After x.s y.s ∧ y.s.k ≤ t.size ∧ (x.fs.length ≤ x.ns.length → y.fs.length ≤ y.ns.length) ∧ y.ns.length + 4 * x.s.k ≤ x.ns.length + 4 * y.s.k + c
def Slim (x y : St) : Prop := y.s.bad = false → x.s.k < y.s.k ∧ y.ns.length + 2 + 4 * x.s.k ≤ x.ns.length + 4 * y.s.k

theorem pk_bad {t : ByteArray} {s : S1} (h : s.bad = true) : s.pk t = -1 := by
  unfold S1.pk pk; simp [h]
theorem takeS_eq {t : ByteArray} {s : S1} {c : Int} (h : (s.pk t == c) = true) : takeS t c s = ⟨s.k + 1, s.bad⟩ := by
  unfold takeS; rw [if_pos h]
theorem expectS_eq {t : ByteArray} {s : S1} {c : Int} (h : (s.pk t == c) = true) : expectS t c s = ⟨s.k + 1, s.bad⟩ := by
  unfold expectS; rw [if_pos h]

theorem readSuffixS_facts {t : ByteArray} {whole : Int} {x : St} (_hk : x.s.k ≤ t.size) (hc : atSuffixB (x.s.pk t) = true) :
    After x.s (readSuffixS t whole x).s ∧ (readSuffixS t whole x).s.k ≤ t.size ∧ x.s.k < (readSuffixS t whole x).s.k ∧ (readSuffixS t whole x).ns.length = x.ns.length + 1 ∧ (readSuffixS t whole x).fs = x.fs := by
  have hlt : x.s.k < t.size := by
    apply (S1.pk_lt (t := t) (s := x.s) ?_).2
    simp only [atSuffixB, Bool.or_eq_true, beq_iff_eq] at hc
    omega
  unfold readSuffixS
  by_cases h1 : (x.s.pk t == 42) = true
  · rw [if_pos h1, takeS_eq h1]
    refine ⟨after_step, ?_, ?_, ?_, rfl⟩ <;> simp [St.add, St.at] <;> omega
  · rw [if_neg h1]
    by_cases h2 : (x.s.pk t == 43) = true
    · rw [if_pos h2, takeS_eq h2]
      refine ⟨after_step, ?_, ?_, ?_, rfl⟩ <;> simp [St.add, St.at] <;> omega
    · rw [if_neg h2]
      by_cases h3 : (x.s.pk t == 63) = true
      · rw [if_pos h3, takeS_eq h3]
        refine ⟨after_step, ?_, ?_, ?_, rfl⟩ <;> simp [St.add, St.at] <;> omega
      · rw [if_neg h3]
        have h4 : (x.s.pk t == 123) = true := by
          simp only [atSuffixB, Bool.or_eq_true] at hc
          rcases hc with ((hc | hc) | hc) | hc
          · exact absurd hc h1
          · exact absurd hc h2
          · exact absurd hc h3
          · exact hc
        have a1 : After ⟨x.s.k + 1, x.s.bad⟩ (expectS t 125 (readDigitS t 10 (expectS t 44 (readDigitS t 10 ⟨x.s.k + 1, x.s.bad⟩).2)).2) :=
          (((readDigitS_after _ _ _).trans (expectS_after _ _ _)).trans (readDigitS_after _ _ _)).trans (expectS_after _ _ _)
        have a2 : (expectS t 125 (readDigitS t 10 (expectS t 44 (readDigitS t 10 ⟨x.s.k + 1, x.s.bad⟩).2)).2).k ≤ t.size :=
          expectS_le (by omega) (readDigitS_le (expectS_le (by omega) (readDigitS_le (by simp only; omega))))
        simp only [expectS_eq h4]
        refine ⟨after_step.trans a1, a2, ?_, ?_, rfl⟩
        · have := a1.1; simp only [St.add, St.at] at this ⊢; omega
        · simp [St.add, St.at]

theorem readLeafS_facts {t : ByteArray} {x : St} (hk : x.s.k ≤ t.size) :
    After x.s (readLeafS t x).s ∧ (readLeafS t x).s.k ≤ t.size ∧ ((readLeafS t x).s.bad = true ∨ x.s.k < (readLeafS t x).s.k) ∧ (readLeafS t x).ns.length = x.ns.length + 1 ∧ (readLeafS t x).fs.length = x.fs.length + 1 := by
  unfold readLeafS
  by_cases h1 : (x.s.pk t == 91) = true
  · rw [if_pos h1]
    have hlt := (S1.pk_lt (t := t) (s := x.s) (by rw [beq_iff_eq] at h1; omega)).2
    have a1 := readSetS_after t (takeS t 91 x.s)
    have a2 := readSetS_le (t := t) (s := takeS t 91 x.s) (takeS_le (by omega) hk)
    rw [takeS_eq h1] at a1 a2 ⊢
    refine ⟨after_step.trans a1, a2, Or.inr ?_, ?_, ?_⟩
    · have := a1.1; simp only [St.addSet, St.at] at this ⊢; omega
    · simp [St.addSet, St.at]
    · simp [St.addSet, St.at]
  · rw [if_neg h1]
    by_cases h2 : (x.s.pk t == 46) = true
    · rw [if_pos h2, takeS_eq h2]
      have hlt := (S1.pk_lt (t := t) (s := x.s) (by rw [beq_iff_eq] at h2; omega)).2
      refine ⟨after_step, ?_, Or.inr ?_, ?_, ?_⟩ <;> simp [St.addSet, St.at] <;> omega
    · rw [if_neg h2]
      exact ⟨readByteS_after t x.s, readByteS_le hk, readByteS_goes t x.s, by simp [St.addSet, St.at], by simp [St.addSet, St.at]⟩

/-- What a reading by each tag keeps to. -/
def Facts (t : ByteArray) (tag : Nat) (whole : Int) (x : St) (r : St × Int) : Prop :=
  match tag with
  | 0 => Grows t 1 x r.1
  | 1 => Grows t 0 x r.1 ∧ (x.s.bad = true → r = (x, whole))
  | 2 => Grows t 1 x r.1
  | 3 => Grows t 2 x r.1 ∧ (x.s.bad = true → r = (x, whole))
  | 4 => Grows t 1 x r.1 ∧ Slim x r.1
  | 5 => Grows t 0 x r.1 ∧ (x.s.bad = true → r = (x, whole))
  | _ => Grows t 1 x r.1 ∧ Slim x r.1

theorem rdF_facts (t : ByteArray) : ∀ (f tag : Nat) (whole : Int) (x : St) (r : St × Int), x.s.k ≤ t.size → rdF t f tag whole x = some r → Facts t tag whole x r := by
  intro f
  induction f with
  | zero => intro tag whole x r _ h; simp [rdF] at h
  | succ f ih =>
    intro tag whole x r hk h
    match tag with
    | 0 =>
      simp only [rdF, Option.bind_eq_some_iff] at h
      obtain ⟨r1, h1, h2⟩ := h
      have g1 : Grows t 1 x r1.1 := ih 2 _ _ _ hk h1
      have g2 : Grows t 0 r1.1 r.1 := (ih 1 _ _ _ g1.2.1 h2).1
      exact ⟨g1.1.trans g2.1, g2.2.1, fun e => g2.2.2.1 (g1.2.2.1 e), by have := g1.2.2.2; have := g2.2.2.2; omega⟩
    | 1 =>
      simp only [rdF] at h
      split at h
      · rename_i hc
        simp only [Option.bind_eq_some_iff] at h
        obtain ⟨r1, h1, h2⟩ := h
        have hlt := (S1.pk_lt (t := t) (s := x.s) (by rw [beq_iff_eq] at hc; omega))
        rw [takeS_eq hc] at h1
        have g1 : Grows t 1 (x.at ⟨x.s.k + 1, x.s.bad⟩) r1.1 := ih 2 _ _ _ (by simp only [St.at]; omega) h1
        have g2 : Grows t 0 (r1.1.add ⟨3, whole, r1.2, 0, 0, 0⟩) r.1 := (ih 1 _ (r1.1.add ⟨3, whole, r1.2, 0, 0, 0⟩) _ (by exact g1.2.1) h2).1
        refine ⟨⟨(after_step.trans g1.1).trans g2.1, g2.2.1, fun e => g2.2.2.1 ?_, ?_⟩, fun e => ?_⟩
        · have := g1.2.2.1 e; simp only [St.add, List.length_append, List.length_cons, List.length_nil]; omega
        · have := g1.2.2.2; have := g2.2.2.2
          simp only [St.add, St.at, List.length_append, List.length_cons, List.length_nil] at *
          omega
        · rw [hlt.1] at e; cases e
      · simp only [Option.some.injEq] at h
        subst h
        exact ⟨⟨After.refl _, hk, id, by simp only; omega⟩, fun _ => rfl⟩
    | 2 =>
      simp only [rdF] at h
      split at h
      · rename_i hc
        simp only [Option.bind_eq_some_iff] at h
        obtain ⟨r1, h1, h2⟩ := h
        obtain ⟨g1, l1⟩ : Grows t 1 x r1.1 ∧ Slim x r1.1 := ih 4 _ _ _ hk h1
        obtain ⟨g2, b2⟩ : Grows t 2 r1.1 r.1 ∧ (r1.1.s.bad = true → r = (r1.1, r1.2)) := ih 3 _ _ _ g1.2.1 h2
        by_cases hb : r1.1.s.bad = true
        · have := b2 hb
          subst this
          exact g1
        · have l := l1 (by simpa using hb)
          exact ⟨g1.1.trans g2.1, g2.2.1, fun e => g2.2.2.1 (g1.2.2.1 e), by have := g2.2.2.2; omega⟩
      · simp only [Option.some.injEq] at h
        subst h
        exact ⟨After.refl _, hk, fun e => by simp only [St.add, List.length_append, List.length_cons, List.length_nil]; omega, by simp only [St.add, List.length_append, List.length_cons, List.length_nil]; omega⟩
    | 3 =>
      simp only [rdF] at h
      split at h
      · rename_i hc
        simp only [Option.bind_eq_some_iff] at h
        obtain ⟨r1, h1, h2⟩ := h
        obtain ⟨g1, l1⟩ : Grows t 1 x r1.1 ∧ Slim x r1.1 := ih 4 _ _ _ hk h1
        obtain ⟨g2, b2⟩ : Grows t 2 (r1.1.add ⟨2, whole, r1.2, 0, 0, 0⟩) r.1 ∧ (r1.1.s.bad = true → r = (r1.1.add ⟨2, whole, r1.2, 0, 0, 0⟩, r1.1.num)) := ih 3 _ (r1.1.add ⟨2, whole, r1.2, 0, 0, 0⟩) _ (by exact g1.2.1) h2
        have hxb : x.s.bad = true → r = (x, whole) := by
          intro e
          rw [pk_bad e] at hc
          simp [atAtomB, isPlainB] at hc
        refine ⟨?_, hxb⟩
        by_cases hb : r1.1.s.bad = true
        · have := b2 hb
          subst this
          exact ⟨g1.1, g1.2.1, fun e => by have := g1.2.2.1 e; simp only [St.add, List.length_append, List.length_cons, List.length_nil]; omega, by have := g1.2.2.2; simp only [St.add, List.length_append, List.length_cons, List.length_nil]; omega⟩
        · have l := l1 (by simpa using hb)
          refine ⟨g1.1.trans g2.1, g2.2.1, fun e => g2.2.2.1 ?_, ?_⟩
          · have := g1.2.2.1 e; simp only [St.add, List.length_append, List.length_cons, List.length_nil]; omega
          · have := g2.2.2.2
            simp only [St.add, List.length_append, List.length_cons, List.length_nil] at this
            omega
      · simp only [Option.some.injEq] at h
        subst h
        exact ⟨⟨After.refl _, hk, id, by simp only; omega⟩, fun _ => rfl⟩
    | 4 =>
      simp only [rdF, Option.bind_eq_some_iff] at h
      obtain ⟨r1, h1, h2⟩ := h
      obtain ⟨g1, l1⟩ : Grows t 1 x r1.1 ∧ Slim x r1.1 := ih 6 _ _ _ hk h1
      obtain ⟨g2, b2⟩ : Grows t 0 r1.1 r.1 ∧ (r1.1.s.bad = true → r = (r1.1, r1.2)) := ih 5 _ _ _ g1.2.1 h2
      by_cases hb : r1.1.s.bad = true
      · have := b2 hb
        subst this
        exact ⟨g1, l1⟩
      · have l := l1 (by simpa using hb)
        have n2 := g2.2.2.2
        have n3 := g2.1.1
        exact ⟨⟨g1.1.trans g2.1, g2.2.1, fun e => g2.2.2.1 (g1.2.2.1 e), by omega⟩, fun _ => ⟨by omega, by omega⟩⟩
    | 5 =>
      simp only [rdF] at h
      split at h
      · rename_i hc
        obtain ⟨a1, a2, a3, a4, a5⟩ := readSuffixS_facts (whole := whole) hk hc
        have g2 : Grows t 0 (readSuffixS t whole x) r.1 := (ih 5 _ _ _ a2 h).1
        have n2 := g2.2.2.2
        refine ⟨⟨a1.trans g2.1, g2.2.1, fun e => g2.2.2.1 (by rw [a4, a5]; omega), by omega⟩, fun e => ?_⟩
        rw [pk_bad e] at hc
        simp [atSuffixB] at hc
      · simp only [Option.some.injEq] at h
        subst h
        exact ⟨⟨After.refl _, hk, id, by simp only; omega⟩, fun _ => rfl⟩
    | tag + 6 =>
      simp only [rdF] at h
      show Grows t 1 x r.1 ∧ Slim x r.1
      split at h
      · rename_i hc
        simp only [Option.bind_eq_some_iff, Option.some.injEq] at h
        obtain ⟨r1, h1, rfl⟩ := h
        have hlt := (S1.pk_lt (t := t) (s := x.s) (by rw [beq_iff_eq] at hc; omega))
        rw [takeS_eq hc] at h1
        have g1 : Grows t 1 (x.at ⟨x.s.k + 1, x.s.bad⟩) r1.1 := ih 0 _ _ _ (by simp only [St.at]; omega) h1
        have e1 := expectS_after t 41 r1.1.s
        have n1 := g1.2.2.2
        have n2 := e1.1
        simp only [St.at] at n1
        have n3 := g1.1.1
        simp only [St.at] at n3
        refine ⟨⟨(after_step.trans g1.1).trans e1, expectS_le (by omega) g1.2.1, g1.2.2.1, ?_⟩, fun _ => ⟨?_, ?_⟩⟩
        · simp only [St.at]; omega
        · simp only [St.at]; omega
        · simp only [St.at]; omega
      · simp only [Option.some.injEq] at h
        subst h
        obtain ⟨a1, a2, a3, a4, a5⟩ := readLeafS_facts (t := t) hk
        have a1' := a1.1
        refine ⟨⟨a1, a2, fun e => by simp only; omega, by simp only; omega⟩, fun e => ?_⟩
        rcases a3 with a3 | a3
        · rw [a3] at e; cases e
        · exact ⟨a3, by simp only; omega⟩

theorem Rds.facts {t : ByteArray} {tag : Nat} {whole : Int} {x : St} {r : St × Int} (hk : x.s.k ≤ t.size) (h : Rds t tag whole x r) : Facts t tag whole x r := by
  obtain ⟨f, hf⟩ := h
  exact rdF_facts t f tag whole x r hk hf

end Go.Proofs.Ytibhlnhmejlhbaa
