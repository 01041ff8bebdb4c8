/-
  Plain definitions, more: the reading of a set; that what is read goes on.
-/
import Derived.Test.YtibhlnhmejlhbaaMa
namespace Go.Proofs.Ytibhlnhmejlhbaa

def addR (f : Nat → Bool) (lo hi : Int) : Nat → Bool := fun j => f j || (decide (lo ≤ (j : Int)) && decide ((j : Int) ≤ hi))

/-- Behind s: the place is not before, what is bad stays bad. -/
def After (s s' : S1) : Prop := s.k ≤ s'.k ∧ (s.bad = true → s'.bad = true)
theorem After.refl (s : S1) : After s s := ⟨Nat.le_refl _, id⟩
theorem After.trans {a b c : S1} (h : After a b) (k : After b c) : After a c := ⟨Nat.le_trans h.1 k.1, fun x => k.2 (h.2 x)⟩
theorem after_step {s : S1} : After s ⟨s.k + 1, s.bad⟩ := ⟨Nat.le_succ _, id⟩
theorem after_mark {s : S1} : After s ⟨s.k, true⟩ := ⟨Nat.le_refl _, fun _ => rfl⟩
theorem takeS_after (t : ByteArray) (c : Int) (s : S1) : After s (takeS t c s) := by
  unfold takeS; split
  · exact after_step
  · exact After.refl s
theorem expectS_after (t : ByteArray) (c : Int) (s : S1) : After s (expectS t c s) := by
  unfold expectS; split
  · exact after_step
  · exact after_mark
theorem readDigitS_after (t : ByteArray) (c : Int) (s : S1) : After s (readDigitS t c s).2 := by
  unfold readDigitS; split
  · exact after_step
  · exact after_mark
theorem readEscapeS_after (t : ByteArray) (s : S1) : After s (readEscapeS t s).2 := by
  unfold readEscapeS
  simp only
  split
  · exact (expectS_after t 92 s).trans after_step
  · exact ((expectS_after t 92 s).trans (readDigitS_after _ _ _)).trans (readDigitS_after _ _ _)
theorem readByteS_after (t : ByteArray) (s : S1) : After s (readByteS t s).2 := by
  unfold readByteS
  split
  · exact readEscapeS_after t s
  · split
    · exact after_step
    · exact after_mark
theorem readSetByteS_after (t : ByteArray) (s : S1) : After s (readSetByteS t s).2 := by
  unfold readSetByteS
  split
  · exact readEscapeS_after t s
  · split
    · exact after_step
    · exact after_mark
theorem readItemS_after (t : ByteArray) (s : S1) : After s (readItemS t s).2 := by
  unfold readItemS
  simp only
  split
  · exact ((readSetByteS_after t s).trans (takeS_after _ _ _)).trans (readSetByteS_after _ _)
  · exact readSetByteS_after t s

/-- It goes on, or it is bad. -/
theorem readEscapeS_goes (t : ByteArray) (s : S1) : (readEscapeS t s).2.bad = true ∨ s.k < (readEscapeS t s).2.k := by
  have h1 : (expectS t 92 s).bad = true ∨ s.k < (expectS t 92 s).k := by
    unfold expectS
    split
    · right; simp only; omega
    · left; rfl
  have h2 : After (expectS t 92 s) (readEscapeS t s).2 := by
    unfold readEscapeS
    simp only
    split
    · exact after_step
    · exact (readDigitS_after _ _ _).trans (readDigitS_after _ _ _)
  rcases h1 with h1 | h1
  · exact Or.inl (h2.2 h1)
  · exact Or.inr (Nat.lt_of_lt_of_le h1 h2.1)
theorem readSetByteS_goes (t : ByteArray) (s : S1) : (readSetByteS t s).2.bad = true ∨ s.k < (readSetByteS t s).2.k := by
  unfold readSetByteS
  split
  · exact readEscapeS_goes t s
  · split
    · right; simp only; omega
    · left; rfl
theorem readByteS_goes (t : ByteArray) (s : S1) : (readByteS t s).2.bad = true ∨ s.k < (readByteS t s).2.k := by
  unfold readByteS
  split
  · exact readEscapeS_goes t s
  · split
    · right; simp only; omega
    · left; rfl
theorem readItemS_goes (t : ByteArray) (s : S1) : (readItemS t s).2.bad = true ∨ s.k < (readItemS t s).2.k := by
  have h2 : After (readSetByteS t s).2 (readItemS t s).2 := by
    unfold readItemS
    simp only
    split
    · exact (takeS_after _ _ _).trans (readSetByteS_after _ _)
    · exact After.refl _
  rcases readSetByteS_goes t s with h1 | h1
  · exact Or.inl (h2.2 h1)
  · exact Or.inr (Nat.lt_of_lt_of_le h1 h2.1)

/-- How many rounds are left at most. -/
def left (t : ByteArray) (s : S1) : Nat := if s.bad then 0 else t.size - s.k + 1
theorem left_goes {t : ByteArray} {s s' : S1} (hb : s.bad = false) (hk' : s'.k ≤ t.size) (h : s'.bad = true ∨ s.k < s'.k) : left t s' < left t s := by
  unfold left
  rw [hb]
  rcases h with h | h
  · rw [h]; simp
  · split
    · simp
    · simp only [Bool.false_eq_true, if_false]; omega

/-- The items of a set, up to its bracket. -/
def setLoop (t : ByteArray) : Nat → (Nat → Bool) → S1 → (Nat → Bool) × S1
  | 0, f, s => (f, s)
  | n + 1, f, s =>
    if (!s.bad && s.pk t != 93) = true then setLoop t n (addR f (readItemS t s).1.1 (readItemS t s).1.2) (readItemS t s).2 else (f, s)

theorem setLoop_stop {t : ByteArray} (n : Nat) (f : Nat → Bool) (s : S1) (h : (!s.bad && s.pk t != 93) = false) : setLoop t n f s = (f, s) := by
  cases n with
  | zero => rfl
  | succ n => unfold setLoop; rw [h]; rfl
theorem setLoop_go {t : ByteArray} (n : Nat) (f : Nat → Bool) (s : S1) (h : (!s.bad && s.pk t != 93) = true) :
    setLoop t (n + 1) f s = setLoop t n (addR f (readItemS t s).1.1 (readItemS t s).1.2) (readItemS t s).2 := by
  conv => lhs; unfold setLoop
  rw [h]; rfl
theorem setLoop_le {t : ByteArray} : ∀ (n : Nat) (f : Nat → Bool) (s : S1), s.k ≤ t.size → (setLoop t n f s).2.k ≤ t.size
  | 0, _, _, h => h
  | n + 1, f, s, h => by
    unfold setLoop
    split
    · exact setLoop_le n _ _ (readItemS_le h)
    · exact h
theorem setLoop_after (t : ByteArray) : ∀ (n : Nat) (f : Nat → Bool) (s : S1), After s (setLoop t n f s).2
  | 0, _, s => After.refl s
  | n + 1, f, s => by
    unfold setLoop
    split
    · exact (readItemS_after t s).trans (setLoop_after t n _ _)
    · exact After.refl s

/-- A set, from behind its bracket. -/
def readSetS (t : ByteArray) (s : S1) : (Nat → Bool) × S1 :=
  let i := readItemS t (takeS t 94 s)
  let r := setLoop t (t.size + 1) (addR (fun _ => false) i.1.1 i.1.2) i.2
  (if s.pk t == 94 then fun j => !r.1 j else r.1, expectS t 93 r.2)

theorem readSetS_le {t : ByteArray} {s : S1} (h : s.k ≤ t.size) : (readSetS t s).2.k ≤ t.size :=
  expectS_le (by omega) (setLoop_le _ _ _ (readItemS_le (takeS_le (by omega) h)))
theorem readSetS_after (t : ByteArray) (s : S1) : After s (readSetS t s).2 :=
  (((takeS_after t 94 s).trans (readItemS_after _ _)).trans (setLoop_after t _ _ _)).trans (expectS_after _ _ _)

end Go.Proofs.Ytibhlnhmejlhbaa
