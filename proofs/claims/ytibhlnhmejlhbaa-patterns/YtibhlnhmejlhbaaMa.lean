/-
  Plain definitions: bytes that are marks, plain, digits; what the reader of patterns does to its place and its mark 'bad'. No text of the program is imported.
-/
namespace Go.Proofs.Ytibhlnhmejlhbaa

def isMarkB (b : Int) : Bool :=
  b == 124 || b == 42 || b == 43 || b == 63 || b == 123 || b == 125 || b == 40 || b == 41 || b == 91 || b == 93 || b == 46 || b == 92
def isPlainB (b : Int) : Bool := decide (32 ≤ b) && decide (b ≤ 126) && !isMarkB b
def isPlainInSetB (b : Int) : Bool :=
  !(b == 91 || b == 93 || b == 92 || b == 45 || b == 94) && decide (32 ≤ b) && decide (b ≤ 126)
def mayBeEscapedB (b : Int) : Bool := b == 45 || b == 94 || isMarkB b
def digitI (b : Int) : Int :=
  if 48 ≤ b ∧ b ≤ 57 then b - 48 else if 97 ≤ b ∧ b ≤ 102 then b - 97 + 10 else -1

theorem digitI_bd (b : Int) : -1 ≤ digitI b ∧ digitI b ≤ 15 := by
  unfold digitI
  split
  · omega
  · split <;> omega

/-- What a reader at place k of the text t sees: the byte there, or -1. -/
def pk (t : ByteArray) (k : Nat) (bad : Bool) : Int :=
  if bad then -1 else if h : k < t.size then (t[k].toNat : Int) else -1

theorem pk_bd (t : ByteArray) (k : Nat) (bad : Bool) : -1 ≤ pk t k bad ∧ pk t k bad ≤ 255 := by
  unfold pk
  split
  · omega
  · split
    · have := t[k].toNat_lt; omega
    · omega

theorem pk_lt {t : ByteArray} {k : Nat} {bad : Bool} (h : 0 ≤ pk t k bad) : bad = false ∧ k < t.size := by
  unfold pk at h
  split at h
  · omega
  · rename_i hb
    split at h
    · exact ⟨by simpa using hb, by assumption⟩
    · omega

/-- A reader's place, and its mark. -/
structure S1 where
  k : Nat
  bad : Bool

def S1.pk (t : ByteArray) (s : S1) : Int := Go.Proofs.Ytibhlnhmejlhbaa.pk t s.k s.bad
def takeS (t : ByteArray) (c : Int) (s : S1) : S1 := if s.pk t == c then ⟨s.k + 1, s.bad⟩ else s
def expectS (t : ByteArray) (c : Int) (s : S1) : S1 := if s.pk t == c then ⟨s.k + 1, s.bad⟩ else ⟨s.k, true⟩
def digitOk (t : ByteArray) (base : Int) (s : S1) : Bool := !(decide (digitI (s.pk t) < 0) || decide (base ≤ digitI (s.pk t)))
def readDigitS (t : ByteArray) (base : Int) (s : S1) : Int × S1 :=
  if digitOk t base s then (digitI (s.pk t), ⟨s.k + 1, s.bad⟩) else (0, ⟨s.k, true⟩)
def readEscapeS (t : ByteArray) (s : S1) : Int × S1 :=
  let s1 := expectS t 92 s
  if mayBeEscapedB (s1.pk t) then (s1.pk t, ⟨s1.k + 1, s1.bad⟩)
  else
    let h := readDigitS t 16 s1
    let l := readDigitS t 16 h.2
    (16 * h.1 + l.1, l.2)
def readByteS (t : ByteArray) (s : S1) : Int × S1 :=
  if s.pk t == 92 then readEscapeS t s
  else if isPlainB (s.pk t) then (s.pk t, ⟨s.k + 1, s.bad⟩) else (0, ⟨s.k, true⟩)
def readSetByteS (t : ByteArray) (s : S1) : Int × S1 :=
  if s.pk t == 92 then readEscapeS t s
  else if isPlainInSetB (s.pk t) then (s.pk t, ⟨s.k + 1, s.bad⟩) else (0, ⟨s.k, true⟩)

theorem S1.pk_bd (t : ByteArray) (s : S1) : -1 ≤ s.pk t ∧ s.pk t ≤ 255 := Go.Proofs.Ytibhlnhmejlhbaa.pk_bd t s.k s.bad
theorem S1.pk_lt {t : ByteArray} {s : S1} (h : 0 ≤ s.pk t) : s.bad = false ∧ s.k < t.size := Go.Proofs.Ytibhlnhmejlhbaa.pk_lt h

theorem isMarkB_pos {b : Int} (h : isMarkB b = true) : 0 ≤ b := by simp [isMarkB] at h; omega
theorem isPlainB_pos {b : Int} (h : isPlainB b = true) : 0 ≤ b := by simp [isPlainB] at h; omega
theorem isPlainInSetB_pos {b : Int} (h : isPlainInSetB b = true) : 0 ≤ b := by simp [isPlainInSetB] at h; omega
theorem mayBeEscapedB_pos {b : Int} (h : mayBeEscapedB b = true) : 0 ≤ b := by
  simp only [mayBeEscapedB, Bool.or_eq_true, beq_iff_eq] at h
  rcases h with (h | h) | h
  · omega
  · omega
  · exact isMarkB_pos h
theorem digitOk_pos {t : ByteArray} {base : Int} {s : S1} (h : digitOk t base s = true) : 0 ≤ s.pk t ∧ 0 ≤ digitI (s.pk t) ∧ digitI (s.pk t) < base := by
  simp [digitOk] at h
  refine ⟨?_, by omega, by omega⟩
  have h1 := h.1
  unfold digitI at h1
  split at h1
  · omega
  · split at h1 <;> omega

theorem takeS_le {t : ByteArray} {c : Int} {s : S1} (hc : 0 ≤ c) (h : s.k ≤ t.size) : (takeS t c s).k ≤ t.size := by
  unfold takeS
  split
  · rename_i hp
    have := (S1.pk_lt (t := t) (s := s) (by rw [beq_iff_eq] at hp; omega)).2
    simp only; omega
  · exact h
theorem expectS_le {t : ByteArray} {c : Int} {s : S1} (hc : 0 ≤ c) (h : s.k ≤ t.size) : (expectS t c s).k ≤ t.size := by
  unfold expectS
  split
  · rename_i hp
    have := (S1.pk_lt (t := t) (s := s) (by rw [beq_iff_eq] at hp; omega)).2
    simp only; omega
  · exact h
theorem readDigitS_le {t : ByteArray} {c : Int} {s : S1} (h : s.k ≤ t.size) : (readDigitS t c s).2.k ≤ t.size := by
  unfold readDigitS
  split
  · rename_i hp
    have := (S1.pk_lt (t := t) (s := s) (digitOk_pos hp).1).2
    simp only; omega
  · exact h
theorem readDigitS_bd (t : ByteArray) (c : Int) (s : S1) (hc : 0 < c) : 0 ≤ (readDigitS t c s).1 ∧ (readDigitS t c s).1 < c := by
  unfold readDigitS
  split
  · rename_i hp
    have := digitOk_pos hp
    simp only; omega
  · simp only; omega
theorem readEscapeS_le {t : ByteArray} {s : S1} (h : s.k ≤ t.size) : (readEscapeS t s).2.k ≤ t.size := by
  have h1 := expectS_le (t := t) (c := 92) (s := s) (by omega) h
  unfold readEscapeS
  simp only
  split
  · rename_i hp
    have := (S1.pk_lt (t := t) (s := expectS t 92 s) (mayBeEscapedB_pos hp)).2
    simp only; omega
  · exact readDigitS_le (readDigitS_le h1)
theorem readEscapeS_bd (t : ByteArray) (s : S1) : 0 ≤ (readEscapeS t s).1 ∧ (readEscapeS t s).1 ≤ 255 := by
  unfold readEscapeS
  simp only
  split
  · rename_i hp
    exact ⟨mayBeEscapedB_pos hp, (S1.pk_bd t _).2⟩
  · have h1 := readDigitS_bd t 16 (expectS t 92 s) (by omega)
    have h2 := readDigitS_bd t 16 (readDigitS t 16 (expectS t 92 s)).2 (by omega)
    simp only; omega
theorem readByteS_le {t : ByteArray} {s : S1} (h : s.k ≤ t.size) : (readByteS t s).2.k ≤ t.size := by
  unfold readByteS
  split
  · exact readEscapeS_le h
  · split
    · rename_i hp
      have := (S1.pk_lt (t := t) (s := s) (isPlainB_pos hp)).2
      simp only; omega
    · exact h
theorem readByteS_bd (t : ByteArray) (s : S1) : 0 ≤ (readByteS t s).1 ∧ (readByteS t s).1 ≤ 255 := by
  unfold readByteS
  split
  · exact readEscapeS_bd t s
  · split
    · rename_i hp
      exact ⟨isPlainB_pos hp, (S1.pk_bd t _).2⟩
    · simp only; omega
theorem readSetByteS_le {t : ByteArray} {s : S1} (h : s.k ≤ t.size) : (readSetByteS t s).2.k ≤ t.size := by
  unfold readSetByteS
  split
  · exact readEscapeS_le h
  · split
    · rename_i hp
      have := (S1.pk_lt (t := t) (s := s) (isPlainInSetB_pos hp)).2
      simp only; omega
    · exact h
theorem readSetByteS_bd (t : ByteArray) (s : S1) : 0 ≤ (readSetByteS t s).1 ∧ (readSetByteS t s).1 ≤ 255 := by
  unfold readSetByteS
  split
  · exact readEscapeS_bd t s
  · split
    · rename_i hp
      exact ⟨isPlainInSetB_pos hp, (S1.pk_bd t _).2⟩
    · simp only; omega

/-- An item of a set: its two bytes, and the reader behind it. -/
def readItemS (t : ByteArray) (s : S1) : (Int × Int) × S1 :=
  let lo := readSetByteS t s
  if lo.2.pk t == 45 then
    let hi := readSetByteS t (takeS t 45 lo.2)
    ((lo.1, hi.1), hi.2)
  else ((lo.1, lo.1), lo.2)

theorem readItemS_le {t : ByteArray} {s : S1} (h : s.k ≤ t.size) : (readItemS t s).2.k ≤ t.size := by
  unfold readItemS
  simp only
  split
  · exact readSetByteS_le (takeS_le (by omega) (readSetByteS_le h))
  · exact readSetByteS_le h

end Go.Proofs.Ytibhlnhmejlhbaa
