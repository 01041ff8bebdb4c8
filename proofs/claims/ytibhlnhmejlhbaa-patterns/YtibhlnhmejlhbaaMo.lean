/-
  Plain mathematics: the reader of patterns stops where the look byte by byte does (bytes, escapes, sets, suffixes).
-/
import Derived.Test.YtibhlnhmejlhbaaMk
namespace Go.Proofs.Ytibhlnhmejlhbaa

/-- The look goes n bytes on. -/
def adv (t : ByteArray) : Nat → Nat → Sc → Option Sc
  | 0, _, x => some x
  | n + 1, k, x => if (goesS x (byteAt t k)).1 = true then adv t n (k + 1) (goesS x (byteAt t k)).2 else none

def Go' (t : ByteArray) (a : Nat) (x : Sc) (b : Nat) (y : Sc) : Prop := a ≤ b ∧ adv t (b - a) a x = some y
def Stuck (t : ByteArray) (k : Nat) (x : Sc) : Prop :=
  (k < t.size ∧ (goesS x (byteAt t k)).1 = false) ∨ (k = t.size ∧ (0 < x.depth ∨ 1 < x.mode))

theorem adv_add (t : ByteArray) : ∀ (n m k : Nat) (x y : Sc), adv t n k x = some y → adv t (n + m) k x = adv t m (k + n) y
  | 0, m, k, x, y, h => by simp only [adv, Option.some.injEq] at h; subst h; simp
  | n + 1, m, k, x, y, h => by
    simp only [adv] at h
    split at h
    · rename_i hg
      rw [show n + 1 + m = (n + m) + 1 from by omega]
      simp only [adv]
      rw [if_pos hg, adv_add t n m (k + 1) _ y h]
      congr 1
      omega
    · cases h

theorem Go'.refl (t : ByteArray) (a : Nat) (x : Sc) : Go' t a x a x := ⟨Nat.le_refl _, by simp [adv]⟩
theorem Go'.trans {t : ByteArray} {a b c : Nat} {x y z : Sc} (h : Go' t a x b y) (k : Go' t b y c z) : Go' t a x c z := by
  refine ⟨Nat.le_trans h.1 k.1, ?_⟩
  have h1 := h.1
  have k1 := k.1
  rw [show c - a = (b - a) + (c - b) from by omega, adv_add t (b - a) (c - b) a x y h.2, show a + (b - a) = b from by omega]
  exact k.2
theorem Go'.step {t : ByteArray} {a : Nat} {x y : Sc} (h : goesS x (byteAt t a) = (true, y)) : Go' t a x (a + 1) y := by
  refine ⟨Nat.le_succ _, ?_⟩
  rw [show a + 1 - a = 0 + 1 from by omega]
  simp only [adv, h]
  simp

theorem scan_adv (t : ByteArray) : ∀ (n k : Nat) (x y : Sc), adv t n k x = some y → k + n ≤ t.size → scanS t (t.size - k) k x = scanS t (t.size - (k + n)) (k + n) y
  | 0, k, x, y, h, _ => by simp only [adv, Option.some.injEq] at h; subst h; rfl
  | n + 1, k, x, y, h, hk => by
    simp only [adv] at h
    split at h
    · rename_i hg
      have := scan_adv t n (k + 1) _ y h (by omega)
      rw [show t.size - k = (t.size - (k + 1)) + 1 from by omega]
      simp only [scanS]
      rw [if_pos hg, this, show k + 1 + n = k + (n + 1) from by omega]
    · cases h
theorem scan_stuck {t : ByteArray} {k : Nat} {x : Sc} (h : Stuck t k x) : scanS t (t.size - k) k x = (k : Int) := by
  rcases h with ⟨hk, hg⟩ | ⟨hk, hd⟩
  · rw [show t.size - k = (t.size - (k + 1)) + 1 from by omega]
    simp only [scanS]
    rw [if_neg (by simp [hg])]
  · rw [show t.size - k = 0 from by omega]
    simp only [scanS]
    rw [if_pos (by simpa using hd), hk]

/-- What came of it: the look went along to a state of this mode and depth; or it is stuck where the reader is bad. -/
def Out (t : ByteArray) (k : Nat) (x : Sc) (s' : S1) (m d : Int) : Prop :=
  (s'.bad = false → ∃ bk, Go' t k x s'.k ⟨m, d, bk⟩) ∧ (s'.bad = true → ∃ z, Go' t k x s'.k z ∧ Stuck t s'.k z)

theorem Out.before {t : ByteArray} {a k : Nat} {x y : Sc} {s' : S1} {m d : Int} (h : Go' t a x k y) (o : Out t k y s' m d) : Out t a x s' m d :=
  ⟨fun hb => by obtain ⟨bk, g⟩ := o.1 hb; exact ⟨bk, h.trans g⟩, fun hb => by obtain ⟨z, g, s⟩ := o.2 hb; exact ⟨z, h.trans g, s⟩⟩
theorem out_step {t : ByteArray} {k : Nat} {x : Sc} {m d bk : Int} (h : goesS x (byteAt t k) = (true, ⟨m, d, bk⟩)) : Out t k x ⟨k + 1, false⟩ m d :=
  ⟨fun _ => ⟨bk, Go'.step h⟩, fun hb => by cases hb⟩
theorem out_stuck {t : ByteArray} {k : Nat} {x : Sc} {m d : Int} (h : Stuck t k x) : Out t k x ⟨k, true⟩ m d :=
  ⟨fun hb => (by cases hb), fun _ => ⟨x, Go'.refl t k x, h⟩⟩

/-- What a good reader sees. -/
theorem pk_good {t : ByteArray} {s : S1} (hb : s.bad = false) (hk : s.k ≤ t.size) : (s.k < t.size ∧ s.pk t = byteAt t s.k) ∨ (s.k = t.size ∧ s.pk t = -1) := by
  unfold S1.pk pk
  rw [hb]
  by_cases h : s.k < t.size
  · left; refine ⟨h, ?_⟩; simp [h, byteAt]
  · right; refine ⟨by omega, ?_⟩; simp [h]

theorem digit10 (c : Int) : (decide (digitI c < 0) || decide (10 ≤ digitI c)) = !decB c := by
  unfold digitI decB
  by_cases h1 : 48 ≤ c ∧ c ≤ 57
  · rw [if_pos h1, Bool.eq_iff_iff]; simp only [Bool.or_eq_true, decide_eq_true_eq, Bool.not_eq_true', Bool.and_eq_false_iff, decide_eq_false_iff_not]; omega
  · rw [if_neg h1]
    by_cases h2 : 97 ≤ c ∧ c ≤ 102
    · rw [if_pos h2, Bool.eq_iff_iff]; simp only [Bool.or_eq_true, decide_eq_true_eq, Bool.not_eq_true', Bool.and_eq_false_iff, decide_eq_false_iff_not]; omega
    · rw [if_neg h2, Bool.eq_iff_iff]; simp only [Bool.or_eq_true, decide_eq_true_eq, Bool.not_eq_true', Bool.and_eq_false_iff, decide_eq_false_iff_not]; omega
theorem digit16 (c : Int) : (decide (digitI c < 0) || decide (16 ≤ digitI c)) = !hexB c := by
  unfold digitI hexB decB
  by_cases h1 : 48 ≤ c ∧ c ≤ 57
  · rw [if_pos h1, Bool.eq_iff_iff]; simp only [Bool.or_eq_true, decide_eq_true_eq, Bool.not_eq_true', Bool.or_eq_false_iff, Bool.and_eq_false_iff, decide_eq_false_iff_not]; omega
  · rw [if_neg h1]
    by_cases h2 : 97 ≤ c ∧ c ≤ 102
    · rw [if_pos h2, Bool.eq_iff_iff]; simp only [Bool.or_eq_true, decide_eq_true_eq, Bool.not_eq_true', Bool.or_eq_false_iff, Bool.and_eq_false_iff, decide_eq_false_iff_not]; omega
    · rw [if_neg h2, Bool.eq_iff_iff]; simp only [Bool.or_eq_true, decide_eq_true_eq, Bool.not_eq_true', Bool.or_eq_false_iff, Bool.and_eq_false_iff, decide_eq_false_iff_not]; omega
theorem hexB_neg : hexB (-1) = false := by decide
theorem decB_neg : decB (-1) = false := by decide

/-- A digit, where the look takes just such digits. -/
theorem readDigit_out {t : ByteArray} {s : S1} {base : Int} {x : Sc} {m d bk : Int} {B : Int → Bool} (hb : s.bad = false) (hk : s.k ≤ t.size)
    (hB : ∀ c, (decide (digitI c < 0) || decide (base ≤ digitI c)) = !B c) (hBn : B (-1) = false) (hm : 0 < x.depth ∨ 1 < x.mode)
    (hg : ∀ c, B c = true → goesS x c = (true, ⟨m, d, bk⟩)) (hn : ∀ c, B c = false → (goesS x c).1 = false) :
    Out t s.k x (readDigitS t base s).2 m d := by
  unfold readDigitS digitOk
  rw [hB, Bool.not_not]
  rcases pk_good hb hk with ⟨h1, h2⟩ | ⟨h1, h2⟩
  · rw [h2]
    by_cases hc : B (byteAt t s.k) = true
    · rw [if_pos hc, hb]; exact out_step (hg _ hc)
    · rw [if_neg hc]; exact out_stuck (Or.inl ⟨h1, hn _ (by simpa using hc)⟩)
  · rw [h2, hBn, if_neg (by simp)]
    exact out_stuck (Or.inr ⟨h1, hm⟩)

theorem bad_digit {t : ByteArray} {s : S1} {base : Int} (hb : s.bad = true) : (readDigitS t base s).2 = ⟨s.k, true⟩ := by
  unfold readDigitS digitOk
  rw [pk_bad hb]
  rw [if_neg (by simp [digitI])]
theorem bad_expect {t : ByteArray} {s : S1} {c : Int} (hc : 0 ≤ c) (hb : s.bad = true) : expectS t c s = ⟨s.k, true⟩ := by
  unfold expectS
  rw [pk_bad hb, if_neg (by simp; omega)]

theorem goes2 {x : Sc} (h : x.mode = 2) (c : Int) : goesS x c = (mayBeEscapedB c || hexB c, ⟨if mayBeEscapedB c then x.back else 3, x.depth, x.back⟩) := by
  unfold goesS; rw [h]; rfl
theorem goes3 {x : Sc} (h : x.mode = 3) (c : Int) : goesS x c = (hexB c, ⟨x.back, x.depth, x.back⟩) := by
  unfold goesS; rw [h]; rfl

/-- Behind a backslash. -/
theorem escape_out {t : ByteArray} {s : S1} {d bk : Int} (hb : s.bad = false) (hk : s.k ≤ t.size) :
    Out t s.k ⟨2, d, bk⟩ (if mayBeEscapedB (s.pk t) then (⟨s.k + 1, s.bad⟩ : S1) else (readDigitS t 16 (readDigitS t 16 s).2).2) bk d := by
  by_cases hm : mayBeEscapedB (s.pk t) = true
  · rw [if_pos hm, hb]
    rcases pk_good hb hk with ⟨h1, h2⟩ | ⟨h1, h2⟩
    · rw [h2] at hm
      refine out_step (bk := bk) ?_
      rw [goes2 rfl]
      simp [hm]
    · rw [h2] at hm; exact absurd hm (by decide)
  · rw [if_neg hm]
    have hm' : mayBeEscapedB (s.pk t) = false := by simpa using hm
    have o1 : Out t s.k ⟨2, d, bk⟩ (readDigitS t 16 s).2 3 d ∧ ((readDigitS t 16 s).2.bad = false → Go' t s.k ⟨2, d, bk⟩ (readDigitS t 16 s).2.k ⟨3, d, bk⟩) := by
      unfold readDigitS digitOk
      rw [digit16, Bool.not_not]
      rcases pk_good hb hk with ⟨h1, h2⟩ | ⟨h1, h2⟩
      · rw [h2] at hm' ⊢
        by_cases hc : hexB (byteAt t s.k) = true
        · rw [if_pos hc, hb]
          have hg : goesS ⟨2, d, bk⟩ (byteAt t s.k) = (true, ⟨3, d, bk⟩) := by rw [goes2 rfl]; simp [hm', hc]
          exact ⟨out_step hg, fun _ => Go'.step hg⟩
        · rw [if_neg hc]
          have hg : (goesS ⟨2, d, bk⟩ (byteAt t s.k)).1 = false := by rw [goes2 rfl]; simp [hm', hc]
          exact ⟨out_stuck (Or.inl ⟨h1, hg⟩), fun hh => by cases hh⟩
      · rw [h2, hexB_neg, if_neg (by simp)]
        exact ⟨out_stuck (Or.inr ⟨h1, Or.inr (by simp)⟩), fun hh => by cases hh⟩
    have hk1 := readDigitS_le (t := t) (c := 16) (s := s) hk
    generalize (readDigitS t 16 s).2 = s1 at *
    cases hb1 : s1.bad
    · have g := o1.2 hb1
      exact Out.before g (readDigit_out (B := hexB) (bk := bk) hb1 hk1 digit16 hexB_neg (Or.inr (by simp)) (fun c hc => by rw [goes3 rfl]; simp [hc]) (fun c hc => by rw [goes3 rfl]; simp [hc]))
    · rw [bad_digit hb1]
      obtain ⟨z, g, st⟩ := o1.1.2 hb1
      exact ⟨fun hh => (by cases hh), fun _ => ⟨z, g, st⟩⟩

theorem readEscape_out {t : ByteArray} {s : S1} {x : Sc} {d bk : Int} (hb : s.bad = false) (hp : (s.pk t == 92) = true) (hg : goesS x 92 = (true, ⟨2, d, bk⟩)) :
    Out t s.k x (readEscapeS t s).2 bk d := by
  have hlt := S1.pk_lt (t := t) (s := s) (by rw [beq_iff_eq] at hp; omega)
  have e1 := expectS_eq hp
  have hbyte : byteAt t s.k = 92 := by
    rcases pk_good hb (Nat.le_of_lt hlt.2) with ⟨h1, h2⟩ | ⟨h1, h2⟩
    · rw [beq_iff_eq] at hp; omega
    · omega
  have g1 : Go' t s.k x (s.k + 1) ⟨2, d, bk⟩ := Go'.step (by rw [hbyte]; exact hg)
  have o := escape_out (t := t) (s := ⟨s.k + 1, s.bad⟩) (d := d) (bk := bk) hb (by simp only; omega)
  have e2 : (readEscapeS t s).2 = if mayBeEscapedB (S1.pk t ⟨s.k + 1, s.bad⟩) then (⟨s.k + 1 + 1, s.bad⟩ : S1) else (readDigitS t 16 (readDigitS t 16 ⟨s.k + 1, s.bad⟩).2).2 := by
    unfold readEscapeS
    simp only [e1]
    split <;> rfl
  rw [e2]
  exact Out.before g1 o

end Go.Proofs.Ytibhlnhmejlhbaa
