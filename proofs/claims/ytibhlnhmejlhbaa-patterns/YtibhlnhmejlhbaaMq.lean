/-
  Plain mathematics: the reader of patterns stops where the look byte by byte does (whole patterns).
-/
import Derived.Test.YtibhlnhmejlhbaaMp
namespace Go.Proofs.Ytibhlnhmejlhbaa

theorem goes_out {x : Sc} (h : x.mode = 0 ∨ x.mode = 1) (c : Int) : goesS x c = outsideS x c := by
  unfold goesS
  rw [if_pos]
  rcases h with h | h <;> simp [h]

theorem out_plain {x : Sc} (h : x.mode = 0 ∨ x.mode = 1) {c : Int} (hc : isPlainB c = true ∨ c = 46) : goesS x c = (true, ⟨1, x.depth, x.back⟩) := by
  rw [goes_out h]
  have hp : printB c = true ∧ ¬ (c = 124 ∨ c = 40 ∨ c = 41 ∨ c = 42 ∨ c = 43 ∨ c = 63 ∨ c = 123 ∨ c = 91 ∨ c = 92 ∨ c = 125 ∨ c = 93) := by
    rcases hc with hc | hc
    · simp only [isPlainB, isMarkB, Bool.and_eq_true, Bool.not_eq_true', Bool.or_eq_false_iff, beq_eq_false_iff_ne, decide_eq_true_eq] at hc
      simp only [printB, Bool.and_eq_true, decide_eq_true_eq]
      omega
    · subst hc; decide
  unfold outsideS
  rw [if_neg (by simp; omega), if_neg (by simp; omega), if_neg (by simp; omega), if_neg (by simp; omega), if_neg (by simp; omega), if_neg (by simp; omega), if_neg (by simp; omega), if_neg (by simp; omega), hp.1]

/-- A byte at which a pattern that is whole cannot go on. -/
theorem out_no {x : Sc} (h : x.mode = 0 ∨ x.mode = 1) {c : Int} (ha : atAtomB c = false) (hs : x.mode = 1 → atSuffixB c = false) (h124 : c ≠ 124) (h41 : c = 41 → x.depth ≤ 0) : (goesS x c).1 = false := by
  rw [goes_out h]
  simp only [atAtomB, Bool.or_eq_false_iff, beq_eq_false_iff_ne] at ha
  unfold outsideS
  rw [if_neg (by simp [h124]), if_neg (by simp; omega)]
  by_cases c41 : c = 41
  · rw [if_pos (by simp [c41])]
    have := h41 c41
    simp; omega
  · rw [if_neg (by simp [c41])]
    by_cases hsx : atSuffixB c = true
    · have hm : ¬ x.mode = 1 := fun hm => by rw [hs hm] at hsx; cases hsx
      have hm' : (x.mode == 1) = false := by simp [hm]
      simp only [atSuffixB, Bool.or_eq_true, beq_iff_eq] at hsx
      by_cases c1 : (c == 42 || c == 43 || c == 63) = true
      · rw [if_pos c1]; exact hm'
      · rw [if_neg c1]
        have : c = 123 := by simp at c1; omega
        rw [if_pos (by simp [this])]; exact hm'
    · simp only [atSuffixB, Bool.or_eq_true, beq_iff_eq] at hsx
      rw [if_neg (by simp; omega), if_neg (by simp; omega), if_neg (by simp; omega), if_neg (by simp; omega)]
      by_cases c2 : (c == 125 || c == 93) = true
      · rw [if_pos c2]
      · rw [if_neg c2]
        have hpl := ha.2
        simp at c2
        simp only [isPlainB, isMarkB, Bool.and_eq_false_iff, Bool.not_eq_false', Bool.or_eq_true, beq_iff_eq, decide_eq_false_iff_not] at hpl
        simp only [printB, Bool.and_eq_false_iff, decide_eq_false_iff_not]
        omega

theorem leaf_out {t : ByteArray} {y : St} {x : Sc} (hb : y.s.bad = false) (hk : y.s.k ≤ t.size) (h : x.mode = 0 ∨ x.mode = 1) (ha : atAtomB (y.s.pk t) = true) (h40 : (y.s.pk t == 40) = false) :
    Out t y.s.k x (readLeafS t y).s 1 x.depth := by
  have hlt : y.s.k < t.size ∧ y.s.pk t = byteAt t y.s.k := by
    rcases pk_good hb hk with h1 | ⟨_, h2⟩
    · exact h1
    · rw [h2] at ha; exact absurd ha (by decide)
  unfold readLeafS
  by_cases c91 : (y.s.pk t == 91) = true
  · rw [if_pos c91]
    show Out t y.s.k x (readSetS t (takeS t 91 y.s)).2 1 x.depth
    rw [takeS_eq c91, hb]
    have g : Go' t y.s.k x (y.s.k + 1) ⟨8, x.depth, x.back⟩ := Go'.step (by rw [← hlt.2, goes_out h, show y.s.pk t = 91 from by simpa using c91]; rfl)
    exact Out.before g (readSet_out (s := ⟨y.s.k + 1, false⟩) rfl (by simp only; omega))
  · rw [if_neg c91]
    by_cases c46 : (y.s.pk t == 46) = true
    · rw [if_pos c46]
      show Out t y.s.k x (takeS t 46 y.s) 1 x.depth
      rw [takeS_eq c46, hb]
      exact out_step (bk := x.back) (by rw [← hlt.2]; exact out_plain h (Or.inr (by simpa using c46)))
    · rw [if_neg c46]
      show Out t y.s.k x (readByteS t y.s).2 1 x.depth
      unfold readByteS
      by_cases c92 : (y.s.pk t == 92) = true
      · rw [if_pos c92]
        exact readEscape_out hb c92 (by rw [goes_out h]; rfl)
      · rw [if_neg c92]
        have hp : isPlainB (y.s.pk t) = true := by
          simp only [atAtomB, Bool.or_eq_true] at ha
          rcases ha with (((ha | ha) | ha) | ha) | ha
          · exact absurd ha c46
          · rw [h40] at ha; cases ha
          · exact absurd ha c91
          · exact absurd ha c92
          · exact ha
        rw [if_pos hp, hb]
        rw [hlt.2] at hp
        exact out_step (out_plain h (Or.inl hp))

theorem Out.then {t : ByteArray} {k : Nat} {x : Sc} {s1 s2 : S1} {m m2 d : Int} (o : Out t k x s1 m d) (hg : ∀ bk, s1.bad = false → Out t s1.k ⟨m, d, bk⟩ s2 m2 d) (hb : s1.bad = true → s2 = ⟨s1.k, true⟩) : Out t k x s2 m2 d := by
  cases h : s1.bad
  · obtain ⟨bk, g⟩ := o.1 h
    exact Out.before g (hg bk h)
  · rw [hb h]
    obtain ⟨z, g, st⟩ := o.2 h
    exact ⟨fun hh => (by cases hh), fun _ => ⟨z, g, st⟩⟩

theorem expect_out {t : ByteArray} {s : S1} {c : Int} {x : Sc} {m d bk : Int} (hb : s.bad = false) (hk : s.k ≤ t.size) (hc : 0 ≤ c) (hm : 1 < x.mode)
    (hg : goesS x c = (true, ⟨m, d, bk⟩)) (hn : ∀ c', c' ≠ c → (goesS x c').1 = false) : Out t s.k x (expectS t c s) m d := by
  unfold expectS
  rcases pk_good hb hk with ⟨h1, h2⟩ | ⟨h1, h2⟩
  · by_cases h : (s.pk t == c) = true
    · rw [if_pos h, hb]
      exact out_step (by rw [← h2, show s.pk t = c from by simpa using h]; exact hg)
    · rw [if_neg h]
      exact out_stuck (Or.inl ⟨h1, hn _ (by rw [← h2]; simpa using h)⟩)
  · rw [h2, if_neg (by simp; omega)]
    exact out_stuck (Or.inr ⟨h1, Or.inr hm⟩)

theorem suffix_out {t : ByteArray} {y : St} {whole : Int} {d bk : Int} (hb : y.s.bad = false) (hk : y.s.k ≤ t.size) (hs : atSuffixB (y.s.pk t) = true) :
    Out t y.s.k ⟨1, d, bk⟩ (readSuffixS t whole y).s 1 d := by
  have hlt : y.s.k < t.size ∧ y.s.pk t = byteAt t y.s.k := by
    rcases pk_good hb hk with h1 | ⟨_, h2⟩
    · exact h1
    · rw [h2] at hs; exact absurd hs (by decide)
  have star : ∀ c : Int, c = 42 ∨ c = 43 ∨ c = 63 → goesS ⟨1, d, bk⟩ c = (true, ⟨1, d, bk⟩) := by
    rintro c (rfl | rfl | rfl) <;> rfl
  unfold readSuffixS
  by_cases h1 : (y.s.pk t == 42) = true
  · rw [if_pos h1]
    show Out t y.s.k _ (takeS t 42 y.s) 1 d
    rw [takeS_eq h1, hb]
    exact out_step (by rw [← hlt.2]; exact star _ (Or.inl (by simpa using h1)))
  · rw [if_neg h1]
    by_cases h2 : (y.s.pk t == 43) = true
    · rw [if_pos h2]
      show Out t y.s.k _ (takeS t 43 y.s) 1 d
      rw [takeS_eq h2, hb]
      exact out_step (by rw [← hlt.2]; exact star _ (Or.inr (Or.inl (by simpa using h2))))
    · rw [if_neg h2]
      by_cases h3 : (y.s.pk t == 63) = true
      · rw [if_pos h3]
        show Out t y.s.k _ (takeS t 63 y.s) 1 d
        rw [takeS_eq h3, hb]
        exact out_step (by rw [← hlt.2]; exact star _ (Or.inr (Or.inr (by simpa using h3))))
      · rw [if_neg h3]
        have h4 : (y.s.pk t == 123) = true := by
          simp only [atSuffixB, Bool.or_eq_true] at hs
          rcases hs with ((hs | hs) | hs) | hs
          · exact absurd hs h1
          · exact absurd hs h2
          · exact absurd hs h3
          · exact hs
        show Out t y.s.k _ (expectS t 125 (readDigitS t 10 (expectS t 44 (readDigitS t 10 (expectS t 123 y.s)).2)).2) 1 d
        rw [expectS_eq h4, hb]
        have g : Go' t y.s.k ⟨1, d, bk⟩ (y.s.k + 1) ⟨4, d, bk⟩ := Go'.step (by rw [← hlt.2, show y.s.pk t = 123 from by simpa using h4]; rfl)
        have k1 : (⟨y.s.k + 1, false⟩ : S1).k ≤ t.size := by simp only; omega
        have k2 := readDigitS_le (t := t) (c := 10) (s := ⟨y.s.k + 1, false⟩) k1
        have k3 := expectS_le (t := t) (c := 44) (s := (readDigitS t 10 ⟨y.s.k + 1, false⟩).2) (by omega) k2
        have k4 := readDigitS_le (t := t) (c := 10) (s := expectS t 44 (readDigitS t 10 ⟨y.s.k + 1, false⟩).2) k3
        have o1 : Out t (y.s.k + 1) ⟨4, d, bk⟩ (readDigitS t 10 ⟨y.s.k + 1, false⟩).2 5 d :=
          readDigit_out (s := ⟨y.s.k + 1, false⟩) (B := decB) (bk := bk) rfl k1 digit10 decB_neg (Or.inr (by simp)) (fun c hc => by show (decB c, _) = _; rw [hc]; rfl) (fun c hc => hc)
        refine Out.before g (((o1.then (s2 := expectS t 44 _) (m2 := 6) ?_ (fun hh => bad_expect (by omega) hh)).then (s2 := (readDigitS t 10 _).2) (m2 := 7) ?_ (fun hh => bad_digit hh)).then ?_ (fun hh => bad_expect (by omega) hh))
        · intro bk' hh
          refine expect_out (bk := bk') hh k2 (by omega) (by simp) rfl (fun c' hc' => ?_)
          show (c' == 44) = false
          simp [hc']
        · intro bk' hh
          exact readDigit_out (B := decB) (bk := bk') hh k3 digit10 decB_neg (Or.inr (by simp)) (fun c hc => by show (decB c, _) = _; rw [hc]; rfl) (fun c hc => hc)
        · intro bk' hh
          refine expect_out (bk := bk') hh k4 (by omega) (by simp) rfl (fun c' hc' => ?_)
          show (c' == 125) = false
          simp [hc']

/-- Behind a part of a pattern: the look stands outside of sets, and this holds of its mode and the next byte. -/
def EndOut (t : ByteArray) (k : Nat) (x : Sc) (s' : S1) (d : Int) (P : Int → Int → Prop) : Prop :=
  (s'.bad = false → ∃ m bk, Go' t k x s'.k ⟨m, d, bk⟩ ∧ (m = 0 ∨ m = 1) ∧ P m (s'.pk t)) ∧ (s'.bad = true → ∃ z, Go' t k x s'.k z ∧ Stuck t s'.k z)

def P6 (m _c : Int) : Prop := m = 1
def P5 (m c : Int) : Prop := m = 1 ∧ atSuffixB c = false
def P3 (m c : Int) : Prop := m = 1 ∧ atSuffixB c = false ∧ atAtomB c = false
def P2 (m c : Int) : Prop := atAtomB c = false ∧ (m = 1 → atSuffixB c = false)
def P1 (m c : Int) : Prop := atAtomB c = false ∧ (m = 1 → atSuffixB c = false) ∧ c ≠ 124

theorem EndOut.before {t : ByteArray} {a k : Nat} {x y : Sc} {s' : S1} {d : Int} {P : Int → Int → Prop} (h : Go' t a x k y) (o : EndOut t k y s' d P) : EndOut t a x s' d P :=
  ⟨fun hb => by obtain ⟨m, bk, g, r⟩ := o.1 hb; exact ⟨m, bk, h.trans g, r⟩, fun hb => by obtain ⟨z, g, s⟩ := o.2 hb; exact ⟨z, h.trans g, s⟩⟩
theorem EndOut.mono {t : ByteArray} {k : Nat} {x : Sc} {s' : S1} {d : Int} {P Q : Int → Int → Prop} (o : EndOut t k x s' d P) (h : ∀ m c, P m c → Q m c) : EndOut t k x s' d Q :=
  ⟨fun hb => by obtain ⟨m, bk, g, h0, r⟩ := o.1 hb; exact ⟨m, bk, g, h0, h m _ r⟩, o.2⟩

def OutT (t : ByteArray) (tag : Nat) (st : St) (r : St) : Prop :=
  match tag with
  | 0 => ∀ d bk, 0 ≤ d → st.s.bad = false → EndOut t st.s.k ⟨0, d, bk⟩ r.s d P1
  | 1 => ∀ k x d, 0 ≤ d → EndOut t k x st.s d P2 → EndOut t k x r.s d P1
  | 2 => ∀ d bk, 0 ≤ d → st.s.bad = false → EndOut t st.s.k ⟨0, d, bk⟩ r.s d P2
  | 3 => ∀ k x d, 0 ≤ d → EndOut t k x st.s d P5 → EndOut t k x r.s d P3
  | 4 => ∀ x, 0 ≤ x.depth → (x.mode = 0 ∨ x.mode = 1) → st.s.bad = false → atAtomB (st.s.pk t) = true → EndOut t st.s.k x r.s x.depth P5
  | 5 => ∀ k x d, 0 ≤ d → EndOut t k x st.s d P6 → EndOut t k x r.s d P5
  | _ => ∀ x, 0 ≤ x.depth → (x.mode = 0 ∨ x.mode = 1) → st.s.bad = false → atAtomB (st.s.pk t) = true → EndOut t st.s.k x r.s x.depth P6

theorem out_end {t : ByteArray} {k : Nat} {x : Sc} {s' : S1} {d : Int} (o : Out t k x s' 1 d) : EndOut t k x s' d P6 :=
  ⟨fun hb => by obtain ⟨bk, g⟩ := o.1 hb; exact ⟨1, bk, g, Or.inr rfl, rfl⟩, o.2⟩

theorem rdF_out (t : ByteArray) : ∀ (f tag : Nat) (whole : Int) (st : St) (r : St × Int), st.s.k ≤ t.size → rdF t f tag whole st = some r → OutT t tag st r.1 := by
  intro f
  induction f with
  | zero => intro tag whole st r _ h; simp [rdF] at h
  | succ f ih =>
    intro tag whole st r hk h
    match tag with
    | 0 =>
      simp only [rdF, Option.bind_eq_some_iff] at h
      obtain ⟨r1, h1, h2⟩ := h
      intro d bk hd hb
      have o1 := ih 2 _ _ _ hk h1 d bk hd hb
      have hk1 : r1.1.s.k ≤ t.size := (rdF_facts t f 2 _ _ _ hk h1).2.1
      exact ih 1 _ _ _ hk1 h2 _ _ d hd o1
    | 1 =>
      simp only [rdF] at h
      intro k x d hd o
      split at h
      · rename_i hc
        simp only [Option.bind_eq_some_iff] at h
        obtain ⟨r1, h1, h2⟩ := h
        obtain ⟨hb, hlt⟩ := S1.pk_lt (t := t) (s := st.s) (by rw [beq_iff_eq] at hc; omega)
        rw [takeS_eq hc] at h1
        have hk0 : (st.at ⟨st.s.k + 1, st.s.bad⟩).s.k ≤ t.size := by simp only [St.at]; omega
        have hk1 : r1.1.s.k ≤ t.size := (rdF_facts t f 2 _ _ _ hk0 h1).2.1
        obtain ⟨m, bk, g, hm, _⟩ := o.1 hb
        have g2 : Go' t st.s.k ⟨m, d, bk⟩ (st.s.k + 1) ⟨0, d, bk⟩ := Go'.step (by
          rcases pk_good hb hk with ⟨_, e⟩ | ⟨e, _⟩
          · rw [← e, goes_out hm, show st.s.pk t = 124 from by simpa using hc]; rfl
          · omega)
        have o1 := ih 2 _ _ _ hk0 h1 d bk hd hb
        exact ih 1 _ (r1.1.add ⟨3, whole, r1.2, 0, 0, 0⟩) _ hk1 h2 k x d hd (EndOut.before (g.trans g2) o1)
      · rename_i hc
        simp only [Option.some.injEq] at h
        subst h
        exact ⟨fun hb => by obtain ⟨m, bk, g, hm, p⟩ := o.1 hb; exact ⟨m, bk, g, hm, p.1, p.2, by simpa using hc⟩, o.2⟩
    | 2 =>
      simp only [rdF] at h
      intro d bk hd hb
      split at h
      · rename_i hc
        simp only [Option.bind_eq_some_iff] at h
        obtain ⟨r1, h1, h2⟩ := h
        have hk1 : r1.1.s.k ≤ t.size := (rdF_facts t f 4 _ _ _ hk h1).1.2.1
        have o1 := ih 4 _ _ _ hk h1 ⟨0, d, bk⟩ hd (Or.inl rfl) hb hc
        exact (ih 3 _ _ _ hk1 h2 _ _ d hd o1).mono (fun m c p => ⟨p.2.2, fun _ => p.2.1⟩)
      · rename_i hc
        simp only [Option.some.injEq] at h
        subst h
        exact ⟨fun _ => ⟨0, bk, Go'.refl _ _ _, Or.inl rfl, (by simpa using hc : atAtomB (st.s.pk t) = false), fun hm => by omega⟩, fun hh => by have : st.s.bad = true := hh; rw [hb] at this; cases this⟩
    | 3 =>
      simp only [rdF] at h
      intro k x d hd o
      split at h
      · rename_i hc
        simp only [Option.bind_eq_some_iff] at h
        obtain ⟨r1, h1, h2⟩ := h
        have hb : st.s.bad = false := by
          cases hb : st.s.bad
          · rfl
          · rw [pk_bad hb] at hc; exact absurd hc (by decide)
        have hk1 : r1.1.s.k ≤ t.size := (rdF_facts t f 4 _ _ _ hk h1).1.2.1
        obtain ⟨m, bk, g, hm, p⟩ := o.1 hb
        have o1 := ih 4 _ _ _ hk h1 ⟨m, d, bk⟩ hd hm hb hc
        exact ih 3 _ (r1.1.add ⟨2, whole, r1.2, 0, 0, 0⟩) _ hk1 h2 k x d hd (EndOut.before g o1)
      · rename_i hc
        simp only [Option.some.injEq] at h
        subst h
        exact ⟨fun hb => by obtain ⟨m, bk, g, hm, p⟩ := o.1 hb; exact ⟨m, bk, g, hm, p.1, p.2, by simpa using hc⟩, o.2⟩
    | 4 =>
      simp only [rdF, Option.bind_eq_some_iff] at h
      obtain ⟨r1, h1, h2⟩ := h
      intro x hd hm hb ha
      have hk1 : r1.1.s.k ≤ t.size := (rdF_facts t f 6 _ _ _ hk h1).1.2.1
      have o1 := ih 6 _ _ _ hk h1 x hd hm hb ha
      exact ih 5 _ _ _ hk1 h2 _ _ _ hd o1
    | 5 =>
      simp only [rdF] at h
      intro k x d hd o
      split at h
      · rename_i hc
        have hb : st.s.bad = false := by
          cases hb : st.s.bad
          · rfl
          · rw [pk_bad hb] at hc; exact absurd hc (by decide)
        have hk1 := (readSuffixS_facts (whole := whole) hk hc).2.1
        obtain ⟨m, bk, g, hm, p⟩ := o.1 hb
        have p' : m = 1 := p
        subst p'
        exact ih 5 _ _ _ hk1 h k x d hd (EndOut.before g (out_end (suffix_out hb hk hc)))
      · rename_i hc
        simp only [Option.some.injEq] at h
        subst h
        exact ⟨fun hb => by obtain ⟨m, bk, g, hm, p⟩ := o.1 hb; exact ⟨m, bk, g, hm, p, by simpa using hc⟩, o.2⟩
    | tag + 6 =>
      simp only [rdF] at h
      intro x hd hm hb ha
      split at h
      · rename_i hc
        simp only [Option.bind_eq_some_iff, Option.some.injEq] at h
        obtain ⟨r1, h1, rfl⟩ := h
        obtain ⟨_, hlt⟩ := S1.pk_lt (t := t) (s := st.s) (by rw [beq_iff_eq] at hc; omega)
        rw [takeS_eq hc] at h1
        have hk0 : (st.at ⟨st.s.k + 1, st.s.bad⟩).s.k ≤ t.size := by simp only [St.at]; omega
        have hk1 : r1.1.s.k ≤ t.size := (rdF_facts t f 0 _ _ _ hk0 h1).2.1
        have g : Go' t st.s.k x (st.s.k + 1) ⟨0, x.depth + 1, x.back⟩ := Go'.step (by
          rcases pk_good hb hk with ⟨_, e⟩ | ⟨e, _⟩
          · rw [← e, goes_out hm, show st.s.pk t = 40 from by simpa using hc]; rfl
          · omega)
        have o1 := EndOut.before g (ih 0 _ _ _ hk0 h1 (x.depth + 1) x.back (by omega) hb)
        show EndOut t st.s.k x (expectS t 41 r1.1.s) x.depth P6
        cases hb1 : r1.1.s.bad
        · obtain ⟨m, bk, g1, hm1, p⟩ := o1.1 hb1
          unfold expectS
          rcases pk_good hb1 hk1 with ⟨e1, e2⟩ | ⟨e1, e2⟩
          · by_cases c41 : (r1.1.s.pk t == 41) = true
            · rw [if_pos c41, hb1]
              have g2 : Go' t r1.1.s.k ⟨m, x.depth + 1, bk⟩ (r1.1.s.k + 1) ⟨1, x.depth, bk⟩ := Go'.step (by
                rw [← e2, goes_out hm1, show r1.1.s.pk t = 41 from by simpa using c41]
                have hde : x.depth + 1 - 1 = x.depth := by omega
                show (decide (0 ≤ x.depth + 1 - 1), (⟨1, x.depth + 1 - 1, bk⟩ : Sc)) = _
                rw [hde, decide_eq_true hd])
              exact ⟨fun _ => ⟨1, bk, g1.trans g2, Or.inr rfl, rfl⟩, fun hh => by cases hh⟩
            · rw [if_neg c41]
              have st2 : Stuck t r1.1.s.k ⟨m, x.depth + 1, bk⟩ := Or.inl ⟨e1, by
                rw [← e2]
                exact out_no hm1 p.1 p.2.1 p.2.2 (fun hh => absurd (by simp [hh]) c41)⟩
              exact ⟨fun hh => (by cases hh), fun _ => ⟨_, g1, st2⟩⟩
          · rw [e2, if_neg (by decide)]
            exact ⟨fun hh => (by cases hh), fun _ => ⟨_, g1, Or.inr ⟨e1, Or.inl (by simp only; omega)⟩⟩⟩
        · rw [bad_expect (by omega) hb1]
          obtain ⟨z, g1, s1⟩ := o1.2 hb1
          exact ⟨fun hh => (by cases hh), fun _ => ⟨z, g1, s1⟩⟩
      · rename_i hc
        simp only [Option.some.injEq] at h
        subst h
        exact out_end (leaf_out hb hk hm ha (by simpa using hc))

/-- The place of the error. -/
theorem place_meets {t : ByteArray} {y : St} {i : Int} (h : Rds t 0 0 x0 (y, i)) :
    ((y.s.bad = true ∨ y.s.k < t.size) → placeS t = (y.s.k : Int)) ∧ (¬ (y.s.bad = true ∨ y.s.k < t.size) → placeS t = -1) := by
  obtain ⟨f, hf⟩ := h
  have hk0 : x0.s.k ≤ t.size := Nat.zero_le _
  have hky : y.s.k ≤ t.size := (rdF_facts t f 0 _ _ _ hk0 hf).2.1
  have o : EndOut t 0 ⟨0, 0, 0⟩ y.s 0 P1 := rdF_out t f 0 _ _ _ hk0 hf 0 0 (by omega) rfl
  have run : ∀ z, Go' t 0 ⟨0, 0, 0⟩ y.s.k z → placeS t = scanS t (t.size - y.s.k) y.s.k z := by
    intro z g
    have := scan_adv t y.s.k 0 _ z (by have := g.2; simpa using this) (by omega)
    simpa [placeS] using this
  cases hb : y.s.bad
  · obtain ⟨m, bk, g, hm, p⟩ := o.1 hb
    rw [run _ g]
    constructor
    · intro hh
      have hlt : y.s.k < t.size := by
        rcases hh with hh | hh
        · cases hh
        · exact hh
      rcases pk_good hb hky with ⟨_, e2⟩ | ⟨e1, _⟩
      · exact scan_stuck (Or.inl ⟨hlt, by rw [← e2]; exact out_no hm p.1 p.2.1 p.2.2 (fun _ => by simp)⟩)
      · omega
    · intro hh
      have : ¬ y.s.k < t.size := fun h => hh (Or.inr h)
      rw [show t.size - y.s.k = 0 from by omega]
      simp only [scanS]
      rw [if_neg]
      simp only [Bool.or_eq_true, decide_eq_true_eq]
      omega
  · obtain ⟨z, g, st⟩ := o.2 hb
    exact ⟨fun _ => by rw [run _ g]; exact scan_stuck st, fun hh => absurd (Or.inl rfl) hh⟩

end Go.Proofs.Ytibhlnhmejlhbaa
