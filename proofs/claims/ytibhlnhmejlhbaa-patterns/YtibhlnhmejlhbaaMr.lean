/-
  Plain mathematics: windows of a text; how the document's answer goes over bytes, escapes and sets that the reader has read.
-/
import Derived.Test.YtibhlnhmejlhbaaMq
namespace Go.Proofs.Ytibhlnhmejlhbaa

theorem size_ext {t : ByteArray} {a b : Nat} (h : b ≤ t.size) : (t.extract a b).size = b - a := by
  rw [ByteArray.size_extract, Nat.min_eq_left h]
theorem byteAt_ext {t : ByteArray} {a b i : Nat} (h1 : b ≤ t.size) (h2 : a + i < b) : byteAt (t.extract a b) i = byteAt t (a + i) := by
  have hi : i < (t.extract a b).size := by rw [size_ext h1]; omega
  rw [byteAt_eq hi, byteAt_eq (show a + i < t.size by omega), ByteArray.getElem_extract]
theorem byteAt_win {t : ByteArray} {a b A : Nat} (h1 : b ≤ t.size) (h0 : a ≤ A) (h2 : A < b) : byteAt (t.extract a b) (A - a) = byteAt t A := by
  rw [byteAt_ext h1 (by omega), show a + (A - a) = A from by omega]
theorem ext_ext {t : ByteArray} {a b c d : Nat} (hd : a + d ≤ b) : (t.extract a b).extract c d = t.extract (a + c) (a + d) := by
  rw [ByteArray.extract_extract, Nat.min_eq_left hd]

/-- A set's byte stands from A to B. -/
def SB (t : ByteArray) (A B : Nat) : Prop :=
  (byteAt t A = 92 ∧ A + 1 < t.size ∧ mayBeEscapedB (byteAt t (A + 1)) = true ∧ B = A + 2) ∨
  (byteAt t A = 92 ∧ mayBeEscapedB (byteAt t (A + 1)) = false ∧ A + 2 < t.size ∧ hexB (byteAt t (A + 1)) = true ∧ hexB (byteAt t (A + 2)) = true ∧ B = A + 3) ∨
  (byteAt t A ≠ 92 ∧ byteAt t A ≠ 93 ∧ A < t.size ∧ B = A + 1)

theorem digit_good {t : ByteArray} {s : S1} (hb : s.bad = false) (hk : s.k ≤ t.size) (hg : (readDigitS t 16 s).2.bad = false) :
    s.k < t.size ∧ hexB (byteAt t s.k) = true ∧ (readDigitS t 16 s).2 = ⟨s.k + 1, false⟩ := by
  unfold readDigitS digitOk at hg ⊢
  rw [digit16, Bool.not_not] at hg ⊢
  rcases pk_good hb hk with ⟨h1, h2⟩ | ⟨h1, h2⟩
  · rw [h2] at hg ⊢
    by_cases hc : hexB (byteAt t s.k) = true
    · rw [if_pos hc, hb]; exact ⟨h1, hc, rfl⟩
    · rw [if_neg hc] at hg; cases hg
  · rw [h2, hexB_neg, if_neg (by simp)] at hg; cases hg
theorem good_before {s s' : S1} (h : After s s') (hg : s'.bad = false) : s.bad = false := by
  cases hb : s.bad
  · rfl
  · rw [h.2 hb] at hg; cases hg

theorem escape_good {t : ByteArray} {s : S1} (hb : s.bad = false) (hk : s.k ≤ t.size) (hp : (s.pk t == 92) = true) (hg : (readEscapeS t s).2.bad = false) : SB t s.k (readEscapeS t s).2.k := by
  have hlt := (S1.pk_lt (t := t) (s := s) (by rw [beq_iff_eq] at hp; omega)).2
  have hby : byteAt t s.k = 92 := by
    rcases pk_good hb hk with ⟨_, e⟩ | ⟨e, _⟩
    · rw [← e]; simpa using hp
    · omega
  have e2 : (readEscapeS t s).2 = if mayBeEscapedB (S1.pk t ⟨s.k + 1, s.bad⟩) then (⟨s.k + 1 + 1, s.bad⟩ : S1) else (readDigitS t 16 (readDigitS t 16 ⟨s.k + 1, s.bad⟩).2).2 := by
    unfold readEscapeS
    simp only [expectS_eq hp]
    split <;> rfl
  rw [e2] at hg ⊢
  rw [hb] at hg ⊢
  by_cases hm : mayBeEscapedB (S1.pk t ⟨s.k + 1, false⟩) = true
  · rw [if_pos hm]
    rcases pk_good (t := t) (s := ⟨s.k + 1, false⟩) rfl (by simp only; omega) with ⟨h1, h2⟩ | ⟨_, h2⟩
    · rw [h2] at hm
      exact Or.inl ⟨hby, h1, hm, rfl⟩
    · rw [h2] at hm; exact absurd hm (by decide)
  · rw [if_neg hm] at hg ⊢
    have hg1 := good_before (readDigitS_after t 16 (readDigitS t 16 ⟨s.k + 1, false⟩).2) hg
    obtain ⟨a1, a2, a3⟩ := digit_good (t := t) (s := ⟨s.k + 1, false⟩) rfl (by simp only; omega) hg1
    rw [a3] at hg ⊢
    simp only at a1 a2
    obtain ⟨b1, b2, b3⟩ := digit_good (t := t) (s := ⟨s.k + 1 + 1, false⟩) rfl (by simp only; omega) hg
    rw [b3]
    rcases pk_good (t := t) (s := ⟨s.k + 1, false⟩) rfl (by simp only; omega) with ⟨_, h2⟩ | ⟨h1, _⟩
    · rw [h2] at hm
      exact Or.inr (Or.inl ⟨hby, by simpa using hm, b1, a2, b2, rfl⟩)
    · simp only at h1; omega

theorem setByte_good {t : ByteArray} {s : S1} (hb : s.bad = false) (hk : s.k ≤ t.size) (hg : (readSetByteS t s).2.bad = false) : SB t s.k (readSetByteS t s).2.k := by
  unfold readSetByteS at hg ⊢
  by_cases c92 : (s.pk t == 92) = true
  · rw [if_pos c92] at hg ⊢; exact escape_good hb hk c92 hg
  · rw [if_neg c92] at hg ⊢
    by_cases hc : isPlainInSetB (s.pk t) = true
    · rw [if_pos hc]
      rcases pk_good hb hk with ⟨h1, h2⟩ | ⟨_, h2⟩
      · rw [h2] at hc c92
        refine Or.inr (Or.inr ⟨by simpa using c92, ?_, h1, rfl⟩)
        intro e; rw [e] at hc; exact absurd hc (by decide)
      · rw [h2] at hc; exact absurd hc (by decide)
    · rw [if_neg hc] at hg; cases hg

theorem SB.lt {t : ByteArray} {A B : Nat} (h : SB t A B) : A < B ∧ B ≤ t.size ∧ byteAt t A ≠ 93 := by
  rcases h with ⟨h1, h2, _, h4⟩ | ⟨h1, _, h2, _, _, h4⟩ | ⟨_, h1, h2, h4⟩
  · exact ⟨by omega, by omega, by omega⟩
  · exact ⟨by omega, by omega, by omega⟩
  · exact ⟨by omega, by omega, h1⟩
theorem SB.named {t : ByteArray} {A B a b : Nat} (h : SB t A B) (ha : a ≤ A) (hB : B ≤ b) (hb : b ≤ t.size) : ∃ v, namedS (t.extract a b) (A - a) = some (v, B - a) := by
  have hs := size_ext (a := a) hb
  rcases h with ⟨h1, h2, h3, h4⟩ | ⟨h1, h3, h2, h5, h6, h4⟩ | ⟨h3, _, h2, h4⟩
  · unfold namedS
    rw [if_pos (by omega), byteAt_win hb ha (by omega), h1, if_pos (by decide), if_pos (by omega), show A - a + 1 = (A + 1) - a from by omega, byteAt_win hb (by omega) (by omega), if_pos h3]
    exact ⟨_, by rw [show A - a + 2 = B - a from by omega]⟩
  · unfold namedS
    rw [if_pos (by omega), byteAt_win hb ha (by omega), h1, if_pos (by decide), if_pos (by omega), show A - a + 1 = (A + 1) - a from by omega, show A - a + 2 = (A + 2) - a from by omega, byteAt_win hb (by omega) (by omega), byteAt_win hb (by omega) (by omega), if_neg (by simp [h3]), if_pos ⟨by omega, h5, h6⟩]
    exact ⟨_, by rw [show A - a + 3 = B - a from by omega]⟩
  · unfold namedS
    rw [if_pos (by omega), byteAt_win hb ha (by omega), if_neg (by simp [h3])]
    exact ⟨_, by rw [show A - a + 1 = B - a from by omega]⟩
theorem SB.over {t : ByteArray} {A B a b : Nat} (h : SB t A B) (ha : a ≤ A) (hB : B ≤ b) (hb : b ≤ t.size) (f : Nat) : ovF (t.extract a b) (f + 2) 1 (A - a) = ovF (t.extract a b) (f + 1) 1 (B - a) := by
  have hs := size_ext (a := a) hb
  have hl := h.lt
  rw [ovF, if_pos (by omega), byteAt_win hb ha (by omega), if_neg (by simp [hl.2.2])]
  rcases h with ⟨h1, h2, h3, h4⟩ | ⟨h1, h3, h2, h5, h6, h4⟩ | ⟨h3, _, h2, h4⟩
  · rw [if_pos (by simp [h1])]
    have e : ovF (t.extract a b) (f + 1) 0 (A - a) = some (B - a) := by
      rw [ovF, if_pos (by omega), byteAt_win hb ha (by omega), if_pos (by simp [h1]), if_pos (by omega), show A - a + 1 = (A + 1) - a from by omega, byteAt_win hb (by omega) (by omega), if_pos h3]
      congr 1; omega
    rw [e]; rfl
  · rw [if_pos (by simp [h1])]
    have e : ovF (t.extract a b) (f + 1) 0 (A - a) = some (B - a) := by
      rw [ovF, if_pos (by omega), byteAt_win hb ha (by omega), if_pos (by simp [h1]), if_pos (by omega), show A - a + 1 = (A + 1) - a from by omega, byteAt_win hb (by omega) (by omega), if_neg (by simp [h3])]
      congr 1; omega
    rw [e]; rfl
  · rw [if_neg (by simp [h3]), show A - a + 1 = B - a from by omega]

/-- Items stand from A up to the bracket at E. -/
def Items (t : ByteArray) (A E : Nat) : Prop :=
  A ≤ E ∧ E < t.size ∧ ∀ a b, a ≤ A → E < b → b ≤ t.size → (∀ f, 2 * (E - A) + 1 ≤ f → ovF (t.extract a b) f 1 (A - a) = some (E + 1 - a)) ∧ (∀ n, E - A + 1 ≤ n → ∀ f0, ∃ g, itemsF (t.extract a b) n (A - a) f0 = some g)

theorem Items.none {t : ByteArray} {E : Nat} (h : E < t.size) (hb : byteAt t E = 93) : Items t E E := by
  refine ⟨Nat.le_refl _, h, fun a b ha hE hbs => ⟨fun f hf => ?_, fun n hn f0 => ?_⟩⟩
  · have hs := size_ext (a := a) hbs
    obtain ⟨f, rfl⟩ : ∃ f', f = f' + 1 := ⟨f - 1, by omega⟩
    rw [ovF, if_pos (by omega), byteAt_win hbs ha hE, if_pos (by simp [hb])]
    congr 1; omega
  · have hs := size_ext (a := a) hbs
    obtain ⟨n, rfl⟩ : ∃ n', n = n' + 1 := ⟨n - 1, by omega⟩
    rw [itemsF, if_pos (by omega), byteAt_win hbs ha hE, if_pos (by simp [hb])]
    exact ⟨f0, rfl⟩
theorem Items.one {t : ByteArray} {A C E : Nat} (h : SB t A C) (h45 : byteAt t C ≠ 45) (k : Items t C E) : Items t A E := by
  have hl := h.lt
  refine ⟨by have := k.1; omega, k.2.1, fun a b ha hE hbs => ?_⟩
  have k1 := k.1
  obtain ⟨q1, q2⟩ := k.2.2 a b (by omega) hE hbs
  have hs := size_ext (a := a) hbs
  refine ⟨fun f hf => ?_, fun n hn f0 => ?_⟩
  · obtain ⟨f, rfl⟩ : ∃ f', f = f' + 2 := ⟨f - 2, by omega⟩
    rw [h.over ha (by omega) hbs, q1 _ (by omega)]
  · obtain ⟨n, rfl⟩ : ∃ n', n = n' + 1 := ⟨n - 1, by omega⟩
    obtain ⟨v, hv⟩ := h.named ha (show C ≤ b by omega) hbs
    rw [itemsF, if_pos (by omega), byteAt_win hbs ha (by omega), if_neg (by simp [hl.2.2]), hv]
    simp only [Option.bind_some]
    rw [if_pos (by omega), byteAt_win hbs (by omega) (by omega), if_neg (by simp [h45])]
    exact q2 n (by omega) _
theorem Items.two {t : ByteArray} {A C D E : Nat} (h : SB t A C) (h45 : byteAt t C = 45) (h2 : SB t (C + 1) D) (k : Items t D E) : Items t A E := by
  have hl := h.lt
  have hl2 := h2.lt
  refine ⟨by have := k.1; omega, k.2.1, fun a b ha hE hbs => ?_⟩
  have k1 := k.1
  obtain ⟨q1, q2⟩ := k.2.2 a b (by omega) hE hbs
  have hs := size_ext (a := a) hbs
  refine ⟨fun f hf => ?_, fun n hn f0 => ?_⟩
  · obtain ⟨f, rfl⟩ : ∃ f', f = f' + 4 := ⟨f - 4, by omega⟩
    rw [h.over ha (by omega) hbs, ovF, if_pos (by omega), byteAt_win hbs (by omega) (by omega), if_neg (by simp [h45]), if_neg (by simp [h45]), show C - a + 1 = (C + 1) - a from by omega, h2.over (by omega) (by omega) hbs, q1 _ (by omega)]
  · obtain ⟨n, rfl⟩ : ∃ n', n = n' + 1 := ⟨n - 1, by omega⟩
    obtain ⟨v, hv⟩ := h.named ha (show C ≤ b by omega) hbs
    obtain ⟨v2, hv2⟩ := h2.named (show a ≤ C + 1 by omega) (show D ≤ b by omega) hbs
    rw [itemsF, if_pos (by omega), byteAt_win hbs ha (by omega), if_neg (by simp [hl.2.2]), hv]
    simp only [Option.bind_some]
    rw [if_pos (by omega), byteAt_win hbs (by omega) (by omega), if_pos (by simp [h45]), show C - a + 1 = (C + 1) - a from by omega, hv2]
    simp only [Option.bind_some]
    exact q2 n (by omega) _

theorem item_good {t : ByteArray} {s : S1} {E : Nat} (hb : s.bad = false) (hk : s.k ≤ t.size) (hg : (readItemS t s).2.bad = false) (k : Items t (readItemS t s).2.k E) : Items t s.k E := by
  have hk1 := readSetByteS_le (t := t) (s := s) hk
  unfold readItemS at hg k
  simp only at hg k
  by_cases c45 : ((readSetByteS t s).2.pk t == 45) = true
  · rw [if_pos c45, takeS_eq c45] at hg k
    obtain ⟨hb1, hlt⟩ := S1.pk_lt (t := t) (s := (readSetByteS t s).2) (by rw [beq_iff_eq] at c45; omega)
    have h1 := setByte_good hb hk hb1
    rw [hb1] at hg k
    have h2 := setByte_good (t := t) (s := ⟨(readSetByteS t s).2.k + 1, false⟩) rfl (by simp only; omega) hg
    have e : byteAt t (readSetByteS t s).2.k = 45 := by
      rcases pk_good hb1 hk1 with ⟨_, e⟩ | ⟨e, _⟩
      · rw [← e]; simpa using c45
      · omega
    exact Items.two h1 e h2 k
  · rw [if_neg c45] at hg k
    have h1 := setByte_good hb hk hg
    refine Items.one h1 ?_ k
    rcases pk_good hg hk1 with ⟨_, e⟩ | ⟨e, _⟩
    · rw [← e]; simpa using c45
    · have k1 := k.1; have k2 := k.2.1; simp only at k1 e; omega

theorem setLoop_good {t : ByteArray} : ∀ (n : Nat) (f : Nat → Bool) (s : S1), s.k ≤ t.size → left t s ≤ n → s.bad = false → (setLoop t n f s).2.bad = false → (setLoop t n f s).2.pk t = 93 → Items t s.k (setLoop t n f s).2.k := by
  intro n
  induction n with
  | zero => intro f s hk hl hb; unfold left at hl; rw [hb] at hl; simp at hl
  | succ n ih =>
    intro f s hk hl hb hg hp
    by_cases hgo : (!s.bad && s.pk t != 93) = true
    · rw [setLoop_go n f s hgo] at hg hp ⊢
      have hg1 := good_before (setLoop_after t n _ _) hg
      have hl2 := left_goes (t := t) hb (readItemS_le hk) (readItemS_goes t s)
      exact item_good hb hk hg1 (ih _ _ (readItemS_le hk) (by omega) hg1 hg hp)
    · have hgo' : (!s.bad && s.pk t != 93) = false := by simpa using hgo
      rw [setLoop_stop (n + 1) f s hgo'] at hp ⊢
      rcases pk_good hb hk with ⟨h1, e⟩ | ⟨_, e⟩
      · exact Items.none h1 (by rw [← e]; exact hp)
      · simp only at hp; omega

end Go.Proofs.Ytibhlnhmejlhbaa
