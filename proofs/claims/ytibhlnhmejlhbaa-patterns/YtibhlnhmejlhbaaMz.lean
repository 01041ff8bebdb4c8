/-
  Plain mathematics: the document's answer agrees with every reading.
-/
import Derived.Test.YtibhlnhmejlhbaaMv
namespace Go.Proofs.Ytibhlnhmejlhbaa

theorem lt_pos (ns : List Nd) (h : ns ≠ []) : 1 ≤ lt' ns := by
  unfold lt' lastW
  have hl := trueAll_len ns
  have hp := List.length_pos_iff.2 h
  rw [List.getLast?_eq_getElem?, List.getElem?_eq_getElem (by omega)]
  exact trueAll_pos ns _ (List.getElem_mem _)

/-- The node of a join or of an either weighs the sum. -/
theorem lt_two {st r1 : List Nd} {e : List Nd} {K whole i : Int} (hK : K = 2 ∨ K = 3) (hst : st ≠ []) (h1 : r1 = st ++ e) (hr : r1 ≠ []) (hw : whole = (st.length : Int) - 1) (hi : i = (r1.length : Int) - 1) :
    lt' (r1 ++ [⟨K, whole, i, 0, 0, 0⟩]) = lt' st + lt' r1 := by
  rw [lt_snoc]
  have a : wAt (trueAll r1) whole = lt' st := by rw [h1, hw]; exact wAt_last st e hst
  have b : wAt (trueAll r1) i = lt' r1 := by rw [hi]; have := wAt_last r1 [] hr; simpa using this
  have e0 : rawW (trueAll r1) ⟨K, whole, i, 0, 0, 0⟩ = lt' st + lt' r1 := by
    unfold rawW
    rw [if_pos (by rcases hK with rfl | rfl <;> simp)]
    simp only
    rw [a, b]
  rw [e0]
  have := lt_pos st hst
  have := lt_pos r1 hr
  unfold max1
  rw [if_neg (by omega)]

theorem digit10_good {t : ByteArray} {s : S1} (hb : s.bad = false) (hk : s.k ≤ t.size) (hg : (readDigitS t 10 s).2.bad = false) :
    s.k < t.size ∧ decB (byteAt t s.k) = true ∧ readDigitS t 10 s = (byteAt t s.k - 48, ⟨s.k + 1, false⟩) := by
  unfold readDigitS digitOk at hg ⊢
  rw [digit10, Bool.not_not] at hg ⊢
  rcases pk_good hb hk with ⟨h1, h2⟩ | ⟨h1, h2⟩
  · rw [h2] at hg ⊢
    by_cases hc : decB (byteAt t s.k) = true
    · rw [if_pos hc, hb]
      refine ⟨h1, hc, ?_⟩
      have : 48 ≤ byteAt t s.k ∧ byteAt t s.k ≤ 57 := by simpa [decB] using hc
      unfold digitI
      rw [if_pos this]
    · rw [if_neg hc] at hg; cases hg
  · rw [h2, decB_neg, if_neg (by simp)] at hg; cases hg
theorem expect_good {t : ByteArray} {s : S1} {c : Int} (hb : s.bad = false) (hk : s.k ≤ t.size) (hc : 0 ≤ c) (hg : (expectS t c s).bad = false) :
    s.k < t.size ∧ byteAt t s.k = c ∧ expectS t c s = ⟨s.k + 1, false⟩ := by
  unfold expectS at hg ⊢
  rcases pk_good hb hk with ⟨h1, h2⟩ | ⟨h1, h2⟩
  · by_cases h : (s.pk t == c) = true
    · rw [if_pos h, hb]; exact ⟨h1, by rw [← h2]; simpa using h, rfl⟩
    · rw [if_neg h] at hg; cases hg
  · rw [h2, if_neg (by simp; omega)] at hg; cases hg

theorem suffix_good {t : ByteArray} {st : St} {whole : Int} (h60 : t.size ≤ 60) (hb : st.s.bad = false) (hk : st.s.k ≤ t.size) (hs : atSuffixB (st.s.pk t) = true) (hg : (readSuffixS t whole st).s.bad = false)
    (hne : st.ns ≠ []) (hw : whole = (st.ns.length : Int) - 1) : SufI t st.s.k (readSuffixS t whole st).s.k (lt' st.ns) (lt' (readSuffixS t whole st).ns) := by
  have hp := lt_pos st.ns hne
  have hlt : st.s.k < t.size ∧ st.s.pk t = byteAt t st.s.k := by
    rcases pk_good hb hk with h1 | ⟨_, h2⟩
    · exact h1
    · rw [h2] at hs; exact absurd hs (by decide)
  have ha : wAt (trueAll st.ns) whole = lt' st.ns := by rw [hw]; have := wAt_last st.ns [] hne; simpa using this
  have star : ∀ K : Int, K = 4 ∨ K = 5 ∨ K = 6 → lt' (st.ns ++ [⟨K, whole, 0, 0, 0, 0⟩]) = lt' st.ns := by
    intro K hK
    rw [lt_snoc]
    have e0 : rawW (trueAll st.ns) ⟨K, whole, 0, 0, 0, 0⟩ = lt' st.ns := by
      unfold rawW
      rw [if_neg (by rcases hK with rfl | rfl | rfl <;> simp), if_pos (by rcases hK with rfl | rfl | rfl <;> simp)]
      exact ha
    rw [e0]; unfold max1; rw [if_neg (by omega)]
  unfold readSuffixS at hg ⊢
  by_cases h1 : (st.s.pk t == 42) = true
  · rw [if_pos h1]
    show SufI t st.s.k (takeS t 42 st.s).k (lt' st.ns) (lt' (st.ns ++ [_]))
    rw [takeS_eq h1, star 4 (Or.inl rfl)]
    exact suf_star hlt.1 (Or.inl (by rw [← hlt.2]; simpa using h1)) hp
  · rw [if_neg h1] at hg ⊢
    by_cases h2 : (st.s.pk t == 43) = true
    · rw [if_pos h2]
      show SufI t st.s.k (takeS t 43 st.s).k (lt' st.ns) (lt' (st.ns ++ [_]))
      rw [takeS_eq h2, star 5 (Or.inr (Or.inl rfl))]
      exact suf_star hlt.1 (Or.inr (Or.inl (by rw [← hlt.2]; simpa using h2))) hp
    · rw [if_neg h2] at hg ⊢
      by_cases h3 : (st.s.pk t == 63) = true
      · rw [if_pos h3]
        show SufI t st.s.k (takeS t 63 st.s).k (lt' st.ns) (lt' (st.ns ++ [_]))
        rw [takeS_eq h3, star 6 (Or.inr (Or.inr rfl))]
        exact suf_star hlt.1 (Or.inr (Or.inr (by rw [← hlt.2]; simpa using h3))) hp
      · rw [if_neg h3] at hg ⊢
        have h4 : (st.s.pk t == 123) = true := by
          simp only [atSuffixB, Bool.or_eq_true] at hs
          rcases hs with ((hs | hs) | hs) | hs
          · exact absurd hs h1
          · exact absurd hs h2
          · exact absurd hs h3
          · exact hs
        have e123 : byteAt t st.s.k = 123 := by rw [← hlt.2]; simpa using h4
        simp only [expectS_eq h4, hb] at hg ⊢
        have g5 : (expectS t 125 (readDigitS t 10 (expectS t 44 (readDigitS t 10 ⟨st.s.k + 1, false⟩).2)).2).bad = false := hg
        have g4 := good_before (expectS_after t 125 _) g5
        have g3 := good_before (readDigitS_after t 10 _) g4
        have g2 := good_before (expectS_after t 44 _) g3
        obtain ⟨a1, a2, a3⟩ := digit10_good (t := t) (s := ⟨st.s.k + 1, false⟩) rfl (by simp only; omega) g2
        rw [a3] at g3 g4 g5 ⊢
        simp only at a1 a2 g3 g4 g5 ⊢
        obtain ⟨b1, b2, b3⟩ := expect_good (t := t) (s := ⟨st.s.k + 1 + 1, false⟩) (c := 44) rfl (by simp only; omega) (by omega) g3
        rw [b3] at g4 g5 ⊢
        simp only at b1 b2 g4 g5 ⊢
        obtain ⟨c1, c2, c3⟩ := digit10_good (t := t) (s := ⟨st.s.k + 1 + 1 + 1, false⟩) rfl (by simp only; omega) g4
        rw [c3] at g5 ⊢
        simp only at c1 c2 g5 ⊢
        obtain ⟨d1, d2, d3⟩ := expect_good (t := t) (s := ⟨st.s.k + 1 + 1 + 1 + 1, false⟩) (c := 125) rfl (by simp only; omega) (by omega) g5
        rw [d3]
        show SufI t st.s.k (st.s.k + 1 + 1 + 1 + 1 + 1) (lt' st.ns) (lt' (st.ns ++ [⟨7, whole, 0, byteAt t (st.s.k + 1) - 48, byteAt t (st.s.k + 1 + 1 + 1) - 48, 0⟩]))
        have e0 : lt' (st.ns ++ [⟨7, whole, 0, byteAt t (st.s.k + 1) - 48, byteAt t (st.s.k + 1 + 1 + 1) - 48, 0⟩]) = max1 (lt' st.ns * (byteAt t (st.s.k + 3) - 48)) := by
          rw [lt_snoc]
          unfold rawW
          rw [if_neg (by simp), if_neg (by simp), if_pos (by simp)]
          simp only
          rw [ha]
        rw [e0]
        exact suf_times h60 d1 e123 a2 b2 c2 d2 hp

def GoodT (t : ByteArray) (tag : Nat) (whole : Int) (st r : St) : Prop :=
  match tag with
  | 0 => PatI t st.s.k r.s.k (lt' r.ns)
  | 1 => st.ns ≠ [] → whole = (st.ns.length : Int) - 1 → ∃ S, lt' r.ns = lt' st.ns + S ∧ Rest1 t st.s.k r.s.k S
  | 2 => BraI t st.s.k r.s.k (lt' r.ns)
  | 3 => st.ns ≠ [] → whole = (st.ns.length : Int) - 1 → ∃ S, lt' r.ns = lt' st.ns + S ∧ Rest3 t st.s.k r.s.k S
  | 4 => atAtomB (st.s.pk t) = true → PieI t st.s.k r.s.k (lt' r.ns)
  | 5 => st.ns ≠ [] → whole = (st.ns.length : Int) - 1 → SufI t st.s.k r.s.k (lt' st.ns) (lt' r.ns)
  | _ => atAtomB (st.s.pk t) = true → AtoI t st.s.k r.s.k (lt' r.ns)

theorem facts_after {t : ByteArray} {tag : Nat} {whole : Int} {x : St} {r : St × Int} (h : Facts t tag whole x r) : After x.s r.1.s ∧ r.1.s.k ≤ t.size := by
  match tag with
  | 0 => exact ⟨h.1, h.2.1⟩
  | 1 => exact ⟨h.1.1, h.1.2.1⟩
  | 2 => exact ⟨h.1, h.2.1⟩
  | 3 => exact ⟨h.1.1, h.1.2.1⟩
  | 4 => exact ⟨h.1.1, h.1.2.1⟩
  | 5 => exact ⟨h.1.1, h.1.2.1⟩
  | tag + 6 => exact ⟨h.1.1, h.1.2.1⟩

theorem BraJ.toI {t : ByteArray} {A B : Nat} {W : Int} (h : BraJ t A B W) : BraI t A B W := by
  obtain ⟨a1, a2, a3, a4, a5, a6⟩ := h
  refine ⟨Nat.le_of_lt a1, a2, a3, a4, a5, fun rs => ?_⟩
  obtain ⟨n, rs1, k, e1, e2, e3⟩ := a6 rs
  exact ⟨n, rs1, k, e1, by omega, e3⟩

theorem atom_noBar {c : Int} (h : atAtomB c = true) : noBar c = true := by
  simp only [noBar, Bool.and_eq_true, Bool.not_eq_true', beq_eq_false_iff_ne]
  constructor
  · intro e; rw [e] at h; exact absurd h (by decide)
  · intro e; rw [e] at h; exact absurd h (by decide)

/-- Behind a piece no suffix stands. -/
theorem no_suffix {t : ByteArray} {f : Nat} {st : St} {r : St × Int} (hk : st.s.k ≤ t.size) (hb : st.s.bad = false) (h : rdF t f 4 0 st = some r) (ha : atAtomB (st.s.pk t) = true) (hg : r.1.s.bad = false) (hlt : r.1.s.k < t.size) : atSuffixB (byteAt t r.1.s.k) = false := by
  have o := rdF_out t f 4 0 st r hk h ⟨0, 0, 0⟩ (by simp) (Or.inl rfl) hb ha
  obtain ⟨m, bk, g, hm, p⟩ := o.1 hg
  rcases pk_good hg (Nat.le_of_lt hlt) with ⟨_, e⟩ | ⟨e, _⟩
  · rw [← e]; exact p.2
  · omega

theorem rdF_good (t : ByteArray) (h60 : t.size ≤ 60) : ∀ (f tag : Nat) (whole : Int) (st : St) (r : St × Int), st.s.k ≤ t.size → rdF t f tag whole st = some r → r.1.s.bad = false → GoodT t tag whole st r.1 := by
  intro f
  induction f with
  | zero => intro tag whole st r _ h; simp [rdF] at h
  | succ f ih =>
    intro tag whole st r hk h hg
    match tag with
    | 0 =>
      simp only [rdF, Option.bind_eq_some_iff] at h
      obtain ⟨r1, h1, h2⟩ := h
      have f1 := facts_after (rdF_facts t f 2 _ _ _ hk h1)
      have f2 := facts_after (rdF_facts t f 1 _ _ _ f1.2 h2)
      have g1 := good_before f2.1 hg
      obtain ⟨_, ne1, l1⟩ := rdF_last t f 2 _ _ _ h1
      have q1 : BraI t st.s.k r1.1.s.k (lt' r1.1.ns) := ih 2 _ _ _ hk h1 g1
      obtain ⟨S, e, q2⟩ := ih 1 _ _ _ f1.2 h2 hg ne1 l1
      show PatI t st.s.k r.1.s.k (lt' r.1.ns)
      rw [e]
      exact pat_join h60 q1 q2
    | 1 =>
      simp only [rdF] at h
      intro hne hw
      split at h
      · rename_i hc
        simp only [Option.bind_eq_some_iff] at h
        obtain ⟨r1, h1, h2⟩ := h
        obtain ⟨hb, hlt⟩ := S1.pk_lt (t := t) (s := st.s) (by rw [beq_iff_eq] at hc; omega)
        have e124 : byteAt t st.s.k = 124 := by
          rcases pk_good hb hk with ⟨_, e⟩ | ⟨e, _⟩
          · rw [← e]; simpa using hc
          · omega
        rw [takeS_eq hc] at h1
        have hk0 : (st.at ⟨st.s.k + 1, st.s.bad⟩).s.k ≤ t.size := by simp only [St.at]; omega
        have f1 := facts_after (rdF_facts t f 2 _ _ _ hk0 h1)
        have f2 := facts_after (rdF_facts t f 1 _ (r1.1.add ⟨3, whole, r1.2, 0, 0, 0⟩) _ f1.2 h2)
        have g1 : r1.1.s.bad = false := good_before f2.1 hg
        obtain ⟨⟨e1, he1⟩, ne1, l1⟩ := rdF_last t f 2 _ _ _ h1
        have q1 : BraI t (st.s.k + 1) r1.1.s.k (lt' r1.1.ns) := ih 2 _ _ _ hk0 h1 g1
        obtain ⟨S, e, q2⟩ := ih 1 _ (r1.1.add ⟨3, whole, r1.2, 0, 0, 0⟩) _ f1.2 h2 hg (add_last _ _).1 (add_last _ _).2
        have hsum : lt' (r1.1.ns ++ [⟨3, whole, r1.2, 0, 0, 0⟩]) = lt' st.ns + lt' r1.1.ns := lt_two (Or.inr rfl) hne he1 ne1 hw l1
        have e' : lt' r.1.ns = lt' (r1.1.ns ++ [⟨3, whole, r1.2, 0, 0, 0⟩]) + S := e
        have hp := pat_join h60 q1 (show Rest1 t r1.1.s.k r.1.s.k S from q2)
        exact ⟨lt' r1.1.ns + S, by rw [e', hsum]; omega, Or.inr ⟨by have := hp.1; omega, e124, hp⟩⟩
      · simp only [Option.some.injEq] at h; subst h
        exact ⟨0, (Int.add_zero _).symm, Or.inl ⟨rfl, rfl⟩⟩
    | 2 =>
      simp only [rdF] at h
      split at h
      · rename_i hc
        simp only [Option.bind_eq_some_iff] at h
        obtain ⟨r1, h1, h2⟩ := h
        have f1 := facts_after (rdF_facts t f 4 _ _ _ hk h1)
        have f2 := facts_after (rdF_facts t f 3 _ _ _ f1.2 h2)
        have g1 := good_before f2.1 hg
        have g0 := good_before f1.1 g1
        obtain ⟨_, ne1, l1⟩ := rdF_last t f 4 _ _ _ h1
        have q1 : PieI t st.s.k r1.1.s.k (lt' r1.1.ns) := ih 4 _ _ _ hk h1 g1 hc
        obtain ⟨S, e, q2⟩ := ih 3 _ _ _ f1.2 h2 hg ne1 l1
        show BraI t st.s.k r.1.s.k (lt' r.1.ns)
        rw [e]
        exact (br_join h60 q1 q2 (fun hlt => no_suffix hk g0 h1 hc g1 (by have := f2.2; omega))).toI
      · simp only [Option.some.injEq] at h; subst h
        show BraI t st.s.k st.s.k (lt' (st.ns ++ [⟨0, 0, 0, 0, 0, 0⟩]))
        have e0 : lt' (st.ns ++ [⟨0, 0, 0, 0, 0, 0⟩]) = 1 := by rw [lt_snoc]; rfl
        rw [e0]
        refine ⟨Nat.le_refl _, hk, by omega, p2_pos _, Seq'.refl _ _ _, fun rs => ⟨1, [⟨1, 0, 0, 0, 0, noSet⟩], (rs.length : Int), ?_, by simp, Wt.one _ _ (by simp)⟩⟩
        have hs := size_ext (t := t) (a := st.s.k) hk
        rw [rfF, if_pos (by omega)]
    | 3 =>
      simp only [rdF] at h
      intro hne hw
      split at h
      · rename_i hc
        simp only [Option.bind_eq_some_iff] at h
        obtain ⟨r1, h1, h2⟩ := h
        have f1 := facts_after (rdF_facts t f 4 _ _ _ hk h1)
        have f2 := facts_after (rdF_facts t f 3 _ (r1.1.add ⟨2, whole, r1.2, 0, 0, 0⟩) _ f1.2 h2)
        have g1 : r1.1.s.bad = false := good_before f2.1 hg
        have g0 := good_before f1.1 g1
        obtain ⟨⟨e1, he1⟩, ne1, l1⟩ := rdF_last t f 4 _ _ _ h1
        have q1 : PieI t st.s.k r1.1.s.k (lt' r1.1.ns) := ih 4 _ _ _ hk h1 g1 hc
        obtain ⟨S, e, q2⟩ := ih 3 _ (r1.1.add ⟨2, whole, r1.2, 0, 0, 0⟩) _ f1.2 h2 hg (add_last _ _).1 (add_last _ _).2
        have hsum : lt' (r1.1.ns ++ [⟨2, whole, r1.2, 0, 0, 0⟩]) = lt' st.ns + lt' r1.1.ns := lt_two (Or.inl rfl) hne he1 ne1 hw l1
        have e' : lt' r.1.ns = lt' (r1.1.ns ++ [⟨2, whole, r1.2, 0, 0, 0⟩]) + S := e
        have hj := br_join h60 q1 (show Rest3 t r1.1.s.k r.1.s.k S from q2) (fun hlt => no_suffix hk g0 h1 hc g1 (by have := f2.2; omega))
        exact ⟨lt' r1.1.ns + S, by rw [e', hsum]; omega, Or.inr hj⟩
      · simp only [Option.some.injEq] at h; subst h
        exact ⟨0, (Int.add_zero _).symm, Or.inl ⟨rfl, rfl⟩⟩
    | 4 =>
      simp only [rdF, Option.bind_eq_some_iff] at h
      obtain ⟨r1, h1, h2⟩ := h
      intro ha
      have f1 := facts_after (rdF_facts t f 6 _ _ _ hk h1)
      have f2 := facts_after (rdF_facts t f 5 _ _ _ f1.2 h2)
      have g1 := good_before f2.1 hg
      obtain ⟨_, ne1, l1⟩ := rdF_last t f 6 _ _ _ h1
      have q1 : AtoI t st.s.k r1.1.s.k (lt' r1.1.ns) := ih 6 _ _ _ hk h1 g1 ha
      exact pie_of h60 q1 (ih 5 _ _ _ f1.2 h2 hg ne1 l1)
    | 5 =>
      simp only [rdF] at h
      intro hne hw
      split at h
      · rename_i hc
        obtain ⟨a1, a2, a3, a4, a5⟩ := readSuffixS_facts (whole := whole) hk hc
        have f2 := facts_after (rdF_facts t f 5 _ _ _ a2 h)
        have g1 := good_before f2.1 hg
        have g0 := good_before a1 g1
        obtain ⟨n, hn⟩ := suffix_ns t whole st
        have q1 := suffix_good h60 g0 hk hc g1 hne hw
        exact q1.trans (ih 5 _ _ _ a2 h hg (by rw [hn]; simp) (by rw [a4]; simp [St.num]))
      · simp only [Option.some.injEq] at h; subst h
        exact SufI.refl hk (lt_pos _ hne)
    | tag + 6 =>
      simp only [rdF] at h
      intro ha
      show AtoI t st.s.k r.1.s.k (lt' r.1.ns)
      split at h
      · rename_i hc
        simp only [Option.bind_eq_some_iff, Option.some.injEq] at h
        obtain ⟨r1, h1, rfl⟩ := h
        obtain ⟨hb, hlt⟩ := S1.pk_lt (t := t) (s := st.s) (by rw [beq_iff_eq] at hc; omega)
        have e40 : byteAt t st.s.k = 40 := by
          rcases pk_good hb hk with ⟨_, e⟩ | ⟨e, _⟩
          · rw [← e]; simpa using hc
          · omega
        rw [takeS_eq hc] at h1
        have hk0 : (st.at ⟨st.s.k + 1, st.s.bad⟩).s.k ≤ t.size := by simp only [St.at]; omega
        have f1 := facts_after (rdF_facts t f 0 _ _ _ hk0 h1)
        have hg' : (expectS t 41 r1.1.s).bad = false := hg
        have g1 : r1.1.s.bad = false := good_before (expectS_after t 41 _) hg'
        obtain ⟨x1, x2, x3⟩ := expect_good g1 f1.2 (by omega) hg'
        have q1 : PatI t (st.s.k + 1) r1.1.s.k (lt' r1.1.ns) := ih 0 _ _ _ hk0 h1 g1
        show AtoI t st.s.k (expectS t 41 r1.1.s).k (lt' r1.1.ns)
        rw [x3]
        exact ato_par e40 q1 x1 x2
      · rename_i hc
        simp only [Option.some.injEq] at h; subst h
        have hg' : (readLeafS t st).s.bad = false := hg
        have hb := good_before (readLeafS_facts (t := t) hk).1 hg'
        obtain ⟨l1, l2, l3, l4, l5⟩ := leaf_good hb hk ha (by simpa using hc) hg'
        obtain ⟨ff, hff⟩ := l5 h60
        obtain ⟨s, hs⟩ := leaf_ns t st
        have e0 : lt' (readLeafS t st).ns = 1 := by rw [hs, lt_snoc]; rfl
        rw [e0]
        refine ato_leaf l1 l2 l3 l4 ?_ hff
        rcases pk_good hb hk with ⟨_, e⟩ | ⟨_, e⟩
        · rw [← e]; exact atom_noBar ha
        · rw [e] at ha; exact absurd ha (by decide)

theorem refOk_all (t : ByteArray) (y : St) (i : Int) (h60 : t.size ≤ 60) (h : Rds t 0 0 x0 (y, i)) : RefOk t y := by
  have hp := place_meets h
  refine ⟨hp.1, fun hn => ⟨hp.2 hn, ?_⟩⟩
  obtain ⟨f, hf⟩ := h
  have hk0 : x0.s.k ≤ t.size := Nat.zero_le _
  have hky : y.s.k ≤ t.size := (rdF_facts t f 0 _ _ _ hk0 hf).2.1
  have hb : y.s.bad = false := by
    cases hbb : y.s.bad
    · rfl
    · exact absurd (Or.inl hbb) hn
  have hk : y.s.k = t.size := by
    have : ¬ y.s.k < t.size := fun hh => hn (Or.inr hh)
    omega
  have q : PatI t 0 y.s.k (lt' y.ns) := rdF_good t h60 f 0 0 x0 (y, i) hk0 hf hb
  obtain ⟨_, _, q3, _, _, q6⟩ := q
  obtain ⟨n, rs1, k, e1, e2, e3⟩ := q6 []
  obtain ⟨m, hm⟩ := e3
  rw [hk, ByteArray.extract_zero_size] at e1
  obtain ⟨hd, hl⟩ := rdF_ok t f 0 0 x0 (y, i) hf (by intro n hn; simp [x0] at hn)
  have hne : y.ns ≠ [] := by intro e; rw [e] at hl; simp [lays] at hl
  refine ⟨n, ([] ++ rs1, k), m, lt' y.ns, e1, by simp; omega, hm, ?_⟩
  rw [lastW_cl y.ns hd hne]
  rfl

end Go.Proofs.Ytibhlnhmejlhbaa
