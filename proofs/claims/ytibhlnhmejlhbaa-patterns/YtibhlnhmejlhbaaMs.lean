/-
  Plain mathematics: steps over a text; the document's answer with more fuel, its weights with more nodes.
-/
import Derived.Test.YtibhlnhmejlhbaaMr
namespace Go.Proofs.Ytibhlnhmejlhbaa

/-- What begins at A is gone over to B. -/
def StepT (t : ByteArray) (A B : Nat) : Prop :=
  ∀ a b, a ≤ A → B ≤ b → b ≤ t.size → ∀ f, 2 * (B - A) ≤ f → ovF (t.extract a b) f 0 (A - a) = some (B - a)

theorem step_one {t : ByteArray} {A : Nat} (_h : A < t.size) (h92 : byteAt t A ≠ 92) (h91 : byteAt t A ≠ 91) (h40 : byteAt t A ≠ 40) : StepT t A (A + 1) := by
  intro a b ha hB hb f hf
  have hs := size_ext (a := a) hb
  obtain ⟨f, rfl⟩ : ∃ f', f = f' + 1 := ⟨f - 1, by omega⟩
  rw [ovF, if_pos (by omega), byteAt_win hb ha (by omega), if_neg (by simp [h92]), if_neg (by simp [h91]), if_neg (by simp [h40])]
  congr 1; omega
theorem step_escape {t : ByteArray} {A B : Nat} (h : SB t A B) (h92 : byteAt t A = 92) : StepT t A B := by
  intro a b ha hB hb f hf
  have hs := size_ext (a := a) hb
  have hl := h.lt
  obtain ⟨f, rfl⟩ : ∃ f', f = f' + 1 := ⟨f - 1, by omega⟩
  rcases h with ⟨h1, h2, h3, h4⟩ | ⟨h1, h3, h2, h5, h6, h4⟩ | ⟨h3, _, h2, h4⟩
  · rw [ovF, if_pos (by omega), byteAt_win hb ha (by omega), if_pos (by simp [h1]), if_pos (by omega), show A - a + 1 = (A + 1) - a from by omega, byteAt_win hb (by omega) (by omega), if_pos h3]
    congr 1; omega
  · rw [ovF, if_pos (by omega), byteAt_win hb ha (by omega), if_pos (by simp [h1]), if_pos (by omega), show A - a + 1 = (A + 1) - a from by omega, byteAt_win hb (by omega) (by omega), if_neg (by simp [h3])]
    congr 1; omega
  · exact absurd h92 h3

/-- An atom that is no bracket: what the reader has read from A to B. -/
theorem leaf_good {t : ByteArray} {st : St} (hb : st.s.bad = false) (hk : st.s.k ≤ t.size) (ha : atAtomB (st.s.pk t) = true) (h40 : (st.s.pk t == 40) = false) (hg : (readLeafS t st).s.bad = false) :
    StepT t st.s.k (readLeafS t st).s.k ∧ st.s.k < (readLeafS t st).s.k ∧ (readLeafS t st).s.k ≤ t.size ∧ byteAt t st.s.k ≠ 40 ∧ (t.size ≤ 60 → ∃ f, leafS (t.extract st.s.k (readLeafS t st).s.k) = some ⟨2, 0, 0, 0, 0, f⟩) := by
  have hlt : st.s.k < t.size ∧ st.s.pk t = byteAt t st.s.k := by
    rcases pk_good hb hk with h1 | ⟨_, h2⟩
    · exact h1
    · rw [h2] at ha; exact absurd ha (by decide)
  have hle := (readLeafS_facts (t := t) hk).2.1
  have hn40 : byteAt t st.s.k ≠ 40 := by rw [← hlt.2]; simpa using h40
  unfold readLeafS at hg hle ⊢
  by_cases c91 : (st.s.pk t == 91) = true
  · rw [if_pos c91] at hg hle ⊢
    have e91 : byteAt t st.s.k = 91 := by rw [← hlt.2]; simpa using c91
    have hg' : (readSetS t (takeS t 91 st.s)).2.bad = false := hg
    have hle' : (readSetS t (takeS t 91 st.s)).2.k ≤ t.size := hle
    show StepT t st.s.k (readSetS t (takeS t 91 st.s)).2.k ∧ st.s.k < (readSetS t (takeS t 91 st.s)).2.k ∧ (readSetS t (takeS t 91 st.s)).2.k ≤ t.size ∧ byteAt t st.s.k ≠ 40 ∧ (t.size ≤ 60 → ∃ f, leafS (t.extract st.s.k (readSetS t (takeS t 91 st.s)).2.k) = some ⟨2, 0, 0, 0, 0, f⟩)
    rw [takeS_eq c91, hb] at hg' hle' ⊢
    unfold readSetS at hg' hle' ⊢
    simp only at hg' hle' ⊢
    have hk1 : (⟨st.s.k + 1, false⟩ : S1).k ≤ t.size := by simp only; omega
    have hk2 := takeS_le (t := t) (c := 94) (s := ⟨st.s.k + 1, false⟩) (by omega) hk1
    have hk3 := readItemS_le (t := t) (s := takeS t 94 ⟨st.s.k + 1, false⟩) hk2
    have hl : left t (readItemS t (takeS t 94 ⟨st.s.k + 1, false⟩)).2 ≤ t.size + 1 := by unfold left; split <;> omega
    generalize hF : addR (fun _ => false) (readItemS t (takeS t 94 ⟨st.s.k + 1, false⟩)).1.1 (readItemS t (takeS t 94 ⟨st.s.k + 1, false⟩)).1.2 = F at *
    have hk4 := setLoop_le (t := t) (t.size + 1) F _ hk3
    have hgl := good_before (expectS_after t 93 _) hg'
    have hgi := good_before (setLoop_after t (t.size + 1) F _) hgl
    have hgt := good_before (readItemS_after t _) hgi
    have hp93 : ((setLoop t (t.size + 1) F (readItemS t (takeS t 94 ⟨st.s.k + 1, false⟩)).2).2.pk t == 93) = true := by
      cases hc : ((setLoop t (t.size + 1) F (readItemS t (takeS t 94 ⟨st.s.k + 1, false⟩)).2).2.pk t == 93)
      · unfold expectS at hg'; rw [hc] at hg'; cases hg'
      · rfl
    have it := setLoop_good (t.size + 1) F _ hk3 hl hgi hgl (by simpa using hp93)
    have it2 := item_good hgt hk2 hgi it
    rw [expectS_eq hp93]
    simp only
    generalize (setLoop t (t.size + 1) F (readItemS t (takeS t 94 ⟨st.s.k + 1, false⟩)).2).2.k = E at *
    have hE := it2.2.1
    have key : ∀ a b, a ≤ st.s.k → E + 1 ≤ b → b ≤ t.size → (∀ f, 2 * (E - st.s.k) ≤ f → ovF (t.extract a b) f 1 (st.s.k + 1 - a) = some (E + 1 - a)) := by
      intro a b h1 h2 h3 f hf
      have hs := size_ext (a := a) h3
      by_cases c94 : (S1.pk t ⟨st.s.k + 1, false⟩ == 94) = true
      · rw [takeS_eq c94] at it2
        simp only at it2
        have hi1 := it2.1
        have e94 : byteAt t (st.s.k + 1) = 94 := by
          rcases pk_good (t := t) (s := ⟨st.s.k + 1, false⟩) rfl hk1 with ⟨_, e⟩ | ⟨e, _⟩
          · rw [e] at c94; simpa using c94
          · simp only at e; omega
        obtain ⟨f, rfl⟩ : ∃ f', f = f' + 1 := ⟨f - 1, by omega⟩
        rw [ovF, if_pos (by omega), byteAt_win h3 (by omega) (by omega), if_neg (by simp [e94]), if_neg (by simp [e94]), show st.s.k + 1 - a + 1 = (st.s.k + 1 + 1) - a from by omega]
        exact (it2.2.2 a b (by omega) (by omega) h3).1 f (by omega)
      · have e : takeS t 94 ⟨st.s.k + 1, false⟩ = ⟨st.s.k + 1, false⟩ := by unfold takeS; rw [if_neg c94]
        rw [e] at it2
        simp only at it2
        have hi1 := it2.1
        exact (it2.2.2 a b (by omega) (by omega) h3).1 f (by omega)
    have hlow : st.s.k + 1 ≤ E := by
      have h1 := it2.1
      have h2 := (takeS_after t 94 ⟨st.s.k + 1, false⟩).1
      simp only at h2; omega
    refine ⟨fun a b h1 h2 h3 f hf => ?_, by omega, by omega, hn40, fun h60 => ?_⟩
    · have hs := size_ext (a := a) h3
      obtain ⟨f, rfl⟩ : ∃ f', f = f' + 1 := ⟨f - 1, by omega⟩
      rw [ovF, if_pos (by omega), byteAt_win h3 h1 (by omega), if_neg (by simp [e91]), if_pos (by simp [e91]), show st.s.k - a + 1 = st.s.k + 1 - a from by omega]
      exact key a b h1 h2 h3 f (by omega)
    · have hs := size_ext (t := t) (a := st.s.k) (b := E + 1) (by omega)
      have b0 : byteAt (t.extract st.s.k (E + 1)) 0 = 91 := by rw [byteAt_ext (by omega) (by omega)]; exact e91
      have b1 : byteAt (t.extract st.s.k (E + 1)) 1 = byteAt t (st.s.k + 1) := byteAt_ext (by omega) (by omega)
      unfold leafS
      rw [if_pos (by omega), b0, if_neg (by decide), if_pos (by decide), if_pos (by omega), b1]
      by_cases c94 : (S1.pk t ⟨st.s.k + 1, false⟩ == 94) = true
      · rw [takeS_eq c94] at it2
        simp only at it2
        have e94 : byteAt t (st.s.k + 1) = 94 := by
          rcases pk_good (t := t) (s := ⟨st.s.k + 1, false⟩) rfl hk1 with ⟨_, e⟩ | ⟨e, _⟩
          · rw [e] at c94; simpa using c94
          · simp only at e; omega
        rw [if_pos (by simp [e94])]
        obtain ⟨g, hgg⟩ := (it2.2.2 st.s.k (E + 1) (by omega) (by omega) (by omega)).2 61 (by omega) noSet
        rw [show st.s.k + 1 + 1 - st.s.k = 2 from by omega] at hgg
        rw [hgg]
        exact ⟨_, rfl⟩
      · have e : takeS t 94 ⟨st.s.k + 1, false⟩ = ⟨st.s.k + 1, false⟩ := by unfold takeS; rw [if_neg c94]
        rw [e] at it2
        simp only at it2
        have e94 : byteAt t (st.s.k + 1) ≠ 94 := by
          rcases pk_good (t := t) (s := ⟨st.s.k + 1, false⟩) rfl hk1 with ⟨_, e⟩ | ⟨e, _⟩
          · rw [e] at c94; simpa using c94
          · simp only at e; omega
        rw [if_neg (by simp [e94])]
        obtain ⟨g, hgg⟩ := (it2.2.2 st.s.k (E + 1) (by omega) (by omega) (by omega)).2 61 (by omega) noSet
        rw [show st.s.k + 1 - st.s.k = 1 from by omega] at hgg
        rw [hgg]
        exact ⟨_, rfl⟩
  · rw [if_neg c91] at hg hle ⊢
    have n91 : byteAt t st.s.k ≠ 91 := by rw [← hlt.2]; simpa using c91
    by_cases c46 : (st.s.pk t == 46) = true
    · rw [if_pos c46]
      have e46 : byteAt t st.s.k = 46 := by rw [← hlt.2]; simpa using c46
      show StepT t st.s.k (takeS t 46 st.s).k ∧ st.s.k < (takeS t 46 st.s).k ∧ (takeS t 46 st.s).k ≤ t.size ∧ byteAt t st.s.k ≠ 40 ∧ (t.size ≤ 60 → ∃ f, leafS (t.extract st.s.k (takeS t 46 st.s).k) = some ⟨2, 0, 0, 0, 0, f⟩)
      rw [takeS_eq c46]
      show StepT t st.s.k (st.s.k + 1) ∧ st.s.k < st.s.k + 1 ∧ st.s.k + 1 ≤ t.size ∧ byteAt t st.s.k ≠ 40 ∧ (t.size ≤ 60 → ∃ f, leafS (t.extract st.s.k (st.s.k + 1)) = some ⟨2, 0, 0, 0, 0, f⟩)
      refine ⟨step_one hlt.1 (by omega) (by omega) (by omega), by omega, by omega, hn40, fun _ => ?_⟩
      have hs := size_ext (t := t) (a := st.s.k) (b := st.s.k + 1) (by omega)
      unfold leafS
      rw [if_pos (by omega), byteAt_ext (by omega) (by omega), Nat.add_zero, e46, if_pos (by decide)]
      exact ⟨_, rfl⟩
    · rw [if_neg c46] at hg hle ⊢
      have n46 : byteAt t st.s.k ≠ 46 := by rw [← hlt.2]; simpa using c46
      have hg' : (readByteS t st.s).2.bad = false := hg
      have hle' : (readByteS t st.s).2.k ≤ t.size := hle
      show StepT t st.s.k (readByteS t st.s).2.k ∧ st.s.k < (readByteS t st.s).2.k ∧ (readByteS t st.s).2.k ≤ t.size ∧ byteAt t st.s.k ≠ 40 ∧ (t.size ≤ 60 → ∃ f, leafS (t.extract st.s.k (readByteS t st.s).2.k) = some ⟨2, 0, 0, 0, 0, f⟩)
      have sb : SB t st.s.k (readByteS t st.s).2.k ∧ StepT t st.s.k (readByteS t st.s).2.k := by
        unfold readByteS at hg' ⊢
        by_cases c92 : (st.s.pk t == 92) = true
        · rw [if_pos c92] at hg' ⊢
          have s1 := escape_good hb hk c92 hg'
          exact ⟨s1, step_escape s1 (by rw [← hlt.2]; simpa using c92)⟩
        · rw [if_neg c92] at hg' ⊢
          by_cases hp : isPlainB (st.s.pk t) = true
          · rw [if_pos hp]
            have n92 : byteAt t st.s.k ≠ 92 := by rw [← hlt.2]; simpa using c92
            have n93 : byteAt t st.s.k ≠ 93 := by rw [← hlt.2]; intro e; rw [e] at hp; exact absurd hp (by decide)
            exact ⟨Or.inr (Or.inr ⟨n92, n93, hlt.1, rfl⟩), step_one hlt.1 n92 n91 hn40⟩
          · rw [if_neg hp] at hg'; cases hg'
      have sl := sb.1.lt
      refine ⟨sb.2, sl.1, sl.2.1, hn40, fun _ => ?_⟩
      have hs := size_ext (t := t) (a := st.s.k) (b := (readByteS t st.s).2.k) sl.2.1
      obtain ⟨v, hv⟩ := sb.1.named (Nat.le_refl _) (Nat.le_refl _) sl.2.1
      rw [Nat.sub_self] at hv
      have b0 : byteAt (t.extract st.s.k (readByteS t st.s).2.k) 0 = byteAt t st.s.k := by rw [byteAt_ext sl.2.1 (by omega), Nat.add_zero]
      unfold leafS
      rw [if_pos (by omega), b0, if_neg (by simp [n46]), if_neg (by simp [n91]), hv]
      exact ⟨_, rfl⟩

end Go.Proofs.Ytibhlnhmejlhbaa
