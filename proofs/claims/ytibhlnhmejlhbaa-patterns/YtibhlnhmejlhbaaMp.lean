/-
  Plain mathematics: the reader of patterns stops where the look byte by byte does (sets).
-/
import Derived.Test.YtibhlnhmejlhbaaMo
namespace Go.Proofs.Ytibhlnhmejlhbaa

theorem goes_in {x : Sc} (h : 8 ≤ x.mode) (c : Int) : goesS x c = insideS x c := by
  unfold goesS
  have h0 : (x.mode == 0) = false := by simp; omega
  have h1 : (x.mode == 1) = false := by simp; omega
  have h2 : (x.mode == 2) = false := by simp; omega
  have h3 : (x.mode == 3) = false := by simp; omega
  have h4 : (x.mode == 4) = false := by simp; omega
  have h5 : (x.mode == 5) = false := by simp; omega
  have h6 : (x.mode == 6) = false := by simp; omega
  have h7 : (x.mode == 7) = false := by simp; omega
  simp [h0, h1, h2, h3, h4, h5, h6, h7]

theorem in_92 {x : Sc} (h : 8 ≤ x.mode) : goesS x 92 = (true, ⟨2, x.depth, toS x⟩) := by rw [goes_in h]; rfl
theorem in_plain {x : Sc} (h : 8 ≤ x.mode) {c : Int} (hc : isPlainInSetB c = true) : goesS x c = (true, ⟨toS x, x.depth, x.back⟩) := by
  rw [goes_in h]
  simp only [isPlainInSetB, Bool.and_eq_true, Bool.not_eq_true', Bool.or_eq_false_iff, beq_eq_false_iff_ne, decide_eq_true_eq] at hc
  unfold insideS printB
  rw [if_neg (by simp; omega), if_neg (by simp; omega), if_neg (by simp; omega), if_neg (by simp; omega), if_neg (by simp; omega)]
  simp; omega
theorem in_no {x : Sc} (h : 8 ≤ x.mode) {c : Int} (hc : isPlainInSetB c = false) (h92 : c ≠ 92) (h94 : x.mode = 8 → c ≠ 94) (h45 : x.mode = 10 → c ≠ 45) (h93 : x.mode = 10 ∨ x.mode = 12 → c ≠ 93) : (goesS x c).1 = false := by
  rw [goes_in h]
  unfold insideS
  by_cases c94 : c = 94
  · rw [if_pos (by simp [c94])]; simp; intro hm; exact h94 hm c94
  · rw [if_neg (by simp [c94])]
    by_cases c45 : c = 45
    · rw [if_pos (by simp [c45])]; simp; intro hm; exact h45 hm c45
    · rw [if_neg (by simp [c45])]
      by_cases c93 : c = 93
      · rw [if_pos (by simp [c93])]; simp; exact ⟨fun hm => h93 (Or.inl hm) c93, fun hm => h93 (Or.inr hm) c93⟩
      · rw [if_neg (by simp [c93])]
        by_cases c91 : c = 91
        · rw [if_pos (by simp [c91])]
        · rw [if_neg (by simp [c91]), if_neg (by simp [h92])]
          simp only [isPlainInSetB, Bool.and_eq_false_iff, Bool.not_eq_false', Bool.or_eq_true, beq_iff_eq, decide_eq_false_iff_not] at hc
          simp only [printB, Bool.and_eq_false_iff, decide_eq_false_iff_not]
          omega

theorem readSetByte_out {t : ByteArray} {s : S1} {x : Sc} (hb : s.bad = false) (hk : s.k ≤ t.size) (h : 8 ≤ x.mode)
    (h94 : x.mode = 8 → s.pk t ≠ 94) (h45 : x.mode = 10 → s.pk t ≠ 45) (h93 : x.mode = 10 ∨ x.mode = 12 → s.pk t ≠ 93) : Out t s.k x (readSetByteS t s).2 (toS x) x.depth := by
  unfold readSetByteS
  by_cases c92 : (s.pk t == 92) = true
  · rw [if_pos c92]
    exact readEscape_out hb c92 (in_92 h)
  · rw [if_neg c92]
    rcases pk_good hb hk with ⟨h1, h2⟩ | ⟨h1, h2⟩
    · by_cases hc : isPlainInSetB (s.pk t) = true
      · rw [if_pos hc, hb]
        rw [h2] at hc
        exact out_step (in_plain h hc)
      · rw [if_neg hc]
        rw [h2] at hc c92 h94 h45 h93
        exact out_stuck (Or.inl ⟨h1, in_no h (by simpa using hc) (by simpa using c92) h94 h45 h93⟩)
    · rw [h2]
      rw [if_neg (by decide)]
      exact out_stuck (Or.inr ⟨h1, Or.inr (by omega)⟩)

/-- Behind an item. -/
def ItemOut (t : ByteArray) (k : Nat) (x : Sc) (s' : S1) (d : Int) : Prop :=
  (s'.bad = false → ∃ m bk, Go' t k x s'.k ⟨m, d, bk⟩ ∧ ((m = 10 ∧ s'.pk t ≠ 45) ∨ m = 12)) ∧ (s'.bad = true → ∃ z, Go' t k x s'.k z ∧ Stuck t s'.k z)

theorem readItem_out {t : ByteArray} {s : S1} {x : Sc} (hb : s.bad = false) (hk : s.k ≤ t.size) (h : 8 ≤ x.mode) (h11 : x.mode ≠ 11)
    (h94 : x.mode = 8 → s.pk t ≠ 94) (h45 : x.mode = 10 → s.pk t ≠ 45) (h93 : x.mode = 10 ∨ x.mode = 12 → s.pk t ≠ 93) : ItemOut t s.k x (readItemS t s).2 x.depth := by
  have o1 := readSetByte_out hb hk h h94 h45 h93
  have ht : toS x = 10 := by unfold toS; rw [if_neg (by simp [h11])]
  rw [ht] at o1
  have hk1 := readSetByteS_le (t := t) (s := s) hk
  unfold readItemS
  simp only
  generalize readSetByteS t s = lo at *
  cases hb1 : lo.2.bad
  · obtain ⟨bk, g1⟩ := o1.1 hb1
    by_cases c45 : (lo.2.pk t == 45) = true
    · rw [if_pos c45, takeS_eq c45, hb1]
      have hlt := (S1.pk_lt (t := t) (s := lo.2) (by rw [beq_iff_eq] at c45; omega)).2
      have hbyte : byteAt t lo.2.k = 45 := by
        rcases pk_good hb1 hk1 with ⟨h1, h2⟩ | ⟨h1, h2⟩
        · rw [beq_iff_eq] at c45; omega
        · omega
      have g2 : Go' t lo.2.k ⟨10, x.depth, bk⟩ (lo.2.k + 1) ⟨11, x.depth, bk⟩ := Go'.step (by rw [hbyte, goes_in (by simp)]; rfl)
      have o3 := readSetByte_out (t := t) (s := ⟨lo.2.k + 1, false⟩) (x := ⟨11, x.depth, bk⟩) rfl (by simp only; omega) (by simp) (by simp) (by simp) (by simp)
      have o4 := Out.before (g1.trans g2) o3
      exact ⟨fun hh => by obtain ⟨bk', g⟩ := o4.1 hh; exact ⟨12, bk', g, Or.inr rfl⟩, o4.2⟩
    · rw [if_neg c45]
      exact ⟨fun _ => ⟨10, bk, g1, Or.inl ⟨rfl, by simpa using c45⟩⟩, fun hh => by rw [hb1] at hh; cases hh⟩
  · have c45 : ¬ (lo.2.pk t == 45) = true := by rw [pk_bad hb1]; decide
    rw [if_neg c45]
    exact ⟨fun hh => (by rw [hb1] at hh; cases hh), fun _ => o1.2 hb1⟩

/-- Behind the items, at the bracket. -/
def ItemsOut (t : ByteArray) (k : Nat) (x : Sc) (s' : S1) (d : Int) : Prop :=
  (s'.bad = false → ∃ m bk, Go' t k x s'.k ⟨m, d, bk⟩ ∧ (m = 10 ∨ m = 12) ∧ s'.pk t = 93) ∧ (s'.bad = true → ∃ z, Go' t k x s'.k z ∧ Stuck t s'.k z)

theorem setLoop_out {t : ByteArray} : ∀ (n : Nat) (f : Nat → Bool) (s : S1) (k : Nat) (x : Sc) (d : Int), s.k ≤ t.size → left t s ≤ n → ItemOut t k x s d → ItemsOut t k x (setLoop t n f s).2 d := by
  intro n
  induction n with
  | zero =>
    intro f s k x d hk hl o
    have hb : s.bad = true := by
      cases hb : s.bad
      · unfold left at hl; rw [hb] at hl; simp at hl
      · rfl
    simp only [setLoop]
    exact ⟨fun hh => (by rw [hb] at hh; cases hh), o.2⟩
  | succ n ih =>
    intro f s k x d hk hl o
    by_cases hgo : (!s.bad && s.pk t != 93) = true
    · rw [setLoop_go n f s hgo]
      have hb : s.bad = false := by revert hgo; cases s.bad <;> simp
      have hp : s.pk t ≠ 93 := by revert hgo; rw [hb]; simp
      have hl2 := left_goes (t := t) hb (readItemS_le hk) (readItemS_goes t s)
      obtain ⟨m, bk, g, hm⟩ := o.1 hb
      have o2 : ItemOut t s.k ⟨m, d, bk⟩ (readItemS t s).2 d := by
        rcases hm with ⟨rfl, h45⟩ | rfl
        · exact readItem_out (x := ⟨10, d, bk⟩) hb hk (by simp) (by simp) (by simp) (fun _ => h45) (fun _ => hp)
        · exact readItem_out (x := ⟨12, d, bk⟩) hb hk (by simp) (by simp) (by simp) (by simp) (fun _ => hp)
      refine ih _ _ k x d (readItemS_le hk) (by omega) ⟨fun hh => ?_, fun hh => ?_⟩
      · obtain ⟨m', bk', g', hm'⟩ := o2.1 hh; exact ⟨m', bk', g.trans g', hm'⟩
      · obtain ⟨z, g', st⟩ := o2.2 hh; exact ⟨z, g.trans g', st⟩
    · have hgo' : (!s.bad && s.pk t != 93) = false := by simpa using hgo
      rw [setLoop_stop (n + 1) f s hgo']
      refine ⟨fun hh => ?_, o.2⟩
      obtain ⟨m, bk, g, hm⟩ := o.1 hh
      refine ⟨m, bk, g, ?_, ?_⟩
      · rcases hm with ⟨h, _⟩ | h
        · exact Or.inl h
        · exact Or.inr h
      · have hh' : s.bad = false := hh
        rw [hh'] at hgo'; simpa using hgo'

theorem readSet_out {t : ByteArray} {s : S1} {d bk : Int} (hb : s.bad = false) (hk : s.k ≤ t.size) : Out t s.k ⟨8, d, bk⟩ (readSetS t s).2 1 d := by
  have o1 : ItemOut t s.k ⟨8, d, bk⟩ (readItemS t (takeS t 94 s)).2 d := by
    by_cases c94 : (s.pk t == 94) = true
    · rw [takeS_eq c94, hb]
      have hlt := (S1.pk_lt (t := t) (s := s) (by rw [beq_iff_eq] at c94; omega)).2
      have hbyte : byteAt t s.k = 94 := by
        rcases pk_good hb hk with ⟨h1, h2⟩ | ⟨h1, h2⟩
        · rw [beq_iff_eq] at c94; omega
        · omega
      have g : Go' t s.k ⟨8, d, bk⟩ (s.k + 1) ⟨9, d, bk⟩ := Go'.step (by rw [hbyte, goes_in (by simp)]; rfl)
      have o := readItem_out (t := t) (s := ⟨s.k + 1, false⟩) (x := ⟨9, d, bk⟩) rfl (by simp only; omega) (by simp) (by simp) (by simp) (by simp) (by simp)
      exact ⟨fun hh => by obtain ⟨m', bk', g', hm'⟩ := o.1 hh; exact ⟨m', bk', g.trans g', hm'⟩, fun hh => by obtain ⟨z, g', st⟩ := o.2 hh; exact ⟨z, g.trans g', st⟩⟩
    · have e : takeS t 94 s = s := by unfold takeS; rw [if_neg c94]
      rw [e]
      exact readItem_out (x := ⟨8, d, bk⟩) hb hk (by simp) (by simp) (fun _ => by simpa using c94) (by simp) (by simp)
  have hk1 := readItemS_le (t := t) (s := takeS t 94 s) (takeS_le (by omega) hk)
  have hl : left t (readItemS t (takeS t 94 s)).2 ≤ t.size + 1 := by unfold left; split <;> omega
  have o2 := setLoop_out (t.size + 1) (addR (fun _ => false) (readItemS t (takeS t 94 s)).1.1 (readItemS t (takeS t 94 s)).1.2) _ _ _ _ hk1 hl o1
  have hk2 := setLoop_le (t := t) (t.size + 1) (addR (fun _ => false) (readItemS t (takeS t 94 s)).1.1 (readItemS t (takeS t 94 s)).1.2) _ hk1
  show Out t s.k ⟨8, d, bk⟩ (expectS t 93 (setLoop t (t.size + 1) (addR (fun _ => false) (readItemS t (takeS t 94 s)).1.1 (readItemS t (takeS t 94 s)).1.2) (readItemS t (takeS t 94 s)).2).2) 1 d
  generalize (setLoop t (t.size + 1) (addR (fun _ => false) (readItemS t (takeS t 94 s)).1.1 (readItemS t (takeS t 94 s)).1.2) (readItemS t (takeS t 94 s)).2).2 = r at *
  cases hbr : r.bad
  · obtain ⟨m, bk', g, hm, hp⟩ := o2.1 hbr
    have hpe : (r.pk t == 93) = true := by simp [hp]
    rw [expectS_eq hpe, hbr]
    have hbyte : byteAt t r.k = 93 := by
      rcases pk_good hbr hk2 with ⟨h1, h2⟩ | ⟨h1, h2⟩
      · omega
      · omega
    refine Out.before g (out_step (bk := bk') ?_)
    rw [hbyte, goes_in (by simp only; omega)]
    rcases hm with rfl | rfl <;> rfl
  · rw [bad_expect (by omega) hbr]
    obtain ⟨z, g, st⟩ := o2.2 hbr
    exact ⟨fun hh => (by cases hh), fun _ => ⟨z, g, st⟩⟩

end Go.Proofs.Ytibhlnhmejlhbaa
