/-
  Plain mathematics: what is left of a set of strings behind a byte.
  Plain mathematics: texts that are put together: what the document's answer makes of them, and that the look over them meets no error.
  Plain mathematics: the terms that can be left are few: names for the nodes of a tree that grows, and the terms over them.
  Plain mathematics: sets of strings as sorted lists; how many there can be.
  Plain mathematics: how many nodes a tree can come to have.
  Plain mathematics: states found one after the other, by what is left behind their first strings; alike bytes.
  Plain mathematics: how long terms can be; sets of terms that are right; what they stand for.
-/
import Derived.Test.YtfooclcjehpcfaaGreatLL
import Derived.Test.YtfooclcjehpcfaaGreatTP
import Derived.Test.YtfooclcjehpcfaaGreatGn
namespace Go.Proofs.YtfooclcjehpcfaaGreat

/-- What is left of a set of strings behind the byte c. -/
def derL (c : Nat) (A : Lang) : Lang := fun w => A (c :: w)
theorem pwL_nil (A : Lang) : ∀ k, pwL A k [] ↔ k = 0 ∨ A []
  | 0 => by simp [pwL, epsL]
  | k + 1 => by
    constructor
    · rintro ⟨u, v, e, h1, _⟩
      obtain ⟨rfl, rfl⟩ : u = [] ∧ v = [] := by simpa using e.symm
      exact .inr h1
    · rintro (h | h)
      · omega
      · exact ⟨[], [], rfl, h, (pwL_nil A k).2 (.inr h)⟩
def nulB : Re → Bool
  | .blank => true
  | .set _ => false
  | .seq a b => nulB a && nulB b
  | .alt a b => nulB a || nulB b
  | .star _ => true
  | .plus a => nulB a
  | .opt _ => true
  | .times m n a => decide (m ≤ n) && (decide (m = 0) || nulB a)
theorem nulB_iff : ∀ R : Re, nulB R = true ↔ R.L []
  | .blank => by simp [nulB, Re.L, epsL]
  | .set f => by simp [nulB, Re.L, setL]
  | .seq a b => by
    simp only [nulB, Bool.and_eq_true, nulB_iff a, nulB_iff b, Re.L]
    constructor
    · rintro ⟨h1, h2⟩; exact ⟨[], [], rfl, h1, h2⟩
    · rintro ⟨u, v, e, h1, h2⟩
      obtain ⟨rfl, rfl⟩ : u = [] ∧ v = [] := by simpa using e.symm
      exact ⟨h1, h2⟩
  | .alt a b => by simp only [nulB, Bool.or_eq_true, nulB_iff a, nulB_iff b, Re.L]; exact Iff.rfl
  | .star a => by simp only [nulB, Re.L, true_iff]; exact ⟨0, rfl⟩
  | .plus a => by
    simp only [nulB, nulB_iff a, Re.L]
    constructor
    · intro h; exact ⟨1, Nat.le_refl _, (pwL_nil _ 1).2 (.inr h)⟩
    · rintro ⟨k, h1, h2⟩
      rcases (pwL_nil _ k).1 h2 with h | h
      · omega
      · exact h
  | .opt a => by simp only [nulB, Re.L, true_iff]; exact .inl rfl
  | .times m n a => by
    simp only [nulB, Bool.and_eq_true, Bool.or_eq_true, decide_eq_true_eq, nulB_iff a, Re.L]
    constructor
    · rintro ⟨h1, h2⟩; exact ⟨m, Nat.le_refl _, h1, (pwL_nil _ m).2 h2⟩
    · rintro ⟨k, h1, h2, h3⟩
      refine ⟨by omega, ?_⟩
      rcases (pwL_nil _ k).1 h3 with h | h
      · exact .inl (by omega)
      · exact .inr h
theorem der_eps (c : Nat) : derL c epsL = voidL := Lang.ext fun w => ⟨fun h => (by cases h), fun h => h.elim⟩
theorem der_set (c : Nat) (f : Nat → Bool) : derL c (setL f) = if f c = true then epsL else voidL := by
  apply Lang.ext
  intro w
  by_cases h : f c = true
  · rw [if_pos h]
    constructor
    · rintro ⟨b, e, _⟩; simp only [List.cons.injEq] at e; exact e.2
    · intro e; exact ⟨c, by rw [show w = [] from e], h⟩
  · rw [if_neg h]
    constructor
    · rintro ⟨b, e, hb⟩
      simp only [List.cons.injEq] at e
      exact h (by rw [e.1]; exact hb)
    · intro h'; exact h'.elim
theorem der_alt (c : Nat) (A B : Lang) : derL c (altL A B) = altL (derL c A) (derL c B) := rfl
theorem der_opt (c : Nat) (A : Lang) : derL c (optL A) = derL c A := Lang.ext fun w => ⟨fun h => h.elim (fun h => by cases h) id, .inr⟩
theorem der_cat (c : Nat) (A B : Lang) (w : List Nat) : derL c (catL A B) w ↔ catL (derL c A) B w ∨ (A [] ∧ derL c B w) := by
  constructor
  · rintro ⟨u, v, e, h1, h2⟩
    cases u with
    | nil => right; rw [List.nil_append] at e; subst e; exact ⟨h1, h2⟩
    | cons x u =>
      simp only [List.cons_append, List.cons.injEq] at e
      obtain ⟨rfl, rfl⟩ := e
      exact .inl ⟨u, v, rfl, h1, h2⟩
  · rintro (⟨u, v, rfl, h1, h2⟩ | ⟨h1, h2⟩)
    · exact ⟨c :: u, v, rfl, h1, h2⟩
    · exact ⟨[], c :: w, rfl, h1, h2⟩
/-- Of k parts: one that begins with c, and the others. -/
theorem der_pw (c : Nat) (A : Lang) : ∀ (k : Nat) (w : List Nat), pwL A k (c :: w) ↔ 0 < k ∧ catL (derL c A) (pwL A (k - 1)) w
  | 0, w => by
    constructor
    · intro h; cases h
    · rintro ⟨h, _⟩; omega
  | k + 1, w => by
    rw [Nat.add_sub_cancel]
    constructor
    · intro h
      refine ⟨by omega, ?_⟩
      rcases (der_cat c A (pwL A k) w).1 h with h | ⟨h1, h2⟩
      · exact h
      · obtain ⟨hk, u, v, rfl, g1, g2⟩ := (der_pw c A k w).1 h2
        obtain ⟨j, rfl⟩ : ∃ j, k = j + 1 := ⟨k - 1, by omega⟩
        rw [Nat.add_sub_cancel] at g2
        exact ⟨u, v, rfl, g1, [], v, rfl, h1, g2⟩
    · rintro ⟨_, h⟩
      exact (der_cat c A (pwL A k) w).2 (.inl h)
theorem der_star (c : Nat) (A : Lang) : derL c (starL A) = catL (derL c A) (starL A) := by
  apply Lang.ext
  intro w
  constructor
  · rintro ⟨k, h⟩
    obtain ⟨_, u, v, rfl, h1, h2⟩ := (der_pw c A k w).1 h
    exact ⟨u, v, rfl, h1, _, h2⟩
  · rintro ⟨u, v, rfl, h1, k, h2⟩
    exact ⟨k + 1, (der_pw c A (k + 1) _).2 ⟨by omega, u, v, rfl, h1, h2⟩⟩
theorem der_plus (c : Nat) (A : Lang) : derL c (plusL A) = catL (derL c A) (starL A) := by
  apply Lang.ext
  intro w
  constructor
  · rintro ⟨k, _, h⟩
    obtain ⟨_, u, v, rfl, h1, h2⟩ := (der_pw c A k w).1 h
    exact ⟨u, v, rfl, h1, _, h2⟩
  · rintro ⟨u, v, rfl, h1, k, h2⟩
    exact ⟨k + 1, by omega, (der_pw c A (k + 1) _).2 ⟨by omega, u, v, rfl, h1, h2⟩⟩
theorem der_times (c : Nat) (A : Lang) {m n : Nat} (hn : 1 ≤ n) (_hm : m ≤ n) : derL c (timesL m n A) = catL (derL c A) (timesL (m - 1) (n - 1) A) := by
  apply Lang.ext
  intro w
  constructor
  · rintro ⟨k, k1, k2, h⟩
    obtain ⟨hk, u, v, rfl, h1, h2⟩ := (der_pw c A k w).1 h
    exact ⟨u, v, rfl, h1, k - 1, by omega, by omega, h2⟩
  · rintro ⟨u, v, rfl, h1, k, k1, k2, h2⟩
    exact ⟨k + 1, by omega, by omega, (der_pw c A (k + 1) _).2 ⟨by omega, u, v, rfl, h1, h2⟩⟩
theorem der_times0 (c : Nat) (A : Lang) {m n : Nat} (h : n < 1 ∨ n < m) : derL c (timesL m n A) = voidL := by
  apply Lang.ext
  intro w
  constructor
  · rintro ⟨k, k1, k2, h'⟩
    obtain ⟨hk, _⟩ := (der_pw c A k w).1 h'
    omega
  · intro h; exact h.elim

/-- The set of strings that a node stands for. -/
def LN (rs : List Rn) (k : Nat) : Lang := fun w => ∃ R, Dr rs R (k : Int) ∧ R.L w
/-- A term: nodes, to be matched one behind the other. -/
def tmL (rs : List Rn) : List Nat → Lang
  | [] => epsL
  | k :: s => catL (LN rs k) (tmL rs s)
def NdOk (rs : List Rn) (k : Nat) : Prop := ∃ R, Dr rs R (k : Int)
def TmOk (rs : List Rn) (s : List Nat) : Prop := ∀ k ∈ s, NdOk rs k
theorem tmL_append (rs : List Rn) : ∀ (s t : List Nat), tmL rs (s ++ t) = catL (tmL rs s) (tmL rs t)
  | [], t => (epsL_cat _).symm
  | k :: s, t => by rw [List.cons_append, tmL, tmL, tmL_append rs s t, catL_assoc]
/-- A set of terms. -/
def stL (rs : List Rn) (X : List (List Nat)) : Lang := fun w => ∃ s ∈ X, tmL rs s w
theorem stL_ext {rs : List Rn} {X Y : List (List Nat)} (h : ∀ s, s ∈ X ↔ s ∈ Y) : stL rs X = stL rs Y := Lang.ext fun _ => ⟨fun ⟨s, h1, h2⟩ => ⟨s, (h s).1 h1, h2⟩, fun ⟨s, h1, h2⟩ => ⟨s, (h s).2 h1, h2⟩⟩
theorem tmL_nil_iff (rs : List Rn) : ∀ s, tmL rs s [] ↔ ∀ k ∈ s, LN rs k []
  | [] => by simp [tmL, epsL]
  | k :: s => by
    rw [tmL]
    constructor
    · rintro ⟨u, v, e, h1, h2⟩
      obtain ⟨rfl, rfl⟩ : u = [] ∧ v = [] := by simpa using e.symm
      intro x hx
      rcases List.mem_cons.1 hx with rfl | hx
      · exact h1
      · exact (tmL_nil_iff rs s).1 h2 x hx
    · intro h
      exact ⟨[], [], rfl, h k (by simp), (tmL_nil_iff rs s).2 fun x hx => h x (by simp [hx])⟩
/-- What is left of a term: what is left of one of its parts, those before it being empty, and those behind it. -/
theorem der_tm (rs : List Rn) (c : Nat) : ∀ (s : List Nat) (w : List Nat), derL c (tmL rs s) w ↔ ∃ a k b, s = a ++ k :: b ∧ (∀ x ∈ a, LN rs x []) ∧ catL (derL c (LN rs k)) (tmL rs b) w
  | [], w => by
    constructor
    · intro h; cases h
    · rintro ⟨a, k, b, e, _⟩; simp at e
  | k :: s, w => by
    rw [tmL, der_cat]
    constructor
    · rintro (h | ⟨h1, h2⟩)
      · exact ⟨[], k, s, rfl, by simp, h⟩
      · obtain ⟨a, k', b, rfl, g1, g2⟩ := (der_tm rs c s w).1 h2
        refine ⟨k :: a, k', b, rfl, fun x hx => ?_, g2⟩
        rcases List.mem_cons.1 hx with rfl | hx
        · exact h1
        · exact g1 x hx
    · rintro ⟨a, k', b, e, g1, g2⟩
      cases a with
      | nil =>
        simp only [List.nil_append, List.cons.injEq] at e
        obtain ⟨rfl, rfl⟩ := e
        exact .inl g2
      | cons y a =>
        simp only [List.cons_append, List.cons.injEq] at e
        obtain ⟨rfl, rfl⟩ := e
        exact .inr ⟨g1 k (by simp), (der_tm rs c _ w).2 ⟨a, k', b, rfl, fun x hx => g1 x (by simp [hx]), g2⟩⟩

end Go.Proofs.YtfooclcjehpcfaaGreat
namespace Go.Proofs.YtfooclcjehpcfaaGreat

/-- The bytes x stand in t from A on. -/
def AtW (t : ByteArray) (A : Nat) (x : List Nat) : Prop := A + x.length ≤ t.size ∧ ∀ (i c : Nat), x[i]? = some c → byteAt t (A + i) = (c : Int)
theorem AtW.app {t : ByteArray} {A : Nat} {x y : List Nat} (h : AtW t A (x ++ y)) : AtW t A x ∧ AtW t (A + x.length) y := by
  obtain ⟨h1, h2⟩ := h
  rw [List.length_append] at h1
  refine ⟨⟨by omega, fun i c hi => h2 i c (getElem?_app hi y)⟩, by omega, fun i c hi => ?_⟩
  have := h2 (x.length + i) c (by rw [List.getElem?_append_right (by omega), show x.length + i - x.length = i from by omega]; exact hi)
  rw [← Nat.add_assoc] at this; exact this
theorem AtW.head {t : ByteArray} {A : Nat} {c : Nat} {x : List Nat} (h : AtW t A (c :: x)) : byteAt t A = (c : Int) ∧ A < t.size ∧ AtW t (A + 1) x := by
  have h' : AtW t A ([c] ++ x) := h
  obtain ⟨a, b⟩ := h'.app
  exact ⟨a.2 0 c rfl, by have := a.1; simp at this; omega, b⟩

/-- The look goes along, at a byte's place before and behind. -/
def ScanP (t : ByteArray) (A B : Nat) : Prop := ∀ m d bk, (m = 0 ∨ m = 1) → 0 ≤ d → ∃ m' bk', (m' = 0 ∨ m' = 1) ∧ Go' t A ⟨m, d, bk⟩ B ⟨m', d, bk'⟩
/-- The same, and an atom lies behind. -/
def ScanA (t : ByteArray) (A B : Nat) : Prop := ∀ m d bk, (m = 0 ∨ m = 1) → 0 ≤ d → ∃ bk', Go' t A ⟨m, d, bk⟩ B ⟨1, d, bk'⟩
theorem ScanA.p {t : ByteArray} {A B : Nat} (h : ScanA t A B) : ScanP t A B := fun m d bk hm hd => by
  obtain ⟨bk', hg⟩ := h m d bk hm hd
  exact ⟨1, bk', Or.inr rfl, hg⟩
theorem ScanA.trans {t : ByteArray} {A B C : Nat} (h : ScanA t A B) (k : ScanA t B C) : ScanA t A C := fun m d bk hm hd => by
  obtain ⟨b1, g1⟩ := h m d bk hm hd
  obtain ⟨b2, g2⟩ := k 1 d b1 (Or.inr rfl) hd
  exact ⟨b2, g1.trans g2⟩
theorem ScanP.thenA {t : ByteArray} {A B C : Nat} (h : ScanP t A B) (k : ScanA t B C) : ScanA t A C := fun m d bk hm hd => by
  obtain ⟨m1, b1, h1, g1⟩ := h m d bk hm hd
  obtain ⟨b2, g2⟩ := k m1 d b1 h1 hd
  exact ⟨b2, g1.trans g2⟩
theorem ScanP.trans {t : ByteArray} {A B C : Nat} (h : ScanP t A B) (k : ScanP t B C) : ScanP t A C := fun m d bk hm hd => by
  obtain ⟨m1, b1, h1, g1⟩ := h m d bk hm hd
  obtain ⟨m2, b2, h2, g2⟩ := k m1 d b1 h1 hd
  exact ⟨m2, b2, h2, g1.trans g2⟩
theorem ScanP.refl (t : ByteArray) (A : Nat) : ScanP t A A := fun m _ bk hm _ => ⟨m, bk, hm, Go'.refl _ _ _⟩

def Lead (x : List Nat) : Prop := ∃ c y, x = c :: y ∧ atSuffixB (c : Int) = false
def Gp (x : List Nat) (v : Val) : Prop := ∀ t A, t.size ≤ 60 → AtW t A x → PatV t A (A + x.length) v ∧ ScanP t A (A + x.length)
def Gb (x : List Nat) (v : Val) : Prop := (x = [] ∨ Lead x) ∧ ∀ t A, t.size ≤ 60 → AtW t A x → BraV t A (A + x.length) v ∧ ScanP t A (A + x.length)
def Gi (x : List Nat) (v : Val) : Prop := Lead x ∧ ∀ t A, t.size ≤ 60 → AtW t A x → PieV t A (A + x.length) v ∧ ScanA t A (A + x.length)
def Ga (x : List Nat) (v : Val) : Prop := Lead x ∧ ∀ t A, t.size ≤ 60 → AtW t A x → AtoV t A (A + x.length) v ∧ ScanA t A (A + x.length)
def Gs (y : List Nat) (F : Val → Val) : Prop := ∀ t A, t.size ≤ 60 → AtW t A y → (∀ v, SufV t A (A + y.length) v (F v)) ∧ ∀ d bk, 0 ≤ d → ∃ bk', Go' t A ⟨1, d, bk⟩ (A + y.length) ⟨1, d, bk'⟩

theorem Lead.app {x : List Nat} (h : Lead x) (y : List Nat) : Lead (x ++ y) := by
  obtain ⟨c, z, rfl, hc⟩ := h; exact ⟨c, z ++ y, rfl, hc⟩

theorem goes_40 {m d bk : Int} (h : m = 0 ∨ m = 1) : goesS ⟨m, d, bk⟩ 40 = (true, ⟨0, d + 1, bk⟩) := by rw [goes_out h]; rfl
theorem goes_41 {m d bk : Int} (h : m = 0 ∨ m = 1) (hd : 1 ≤ d) : goesS ⟨m, d, bk⟩ 41 = (true, ⟨1, d - 1, bk⟩) := by
  rw [goes_out h]
  unfold outsideS
  simp
  omega
theorem goes_124 {m d bk : Int} (h : m = 0 ∨ m = 1) : goesS ⟨m, d, bk⟩ 124 = (true, ⟨0, d, bk⟩) := by rw [goes_out h]; rfl

theorem Ga.par {x : List Nat} {v : Val} (h : Gp x v) : Ga (40 :: (x ++ [41])) v := by
  refine ⟨⟨40, _, rfl, by decide⟩, fun t A h60 ha => ?_⟩
  obtain ⟨b0, l0, ha1⟩ := ha.head
  obtain ⟨ax, ac⟩ := ha1.app
  obtain ⟨b1, l1, _⟩ := ac.head
  obtain ⟨pv, sp⟩ := h t (A + 1) h60 ax
  have e : A + (40 :: (x ++ [41])).length = A + 1 + x.length + 1 := by simp; omega
  rw [e]
  refine ⟨atoV_par b0 pv l1 b1, fun m d bk hm hd => ?_⟩
  have g0 : Go' t A ⟨m, d, bk⟩ (A + 1) ⟨0, d + 1, bk⟩ := Go'.step (by rw [b0]; exact goes_40 hm)
  obtain ⟨m1, b1', hm1, g1⟩ := sp 0 (d + 1) bk (Or.inl rfl) (by omega)
  have g2 : Go' t (A + 1 + x.length) ⟨m1, d + 1, b1'⟩ (A + 1 + x.length + 1) ⟨1, d, b1'⟩ := Go'.step (by rw [b1]; have := goes_41 (bk := b1') hm1 (show 1 ≤ d + 1 by omega); rw [show d + 1 - 1 = d from by omega] at this; exact this)
  exact ⟨b1', (g0.trans g1).trans g2⟩

theorem Gs.nil : Gs [] id := fun t A _ ha => ⟨fun v => by have := ha.1; exact SufV.refl (by simpa using this), fun d bk _ => ⟨bk, Go'.refl _ _ _⟩⟩
theorem goes_suf {c : Int} {d bk : Int} (h : c = 42 ∨ c = 43 ∨ c = 63) : goesS ⟨1, d, bk⟩ c = (true, ⟨1, d, bk⟩) := by
  rw [goes_out (Or.inr rfl)]
  rcases h with rfl | rfl | rfl <;> rfl
theorem Gs.star : Gs [42] starV := fun t A _ ha => by
  obtain ⟨b0, l0, _⟩ := ha.head
  exact ⟨fun v => sufV_star l0 b0, fun d bk _ => ⟨bk, Go'.step (by rw [b0]; exact goes_suf (Or.inl rfl))⟩⟩
theorem Gs.plus : Gs [43] plusV := fun t A _ ha => by
  obtain ⟨b0, l0, _⟩ := ha.head
  exact ⟨fun v => sufV_plus l0 b0, fun d bk _ => ⟨bk, Go'.step (by rw [b0]; exact goes_suf (Or.inr (Or.inl rfl)))⟩⟩
theorem Gs.opt : Gs [63] optV := fun t A _ ha => by
  obtain ⟨b0, l0, _⟩ := ha.head
  exact ⟨fun v => sufV_opt l0 b0, fun d bk _ => ⟨bk, Go'.step (by rw [b0]; exact goes_suf (Or.inr (Or.inr rfl)))⟩⟩
theorem dec_of {m : Nat} (h : m ≤ 9) : decB ((48 + m : Nat) : Int) = true := by unfold decB; simp; omega
theorem goes_4 {d bk c : Int} (h : decB c = true) : goesS ⟨4, d, bk⟩ c = (true, ⟨5, d, bk⟩) := by unfold goesS; simp [h]
theorem goes_6 {d bk c : Int} (h : decB c = true) : goesS ⟨6, d, bk⟩ c = (true, ⟨7, d, bk⟩) := by unfold goesS; simp [h]
theorem Gs.times {m n : Nat} (hm : m ≤ 9) (hn : n ≤ 9) : Gs [123, 48 + m, 44, 48 + n, 125] (timesV m n) := fun t A _ ha => by
  obtain ⟨b0, l0, a1⟩ := ha.head
  obtain ⟨b1, l1, a2⟩ := a1.head
  obtain ⟨b2, l2, a3⟩ := a2.head
  obtain ⟨b3, l3, a4⟩ := a3.head
  obtain ⟨b4, l4, _⟩ := a4.head
  have d1 := dec_of hm
  have d2 := dec_of hn
  refine ⟨fun v => ?_, fun d bk hd => ⟨bk, ?_⟩⟩
  · have := sufV_times (t := t) (A := A) (v := v) (by omega) b0 (by rw [b1]; exact d1) b2 (by rw [b3]; exact d2) b4
    rw [b1, b3, show (((48 + m : Nat) : Int) - 48).toNat = m from by omega, show (((48 + n : Nat) : Int) - 48).toNat = n from by omega] at this
    exact this
  · have g0 : Go' t A ⟨1, d, bk⟩ (A + 1) ⟨4, d, bk⟩ := Go'.step (by rw [b0, goes_out (Or.inr rfl)]; rfl)
    have g1 : Go' t (A + 1) ⟨4, d, bk⟩ (A + 1 + 1) ⟨5, d, bk⟩ := Go'.step (by rw [b1]; exact goes_4 d1)
    have g2 : Go' t (A + 1 + 1) ⟨5, d, bk⟩ (A + 1 + 1 + 1) ⟨6, d, bk⟩ := Go'.step (by rw [b2]; rfl)
    have g3 : Go' t (A + 1 + 1 + 1) ⟨6, d, bk⟩ (A + 1 + 1 + 1 + 1) ⟨7, d, bk⟩ := Go'.step (by rw [b3]; exact goes_6 d2)
    have g4 : Go' t (A + 1 + 1 + 1 + 1) ⟨7, d, bk⟩ (A + 1 + 1 + 1 + 1 + 1) ⟨1, d, bk⟩ := Go'.step (by rw [b4]; rfl)
    exact (((g0.trans g1).trans g2).trans g3).trans g4

theorem Gi.of {x y : List Nat} {v : Val} {F : Val → Val} (h : Ga x v) (k : Gs y F) : Gi (x ++ y) (F v) := by
  refine ⟨h.1.app y, fun t A h60 ha => ?_⟩
  obtain ⟨ax, ay⟩ := ha.app
  obtain ⟨av, sa⟩ := h.2 t A h60 ax
  obtain ⟨sv, sg⟩ := k t _ h60 ay
  rw [List.length_append, ← Nat.add_assoc]
  refine ⟨pieV_of h60 av (sv v), fun m d bk hm hd => ?_⟩
  obtain ⟨b1, g1⟩ := sa m d bk hm hd
  obtain ⟨b2, g2⟩ := sg d b1 hd
  exact ⟨b2, g1.trans g2⟩
theorem Ga.i {x : List Nat} {v : Val} (h : Ga x v) : Gi x v := by
  have := Gi.of h Gs.nil
  rw [List.append_nil] at this; exact this
theorem Gb.nil : Gb [] Re.blank.val := ⟨Or.inl rfl, fun t A _ ha => ⟨by have := ha.1; exact braV_nil (by simpa using this), ScanP.refl _ _⟩⟩
theorem Gi.b {x : List Nat} {v : Val} (h : Gi x v) : Gb x v := by
  refine ⟨Or.inr h.1, fun t A h60 ha => ?_⟩
  obtain ⟨pv, sa⟩ := h.2 t A h60 ha
  have := (brV_join pv (Or.inl ⟨rfl, rfl⟩) (fun h => absurd h (by omega))).2
  rw [catV_unit] at this
  exact ⟨this, sa.p⟩
theorem Gi.cat {x y : List Nat} {v u : Val} (h : Gi x v) (k : Gb y u) (hy : Lead y) : Gb (x ++ y) (catV v u) := by
  refine ⟨Or.inr (h.1.app y), fun t A h60 ha => ?_⟩
  obtain ⟨ax, ay⟩ := ha.app
  obtain ⟨pv, sa⟩ := h.2 t A h60 ax
  obtain ⟨bv, sb⟩ := k.2 t _ h60 ay
  obtain ⟨c, z, rfl, hc⟩ := hy
  rw [List.length_append, ← Nat.add_assoc]
  refine ⟨(brV_join pv (Or.inr ⟨by simp, bv⟩) (fun _ => by rw [ay.head.1]; exact hc)).2, sa.p.trans sb⟩
theorem Gb.p {x : List Nat} {v : Val} (h : Gb x v) : Gp x v := fun t A h60 ha => by
  obtain ⟨bv, sb⟩ := h.2 t A h60 ha
  have := patV_join h60 bv (Or.inl ⟨rfl, rfl⟩)
  rw [altV_unit] at this
  exact ⟨this, sb⟩
theorem Gb.alt {x y : List Nat} {v u : Val} (h : Gb x v) (k : Gp y u) : Gp (x ++ 124 :: y) (altV v u) := fun t A h60 ha => by
  obtain ⟨ax, ay⟩ := ha.app
  obtain ⟨bv, sb⟩ := h.2 t A h60 ax
  obtain ⟨c0, l0, a1⟩ := ay.head
  obtain ⟨pv, sp⟩ := k t _ h60 a1
  have e : A + (x ++ 124 :: y).length = A + x.length + 1 + y.length := by simp; omega
  rw [e]
  refine ⟨patV_join h60 bv (Or.inr ⟨by omega, c0, pv⟩), sb.trans (ScanP.trans ?_ sp)⟩
  exact fun m d bk hm _ => ⟨0, bk, Or.inl rfl, Go'.step (by rw [c0]; exact goes_124 hm)⟩

def kindR : Re → Int
  | .blank => 1
  | .set _ => 2
  | .seq _ _ => 3
  | .alt _ _ => 4
  | .star _ => 5
  | .plus _ => 6
  | .opt _ => 7
  | .times _ _ _ => 8
theorem Dr.kind {rs : List Rn} : ∀ {R : Re} {k : Int}, Dr rs R k → ∃ r, rs[k.toNat]? = some r ∧ r.kind = kindR R
  | .blank, _, ⟨r, _, h1, h2⟩ => ⟨r, h1, h2⟩
  | .set _, _, ⟨r, _, h1, h2, _⟩ => ⟨r, h1, h2⟩
  | .seq _ _, _, ⟨r, _, h1, h2, _⟩ => ⟨r, h1, h2⟩
  | .alt _ _, _, ⟨r, _, h1, h2, _⟩ => ⟨r, h1, h2⟩
  | .star _, _, ⟨r, _, h1, h2, _⟩ => ⟨r, h1, h2⟩
  | .plus _, _, ⟨r, _, h1, h2, _⟩ => ⟨r, h1, h2⟩
  | .opt _, _, ⟨r, _, h1, h2, _⟩ => ⟨r, h1, h2⟩
  | .times _ _ _, _, ⟨r, _, h1, h2, _⟩ => ⟨r, h1, h2⟩
theorem some_same {α : Type} {o : Option α} {a b : α} (h : o = some a) (k : o = some b) : a = b := Option.some.inj (h.symm.trans k)
/-- Two readings of one node are the same. -/
theorem Dr.same {rs : List Rn} : ∀ {R S : Re} {k : Int}, Dr rs R k → Dr rs S k → R = S := by
  intro R
  induction R with
  | blank =>
    intro S k h g
    have hk : kindR .blank = kindR S := by obtain ⟨r, a1, a2⟩ := h.kind; obtain ⟨r', b1, b2⟩ := g.kind; have := some_same a1 b1; subst this; rw [← a2, ← b2]
    cases S with
    | blank => rfl
    | _ => exact absurd hk (by simp [kindR])
  | set f =>
    intro S k h g
    have hk : kindR (.set f) = kindR S := by obtain ⟨r, a1, a2⟩ := h.kind; obtain ⟨r', b1, b2⟩ := g.kind; have := some_same a1 b1; subst this; rw [← a2, ← b2]
    cases S with
    | set f' => obtain ⟨r, _, a1, _, a2⟩ := h; obtain ⟨r', _, b1, _, b2⟩ := g; have := some_same a1 b1; subst this; rw [← a2, ← b2]
    | _ => exact absurd hk (by simp [kindR])
  | seq a b iha ihb =>
    intro S k h g
    have hk : kindR (.seq a b) = kindR S := by obtain ⟨r, a1, a2⟩ := h.kind; obtain ⟨r', b1, b2⟩ := g.kind; have := some_same a1 b1; subst this; rw [← a2, ← b2]
    cases S with
    | seq a' b' => obtain ⟨r, _, a1, _, a2, a3⟩ := h; obtain ⟨r', _, b1, _, b2, b3⟩ := g; have := some_same a1 b1; subst this; rw [iha a2 b2, ihb a3 b3]
    | _ => exact absurd hk (by simp [kindR])
  | alt a b iha ihb =>
    intro S k h g
    have hk : kindR (.alt a b) = kindR S := by obtain ⟨r, a1, a2⟩ := h.kind; obtain ⟨r', b1, b2⟩ := g.kind; have := some_same a1 b1; subst this; rw [← a2, ← b2]
    cases S with
    | alt a' b' => obtain ⟨r, _, a1, _, a2, a3⟩ := h; obtain ⟨r', _, b1, _, b2, b3⟩ := g; have := some_same a1 b1; subst this; rw [iha a2 b2, ihb a3 b3]
    | _ => exact absurd hk (by simp [kindR])
  | star a iha =>
    intro S k h g
    have hk : kindR (.star a) = kindR S := by obtain ⟨r, a1, a2⟩ := h.kind; obtain ⟨r', b1, b2⟩ := g.kind; have := some_same a1 b1; subst this; rw [← a2, ← b2]
    cases S with
    | star a' => obtain ⟨r, _, a1, _, a2⟩ := h; obtain ⟨r', _, b1, _, b2⟩ := g; have := some_same a1 b1; subst this; rw [iha a2 b2]
    | _ => exact absurd hk (by simp [kindR])
  | plus a iha =>
    intro S k h g
    have hk : kindR (.plus a) = kindR S := by obtain ⟨r, a1, a2⟩ := h.kind; obtain ⟨r', b1, b2⟩ := g.kind; have := some_same a1 b1; subst this; rw [← a2, ← b2]
    cases S with
    | plus a' => obtain ⟨r, _, a1, _, a2⟩ := h; obtain ⟨r', _, b1, _, b2⟩ := g; have := some_same a1 b1; subst this; rw [iha a2 b2]
    | _ => exact absurd hk (by simp [kindR])
  | opt a iha =>
    intro S k h g
    have hk : kindR (.opt a) = kindR S := by obtain ⟨r, a1, a2⟩ := h.kind; obtain ⟨r', b1, b2⟩ := g.kind; have := some_same a1 b1; subst this; rw [← a2, ← b2]
    cases S with
    | opt a' => obtain ⟨r, _, a1, _, a2⟩ := h; obtain ⟨r', _, b1, _, b2⟩ := g; have := some_same a1 b1; subst this; rw [iha a2 b2]
    | _ => exact absurd hk (by simp [kindR])
  | times m n a iha =>
    intro S k h g
    have hk : kindR (.times m n a) = kindR S := by obtain ⟨r, a1, a2⟩ := h.kind; obtain ⟨r', b1, b2⟩ := g.kind; have := some_same a1 b1; subst this; rw [← a2, ← b2]
    cases S with
    | times m' n' a' =>
      obtain ⟨r, _, a1, _, a2, a3, _, _, a4⟩ := h
      obtain ⟨r', _, b1, _, b2, b3, _, _, b4⟩ := g
      have := some_same a1 b1
      subst this
      have e1 : m = m' := by omega
      have e2 : n = n' := by omega
      rw [iha a4 b4, e1, e2]
    | _ => exact absurd hk (by simp [kindR])

/-- The document's answer to a text that is put together. -/
theorem Gp.place {p : ByteArray} {x : List Nat} {v : Val} (h : Gp x v) (h60 : p.size ≤ 60) (hp : AtW p 0 x) (hl : x.length = p.size) : placeS p = -1 := by
  obtain ⟨_, sp⟩ := h p 0 h60 hp
  obtain ⟨m', bk', hm, g1, g2⟩ := sp 0 0 0 (Or.inl rfl) (by omega)
  rw [Nat.zero_add, hl, Nat.sub_zero] at g2
  have := scan_adv p p.size 0 ⟨0, 0, 0⟩ _ g2 (by omega)
  rw [Nat.sub_zero] at this
  unfold placeS
  rw [this, show p.size - (0 + p.size) = 0 from by omega]
  unfold scanS
  rw [if_neg]
  simp only [Bool.or_eq_true, decide_eq_true_eq]
  omega
theorem Gp.reads {p : ByteArray} {x : List Nat} {v : Val} (h : Gp x v) (h60 : p.size ≤ 60) (hp : AtW p 0 x) (hl : x.length = p.size) : ∃ n rs k, rfF n 0 p 0 0 [] = some (rs, k) ∧ DrV rs k v := by
  obtain ⟨pv, _⟩ := h p 0 h60 hp
  obtain ⟨n, rs1, k, h1, h2⟩ := pv.2.2.2 []
  rw [Nat.zero_add, hl, ByteArray.extract_zero_size] at h1
  exact ⟨n, _, k, h1, h2⟩
theorem Gp.answer {p : ByteArray} {x : List Nat} {v : Val} (h : Gp x v) (h60 : p.size ≤ 60) (hp : AtW p 0 x) (hl : x.length = p.size) (hw : v.2 ≤ 12) {y : St} {i : Int} (hr : Rds p 0 0 x0 (y, i)) :
    (readErr p y).1 = 0 ∧ ∀ n rs k S, rfF n 0 p 0 0 [] = some (rs, k) → Dr rs S k → S.L = v.1 := by
  obtain ⟨n', rs', k', f1, S', f2, f3⟩ := h.reads h60 hp hl
  have key : ∀ n rs k S, rfF n 0 p 0 0 [] = some (rs, k) → Dr rs S k → S.val = v := by
    intro n rs k S g1 g2
    have a := rfF_mono n (max n n') 0 p 0 0 [] _ (Nat.le_max_left _ _) g1
    have b := rfF_mono n' (max n n') 0 p 0 0 [] _ (Nat.le_max_right _ _) f1
    rw [a] at b
    simp only [Option.some.injEq, Prod.mk.injEq] at b
    obtain ⟨rfl, rfl⟩ := b
    rw [Dr.same g2 f2, f3]
  have hn : ¬ (y.s.bad = true ∨ y.s.k < p.size) := fun hh => by
    have := (refOk_all p y i h60 hr).1 hh
    rw [h.place h60 hp hl] at this
    omega
  refine ⟨?_, fun n rs k S g1 g2 => congrArg Prod.fst (key n rs k S g1 g2)⟩
  obtain ⟨R, n, rs, k, S, _, _, e, g1, g2, hv⟩ := read_meets p y i h60 hr hn
  have e2 : R.wt = v.2 := by
    have := congrArg Prod.snd (hv.trans (key n rs k S g1 g2))
    exact this
  unfold readErr
  rw [if_neg (by simpa using hn), e, e2]
  unfold cl
  rw [if_neg (by omega), if_neg (by omega)]

end Go.Proofs.YtfooclcjehpcfaaGreat
namespace Go.Proofs.YtfooclcjehpcfaaGreat

/-- A node's name: its number, if it is one of the first tree; else what it says. -/
inductive Nm where
  | o (k : Nat)
  | x (kind l m n : Int)
  deriving DecidableEq
def ctOf (r : Rn) : Nm := .x r.kind r.l r.m r.n
/-- The first node that says this. -/
def fstC (ct : Nm) : List Rn → Option Nat
  | [] => none
  | r :: l => if ctOf r = ct then some 0 else (fstC ct l).map (· + 1)
theorem fstC_some {ct : Nm} : ∀ {l : List Rn} {i : Nat}, fstC ct l = some i → ∃ r, l[i]? = some r ∧ ctOf r = ct
  | [], i, h => by cases h
  | r :: l, i, h => by
    rw [fstC] at h
    split at h
    · next hc => cases h; exact ⟨r, rfl, hc⟩
    · obtain ⟨j, hj, rfl⟩ := Option.map_eq_some_iff.1 h
      obtain ⟨r', h1, h2⟩ := fstC_some hj
      exact ⟨r', h1, h2⟩
theorem fstC_none {ct : Nm} : ∀ {l : List Rn}, fstC ct l = none → ∀ r ∈ l, ctOf r ≠ ct
  | [], _, r, hr => by cases hr
  | r0 :: l, h, r, hr => by
    rw [fstC] at h
    split at h
    · cases h
    · next hc =>
      rcases List.mem_cons.1 hr with rfl | hr
      · exact hc
      · exact fstC_none (Option.map_eq_none_iff.1 h) r hr
theorem fstC_app {ct : Nm} : ∀ (l m : List Rn), fstC ct (l ++ m) = match fstC ct l with
    | some i => some i
    | none => (fstC ct m).map (· + l.length)
  | [], m => by
    simp only [List.nil_append, fstC, List.length_nil, Nat.add_zero]
    cases fstC ct m <;> rfl
  | r :: l, m => by
    rw [List.cons_append, fstC, fstC]
    split
    · rfl
    · rw [fstC_app l m]
      cases fstC ct l with
      | some i => rfl
      | none =>
        cases fstC ct m with
        | none => rfl
        | some j => simp; omega
def resN (rs0 : List Rn) (ct : Nm) : Nm := match fstC ct rs0 with
  | some i => .o i
  | none => ct
/-- The tree has grown: nodes that say what none said. -/
structure GrownT (rs0 rs : List Rn) : Prop where
  pre : ∃ e, rs = rs0 ++ e
  new : ∀ k r, rs0.length ≤ k → rs[k]? = some r → fstC (ctOf r) rs0 = none
  inj : ∀ i j r s, rs0.length ≤ i → rs0.length ≤ j → rs[i]? = some r → rs[j]? = some s → ctOf r = ctOf s → i = j
theorem GrownT.refl (rs : List Rn) : GrownT rs rs := ⟨⟨[], by simp⟩, (fun k r h1 h2 => by rw [List.getElem?_eq_none h1] at h2; cases h2), (fun i j r s h1 _ h2 => by rw [List.getElem?_eq_none h1] at h2; cases h2)⟩
def nmOf (rs0 rs : List Rn) (k : Nat) : Nm := if k < rs0.length then .o k else match rs[k]? with
  | some r => ctOf r
  | none => .o k
section grown
variable {rs0 rs : List Rn}
theorem GrownT.len (h : GrownT rs0 rs) : rs0.length ≤ rs.length := by
  obtain ⟨e, rfl⟩ := h.pre; simp
theorem GrownT.nm_inj (h : GrownT rs0 rs) {i j : Nat} (hi : i < rs.length) (hj : j < rs.length) (e : nmOf rs0 rs i = nmOf rs0 rs j) : i = j := by
  unfold nmOf at e
  rw [List.getElem?_eq_getElem hi, List.getElem?_eq_getElem hj] at e
  by_cases h1 : i < rs0.length
  · rw [if_pos h1] at e
    by_cases h2 : j < rs0.length
    · rw [if_pos h2] at e; simpa using e
    · rw [if_neg h2] at e; cases e
  · rw [if_neg h1] at e
    by_cases h2 : j < rs0.length
    · rw [if_pos h2] at e; cases e
    · rw [if_neg h2] at e
      exact h.inj i j _ _ (by omega) (by omega) (List.getElem?_eq_getElem hi) (List.getElem?_eq_getElem hj) e
theorem nmOf_app {k : Nat} (hk : k < rs.length) (x : List Rn) : nmOf rs0 (rs ++ x) k = nmOf rs0 rs k := by
  unfold nmOf
  rw [List.getElem?_append_left hk]
/-- A node that was found. -/
theorem GrownT.found (h : GrownT rs0 rs) {ct : Nm} {i : Nat} (hi : fstC ct rs = some i) : nmOf rs0 rs i = resN rs0 ct ∧ i < rs.length := by
  obtain ⟨r, h1, h2⟩ := fstC_some hi
  have hl := (List.getElem?_eq_some_iff.1 h1).1
  refine ⟨?_, hl⟩
  obtain ⟨e, rfl⟩ := h.pre
  rw [fstC_app] at hi
  unfold nmOf resN
  cases hc : fstC ct rs0 with
  | some j =>
    rw [hc] at hi
    cases hi
    obtain ⟨r', g1, _⟩ := fstC_some hc
    rw [if_pos (List.getElem?_eq_some_iff.1 g1).1]
  | none =>
    rw [hc] at hi
    obtain ⟨j, _, rfl⟩ := Option.map_eq_some_iff.1 hi
    rw [if_neg (by omega), h1]
    exact h2
/-- A node that was put, since none said what it says. -/
theorem GrownT.put (h : GrownT rs0 rs) {n : Rn} (hn : fstC (ctOf n) rs = none) : GrownT rs0 (rs ++ [n]) ∧ nmOf rs0 (rs ++ [n]) rs.length = resN rs0 (ctOf n) := by
  have hl := h.len
  have h0 : fstC (ctOf n) rs0 = none := by
    obtain ⟨e, rfl⟩ := h.pre
    rw [fstC_app] at hn
    cases hc : fstC (ctOf n) rs0 with
    | none => rfl
    | some i => rw [hc] at hn; cases hn
  have old : ∀ {k r}, (rs ++ [n])[k]? = some r → (k < rs.length ∧ rs[k]? = some r) ∨ (k = rs.length ∧ r = n) := fun {k r} hk => by
    by_cases g : k < rs.length
    · rw [List.getElem?_append_left g] at hk; exact .inl ⟨g, hk⟩
    · have := (List.getElem?_eq_some_iff.1 hk).1
      simp at this
      obtain rfl : k = rs.length := by omega
      simp at hk
      exact .inr ⟨rfl, hk.symm⟩
  refine ⟨⟨?_, fun k r hk hr => ?_, fun i j r s hi hj hr hs e => ?_⟩, ?_⟩
  · obtain ⟨e, he⟩ := h.pre
    exact ⟨e ++ [n], by rw [he, List.append_assoc]⟩
  · rcases old hr with ⟨_, g⟩ | ⟨_, rfl⟩
    · exact h.new k r hk g
    · exact h0
  · rcases old hr with ⟨g1, g2⟩ | ⟨rfl, rfl⟩ <;> rcases old hs with ⟨g3, g4⟩ | ⟨rfl, rfl⟩
    · exact h.inj i j r s hi hj g2 g4 e
    · exact absurd e (fstC_none hn r (List.mem_of_getElem? g2))
    · exact absurd e.symm (fstC_none hn s (List.mem_of_getElem? g4))
    · rfl
  · unfold nmOf resN
    rw [if_neg (by omega), h0]
    simp
end grown

/-- The children of a node. -/
def kidL (rs0 : List Rn) (k : Nat) : Nat := match rs0[k]? with
  | some r => r.l.toNat
  | none => 0
def kidR (rs0 : List Rn) (k : Nat) : Nat := match rs0[k]? with
  | some r => r.r.toNat
  | none => 0
/-- The terms that can be left of a node, behind one byte or more. -/
def uni (rs0 : List Rn) : Re → Nat → List (List Nm)
  | .blank, _ => []
  | .set _, _ => [[]]
  | .seq a b, k => (uni rs0 a (kidL rs0 k)).map (· ++ [Nm.o (kidR rs0 k)]) ++ uni rs0 b (kidR rs0 k)
  | .alt a b, k => uni rs0 a (kidL rs0 k) ++ uni rs0 b (kidR rs0 k)
  | .star a, k => (uni rs0 a (kidL rs0 k)).map (· ++ [Nm.o k])
  | .plus a, k => (uni rs0 a (kidL rs0 k)).map (· ++ [resN rs0 (.x 5 (kidL rs0 k : Nat) 0 0)])
  | .opt a, k => uni rs0 a (kidL rs0 k)
  | .times m n a, k => if m ≤ n then (List.range n).flatMap (fun j => (uni rs0 a (kidL rs0 k)).map (· ++ [resN rs0 (.x 8 (kidL rs0 k : Nat) ((m - (j + 1) : Nat) : Int) ((n - (j + 1) : Nat) : Int))])) else []
theorem flatMap_len {α β : Type} (f : α → List β) (c : Nat) : ∀ l : List α, (∀ a ∈ l, (f a).length = c) → (l.flatMap f).length = l.length * c
  | [], _ => by simp
  | a :: l, h => by
    rw [List.flatMap_cons, List.length_append, h a (by simp), flatMap_len f c l fun x hx => h x (by simp [hx]), List.length_cons, Nat.add_mul]
    omega
theorem uni_len (rs0 : List Rn) : ∀ (R : Re) (k : Nat), ((uni rs0 R k).length : Int) ≤ R.wt
  | .blank, k => by simp [uni, Re.wt]
  | .set f, k => by simp [uni, Re.wt]
  | .seq a b, k => by
    have h1 := uni_len rs0 a (kidL rs0 k)
    have h2 := uni_len rs0 b (kidR rs0 k)
    simp only [uni, Re.wt, List.length_append, List.length_map]
    omega
  | .alt a b, k => by
    have h1 := uni_len rs0 a (kidL rs0 k)
    have h2 := uni_len rs0 b (kidR rs0 k)
    simp only [uni, Re.wt, List.length_append]
    omega
  | .star a, k => by
    have h1 := uni_len rs0 a (kidL rs0 k)
    simp only [uni, Re.wt, List.length_map]; exact h1
  | .plus a, k => by
    have h1 := uni_len rs0 a (kidL rs0 k)
    simp only [uni, Re.wt, List.length_map]; exact h1
  | .opt a, k => uni_len rs0 a (kidL rs0 k)
  | .times m n a, k => by
    have h1 := uni_len rs0 a (kidL rs0 k)
    have h2 := Re.wt_pos (.times m n a)
    simp only [uni]
    split
    · rw [flatMap_len _ (uni rs0 a (kidL rs0 k)).length _ (fun j _ => by rw [List.length_map]), List.length_range]
      have h3 : ((n * (uni rs0 a (kidL rs0 k)).length : Nat) : Int) ≤ a.wt * (n : Int) := by
        rw [Int.natCast_mul, Int.mul_comm]
        exact Int.mul_le_mul_of_nonneg_right h1 (by omega)
      have h4 : a.wt * (n : Int) ≤ (Re.times m n a).wt := by
        show _ ≤ max1 _
        unfold max1
        split <;> omega
      omega
    · simp only [List.length_nil]; omega
/-- What can be left of a named node behind one byte. -/
inductive Der1 (rs0 : List Rn) : Nm → List Nm → Prop
  | orig {R : Re} {k : Nat} {σ : List Nm} (h : Dr rs0 R (k : Int)) (hσ : σ ∈ uni rs0 R k) : Der1 rs0 (.o k) σ
  | star {a : Re} {l : Nat} {σ : List Nm} (h : Dr rs0 a (l : Int)) (hσ : σ ∈ uni rs0 a l) : Der1 rs0 (.x 5 (l : Int) 0 0) (σ ++ [.x 5 (l : Int) 0 0])
  | times {a : Re} {l m n : Nat} {σ : List Nm} (h : Dr rs0 a (l : Int)) (hσ : σ ∈ uni rs0 a l) (hn : 1 ≤ n) (hm : m ≤ n) : Der1 rs0 (.x 8 (l : Int) (m : Int) (n : Int)) (σ ++ [resN rs0 (.x 8 (l : Int) ((m - 1 : Nat) : Int) ((n - 1 : Nat) : Int))])
def Closed (rs0 : List Rn) (U : List (List Nm)) : Prop := ∀ τ ∈ U, ∀ α x β σ, τ = α ++ x :: β → Der1 rs0 x σ → σ ++ β ∈ U
/-- A term with a part behind it: the step is in the term, or at the part. -/
theorem split_last {α β σ0 : List Nm} {x y : Nm} (h : σ0 ++ [y] = α ++ x :: β) : (x = y ∧ α = σ0 ∧ β = []) ∨ ∃ β', β = β' ++ [y] ∧ σ0 = α ++ x :: β' := by
  rcases List.eq_nil_or_concat β with rfl | ⟨β', z, rfl⟩
  · have := List.append_inj' h (by simp)
    simp at this
    exact .inl ⟨this.2.symm, this.1.symm, rfl⟩
  · right
    rw [List.concat_eq_append] at h ⊢
    have h' : σ0 ++ [y] = (α ++ x :: β') ++ [z] := by rw [h]; simp
    have := List.append_inj' h' (by simp)
    simp at this
    exact ⟨β', by rw [this.2], this.1⟩
theorem closed_map {rs0 : List Rn} {A : List (List Nm)} {y : Nm} {U : List (List Nm)} (hA : Closed rs0 A) (hsub : ∀ σ ∈ A, σ ++ [y] ∈ U) (hy : ∀ σ, Der1 rs0 y σ → σ ∈ U) : ∀ τ ∈ A.map (· ++ [y]), ∀ α x β σ, τ = α ++ x :: β → Der1 rs0 x σ → σ ++ β ∈ U := by
  intro τ hτ α x β σ e hd
  obtain ⟨σ0, h0, rfl⟩ := List.mem_map.1 hτ
  rcases split_last e with ⟨rfl, rfl, rfl⟩ | ⟨β', rfl, e'⟩
  · rw [List.append_nil]; exact hy σ hd
  · rw [← List.append_assoc]
    exact hsub _ (hA σ0 h0 α x β' σ e' hd)

theorem kidL_of {rs0 : List Rn} {k : Nat} {r : Rn} (h : rs0[k]? = some r) : kidL rs0 k = r.l.toNat := by unfold kidL; rw [h]
theorem kidR_of {rs0 : List Rn} {k : Nat} {r : Rn} (h : rs0[k]? = some r) : kidR rs0 k = r.r.toNat := by unfold kidR; rw [h]
theorem Dr.nonneg {rs : List Rn} : ∀ {R : Re} {k : Int}, Dr rs R k → 0 ≤ k
  | .blank, _, ⟨_, h, _⟩ => h
  | .set _, _, ⟨_, h, _⟩ => h
  | .seq _ _, _, ⟨_, h, _⟩ => h
  | .alt _ _, _, ⟨_, h, _⟩ => h
  | .star _, _, ⟨_, h, _⟩ => h
  | .plus _, _, ⟨_, h, _⟩ => h
  | .opt _, _, ⟨_, h, _⟩ => h
  | .times _ _ _, _, ⟨_, h, _⟩ => h
theorem Dr.kid {rs : List Rn} {R : Re} {k : Int} (h : Dr rs R k) : Dr rs R ((k.toNat : Nat) : Int) := by rw [Int.toNat_of_nonneg h.nonneg]; exact h
theorem toNat_cast {k : Int} (h : 0 ≤ k) : ((k.toNat : Nat) : Int) = k := Int.toNat_of_nonneg h

/-- A node that says what is sought means what is sought. -/
theorem res_star {rs0 : List Rn} {a : Re} {l : Nat} (ha : Dr rs0 a (l : Int)) {σ : List Nm} (hd : Der1 rs0 (resN rs0 (.x 5 (l : Int) 0 0)) σ) : ∃ σ0 ∈ uni rs0 a l, σ = σ0 ++ [resN rs0 (.x 5 (l : Int) 0 0)] := by
  cases hc : fstC (.x 5 (l : Int) 0 0) rs0 with
  | some i =>
    have hr : resN rs0 (.x 5 (l : Int) 0 0) = .o i := by unfold resN; rw [hc]
    rw [hr] at hd ⊢
    obtain ⟨r, h1, h2⟩ := fstC_some hc
    simp only [ctOf, Nm.x.injEq] at h2
    obtain ⟨e1, e2, _, _⟩ := h2
    cases hd with
    | orig h hσ =>
      rename_i R
      obtain ⟨r', g1, g2⟩ := h.kind
      rw [Int.toNat_natCast, h1] at g1
      cases g1
      rw [e1] at g2
      cases R <;> simp [kindR] at g2
      rename_i a'
      obtain ⟨r', _, g3, _, g4⟩ := h
      rw [Int.toNat_natCast, h1] at g3
      cases g3
      rw [e2] at g4
      obtain rfl := Dr.same g4 ha
      simp only [uni, kidL_of h1, e2, Int.toNat_natCast] at hσ
      obtain ⟨σ0, q1, rfl⟩ := List.mem_map.1 hσ
      exact ⟨σ0, q1, rfl⟩
  | none =>
    have hr : resN rs0 (.x 5 (l : Int) 0 0) = .x 5 (l : Int) 0 0 := by unfold resN; rw [hc]
    rw [hr] at hd ⊢
    generalize he : Nm.x 5 (l : Int) 0 0 = y at hd ⊢
    cases hd with
    | orig h hσ => cases he
    | star h hσ =>
      simp only [Nm.x.injEq, true_and, and_true] at he
      obtain rfl := Int.ofNat.inj he
      obtain rfl := Dr.same h ha
      exact ⟨_, hσ, rfl⟩
    | times h hσ hn hm => simp at he
theorem res_times {rs0 : List Rn} {a : Re} {l m n : Nat} (ha : Dr rs0 a (l : Int)) {σ : List Nm} (hd : Der1 rs0 (resN rs0 (.x 8 (l : Int) (m : Int) (n : Int))) σ) : m ≤ n ∧ ∃ j, j < n ∧ ∃ σ0 ∈ uni rs0 a l, σ = σ0 ++ [resN rs0 (.x 8 (l : Int) ((m - (j + 1) : Nat) : Int) ((n - (j + 1) : Nat) : Int))] := by
  cases hc : fstC (.x 8 (l : Int) (m : Int) (n : Int)) rs0 with
  | some i =>
    have hr : resN rs0 (.x 8 (l : Int) (m : Int) (n : Int)) = .o i := by unfold resN; rw [hc]
    rw [hr] at hd
    obtain ⟨r, h1, h2⟩ := fstC_some hc
    simp only [ctOf, Nm.x.injEq] at h2
    obtain ⟨e1, e2, e3, e4⟩ := h2
    cases hd with
    | orig h hσ =>
      rename_i R
      obtain ⟨r', g1, g2⟩ := h.kind
      rw [Int.toNat_natCast, h1] at g1
      cases g1
      rw [e1] at g2
      cases R <;> simp [kindR] at g2
      rename_i m' n' a'
      obtain ⟨r', _, g3, _, g5, g6, _, _, g4⟩ := h
      rw [Int.toNat_natCast, h1] at g3
      cases g3
      rw [e2] at g4
      rw [e3] at g5
      rw [e4] at g6
      obtain rfl : m = m' := by omega
      obtain rfl : n = n' := by omega
      obtain rfl := Dr.same g4 ha
      simp only [uni, kidL_of h1, e2, Int.toNat_natCast] at hσ
      split at hσ
      · next hmn =>
        obtain ⟨j, q1, q2⟩ := List.mem_flatMap.1 hσ
        obtain ⟨σ0, q3, rfl⟩ := List.mem_map.1 q2
        exact ⟨hmn, j, List.mem_range.1 q1, σ0, q3, rfl⟩
      · cases hσ
  | none =>
    have hr : resN rs0 (.x 8 (l : Int) (m : Int) (n : Int)) = .x 8 (l : Int) (m : Int) (n : Int) := by unfold resN; rw [hc]
    rw [hr] at hd
    generalize he : Nm.x 8 (l : Int) (m : Int) (n : Int) = y at hd
    cases hd with
    | orig h hσ => cases he
    | star h hσ => simp at he
    | times h hσ hn hm =>
      simp only [Nm.x.injEq, true_and] at he
      obtain ⟨q1, q2, q3⟩ := he
      obtain rfl := Int.ofNat.inj q1
      obtain rfl := Int.ofNat.inj q2
      obtain rfl := Int.ofNat.inj q3
      obtain rfl := Dr.same h ha
      exact ⟨hm, 0, by omega, _, hσ, rfl⟩

theorem uni_closed (rs0 : List Rn) : ∀ (R : Re) (k : Nat), Dr rs0 R (k : Int) → Closed rs0 (uni rs0 R k)
  | .blank, k, _ => fun τ hτ => by cases hτ
  | .set f, k, _ => fun τ hτ α x β σ e _ => by
    simp only [uni, List.mem_singleton] at hτ
    subst hτ
    simp at e
  | .seq a b, k, h => by
    obtain ⟨r, _, h1, _, ha, hb⟩ := h
    rw [Int.toNat_natCast] at h1
    have ka := ha.kid
    have kb := hb.kid
    rw [← kidL_of h1] at ka
    rw [← kidR_of h1] at kb
    intro τ hτ α x β σ e hd
    simp only [uni] at hτ ⊢
    rcases List.mem_append.1 hτ with hτ | hτ
    · refine closed_map (uni_closed rs0 a _ ka) (U := (uni rs0 a (kidL rs0 k)).map (· ++ [Nm.o (kidR rs0 k)]) ++ uni rs0 b (kidR rs0 k)) (fun σ hσ => List.mem_append_left _ (List.mem_map.2 ⟨σ, hσ, rfl⟩)) (fun σ hd => ?_) τ hτ α x β σ e hd
      cases hd with
      | orig h' hσ =>
        obtain rfl := Dr.same h' kb
        exact List.mem_append_right _ hσ
    · exact List.mem_append_right _ (uni_closed rs0 b _ kb τ hτ α x β σ e hd)
  | .alt a b, k, h => by
    obtain ⟨r, _, h1, _, ha, hb⟩ := h
    rw [Int.toNat_natCast] at h1
    have ka := ha.kid
    have kb := hb.kid
    rw [← kidL_of h1] at ka
    rw [← kidR_of h1] at kb
    intro τ hτ α x β σ e hd
    simp only [uni] at hτ ⊢
    rcases List.mem_append.1 hτ with hτ | hτ
    · exact List.mem_append_left _ (uni_closed rs0 a _ ka τ hτ α x β σ e hd)
    · exact List.mem_append_right _ (uni_closed rs0 b _ kb τ hτ α x β σ e hd)
  | .star a, k, h => by
    have h0 := h
    obtain ⟨r, _, h1, _, ha⟩ := h
    rw [Int.toNat_natCast] at h1
    have ka := ha.kid
    rw [← kidL_of h1] at ka
    intro τ hτ α x β σ e hd
    simp only [uni] at hτ ⊢
    refine closed_map (uni_closed rs0 a _ ka) (U := (uni rs0 a (kidL rs0 k)).map (· ++ [Nm.o k])) (fun σ hσ => List.mem_map.2 ⟨σ, hσ, rfl⟩) (fun σ hd => ?_) τ hτ α x β σ e hd
    cases hd with
    | orig h' hσ =>
      obtain rfl := Dr.same h' h0
      exact hσ
  | .plus a, k, h => by
    obtain ⟨r, _, h1, _, ha⟩ := h
    rw [Int.toNat_natCast] at h1
    have ka := ha.kid
    rw [← kidL_of h1] at ka
    intro τ hτ α x β σ e hd
    simp only [uni] at hτ ⊢
    refine closed_map (uni_closed rs0 a _ ka) (U := (uni rs0 a (kidL rs0 k)).map (· ++ [resN rs0 (.x 5 (kidL rs0 k : Nat) 0 0)])) (fun σ hσ => List.mem_map.2 ⟨σ, hσ, rfl⟩) (fun σ hd => ?_) τ hτ α x β σ e hd
    obtain ⟨σ0, q1, rfl⟩ := res_star ka hd
    exact List.mem_map.2 ⟨σ0, q1, rfl⟩
  | .opt a, k, h => by
    obtain ⟨r, _, h1, _, ha⟩ := h
    rw [Int.toNat_natCast] at h1
    have ka := ha.kid
    rw [← kidL_of h1] at ka
    exact uni_closed rs0 a _ ka
  | .times m n a, k, h => by
    obtain ⟨r, _, h1, _, _, _, _, _, ha⟩ := h
    rw [Int.toNat_natCast] at h1
    have ka := ha.kid
    rw [← kidL_of h1] at ka
    intro τ hτ α x β σ e hd
    simp only [uni] at hτ ⊢
    split at hτ
    · next hmn =>
      rw [if_pos hmn]
      obtain ⟨j, hj, hτ⟩ := List.mem_flatMap.1 hτ
      have hj' := List.mem_range.1 hj
      refine closed_map (uni_closed rs0 a _ ka) (U := (List.range n).flatMap (fun j => (uni rs0 a (kidL rs0 k)).map (· ++ [resN rs0 (.x 8 (kidL rs0 k : Nat) ((m - (j + 1) : Nat) : Int) ((n - (j + 1) : Nat) : Int))]))) (fun σ hσ => List.mem_flatMap.2 ⟨j, hj, List.mem_map.2 ⟨σ, hσ, rfl⟩⟩) (fun σ hd => ?_) τ hτ α x β σ e hd
      obtain ⟨_, j', q1, σ0, q2, rfl⟩ := res_times ka hd
      refine List.mem_flatMap.2 ⟨j + 1 + j', List.mem_range.2 (by omega), List.mem_map.2 ⟨σ0, q2, ?_⟩⟩
      have e1 : m - (j + 1 + j' + 1) = m - (j + 1) - (j' + 1) := by omega
      have e2 : n - (j + 1 + j' + 1) = n - (j + 1) - (j' + 1) := by omega
      show σ0 ++ [_] = σ0 ++ [_]
      rw [e1, e2]
    · cases hτ

end Go.Proofs.YtfooclcjehpcfaaGreat
namespace Go.Proofs.YtfooclcjehpcfaaGreat

def lessS (a b : ByteArray) : Bool := Op.bytesLess a.toList b.toList
theorem bl_irrefl : ∀ l : List UInt8, Op.bytesLess l l = false
  | [] => rfl
  | a :: l => by simp [Op.bytesLess, bl_irrefl l]
theorem bl_trans : ∀ {a b c : List UInt8}, Op.bytesLess a b = true → Op.bytesLess b c = true → Op.bytesLess a c = true
  | _, [], _, h, _ => by simp [Op.bytesLess] at h
  | _, _ :: _, [], _, h => by simp [Op.bytesLess] at h
  | [], _ :: _, _ :: _, _, _ => rfl
  | x :: a, y :: b, z :: c, h1, h2 => by
    simp only [Op.bytesLess, Bool.or_eq_true, Bool.and_eq_true, decide_eq_true_eq, beq_iff_eq] at h1 h2 ⊢
    rcases h1 with h1 | ⟨rfl, h1⟩
    · rcases h2 with h2 | ⟨rfl, h2⟩
      · exact .inl (UInt8.lt_trans h1 h2)
      · exact .inl h1
    · rcases h2 with h2 | ⟨rfl, h2⟩
      · exact .inl h2
      · exact .inr ⟨rfl, bl_trans h1 h2⟩
theorem bl_total : ∀ {a b : List UInt8}, a ≠ b → Op.bytesLess a b = false → Op.bytesLess b a = true
  | [], [], h, _ => absurd rfl h
  | [], _ :: _, _, h => by simp [Op.bytesLess] at h
  | _ :: _, [], _, _ => rfl
  | x :: a, y :: b, hne, h => by
    simp only [Op.bytesLess, Bool.or_eq_false_iff, Bool.and_eq_false_iff, decide_eq_false_iff_not, Bool.or_eq_true, Bool.and_eq_true, decide_eq_true_eq, beq_iff_eq, beq_eq_false_iff_ne] at h ⊢
    by_cases e : x = y
    · subst e
      right
      refine ⟨rfl, bl_total (fun e => hne (by rw [e])) ?_⟩
      rcases h.2 with g | g
      · exact absurd rfl g
      · exact g
    · left
      rcases Nat.lt_trichotomy x.toNat y.toNat with g | g | g
      · exact absurd (UInt8.lt_iff_toNat_lt.2 g) h.1
      · exact absurd (UInt8.toNat_inj.1 g) e
      · exact UInt8.lt_iff_toNat_lt.2 g
theorem ba_ext {a b : ByteArray} (h : a.toList = b.toList) : a = b := by
  rw [ByteArray.toList_eq, ByteArray.toList_eq] at h
  cases a with | mk a => cases b with | mk b => simpa using h
theorem lessS_irrefl (a : ByteArray) : lessS a a = false := bl_irrefl _
theorem lessS_trans {a b c : ByteArray} (h : lessS a b = true) (k : lessS b c = true) : lessS a c = true := bl_trans h k
theorem lessS_total {a b : ByteArray} (hne : a ≠ b) (h : lessS a b = false) : lessS b a = true := bl_total (fun e => hne (ba_ext e)) h
/-- A set: sorted, each once. -/
def SrtS (X : List ByteArray) : Prop := X.Pairwise (fun a b => lessS a b = true)
theorem SrtS.ext : ∀ {X Y : List ByteArray}, SrtS X → SrtS Y → (∀ s, s ∈ X ↔ s ∈ Y) → X = Y
  | [], [], _, _, _ => rfl
  | [], b :: Y, _, _, h => absurd ((h b).2 (by simp)) (by simp)
  | a :: X, [], _, _, h => absurd ((h a).1 (by simp)) (by simp)
  | a :: X, b :: Y, hX, hY, h => by
    obtain ⟨x1, x2⟩ := List.pairwise_cons.1 hX
    obtain ⟨y1, y2⟩ := List.pairwise_cons.1 hY
    have hab : a = b := by
      refine Classical.byContradiction fun hne => ?_
      have h1 : a ∈ Y := ((List.mem_cons.1 ((h a).1 (by simp))).resolve_left hne)
      have h2 : b ∈ X := ((List.mem_cons.1 ((h b).2 (by simp))).resolve_left fun e => hne e.symm)
      have g := lessS_trans (x1 b h2) (y1 a h1)
      rw [lessS_irrefl] at g; cases g
    subst hab
    have hn : ∀ {Z : List ByteArray}, (∀ s ∈ Z, lessS a s = true) → a ∉ Z := fun {Z} hz ha => by
      have := hz a ha
      rw [lessS_irrefl] at this; cases this
    rw [SrtS.ext x2 y2 fun s => ?_]
    constructor
    · intro hs
      rcases List.mem_cons.1 ((h s).1 (by simp [hs])) with rfl | g
      · exact absurd hs (hn x1)
      · exact g
    · intro hs
      rcases List.mem_cons.1 ((h s).2 (by simp [hs])) with rfl | g
      · exact absurd hs (hn y1)
      · exact g
/-- The term joins the set. -/
def lowS (s : ByteArray) : List ByteArray → List ByteArray
  | [] => []
  | a :: l => if lessS a s = true then a :: lowS s l else []
def highS (s : ByteArray) : List ByteArray → List ByteArray
  | [] => []
  | a :: l => if lessS a s = true then highS s l else a :: l
theorem low_high (s : ByteArray) : ∀ l, lowS s l ++ highS s l = l
  | [] => rfl
  | a :: l => by
    rw [lowS, highS]
    split
    · rw [List.cons_append, low_high s l]
    · rfl
def insS (l : List ByteArray) (s : ByteArray) : List ByteArray := lowS s l ++ [s] ++ (highS s l).filter (fun x => decide (x ≠ s))
theorem low_lt (s : ByteArray) : ∀ l, ∀ a ∈ lowS s l, lessS a s = true
  | [], a, h => by cases h
  | b :: l, a, h => by
    rw [lowS] at h
    split at h
    · next hb =>
      rcases List.mem_cons.1 h with rfl | h
      · exact hb
      · exact low_lt s l a h
    · cases h
theorem high_ge (s : ByteArray) : ∀ {l}, SrtS l → ∀ a ∈ highS s l, a ≠ s → lessS s a = true
  | [], _, a, h, _ => by cases h
  | b :: l, hs, a, h, hne => by
    obtain ⟨x1, x2⟩ := List.pairwise_cons.1 hs
    rw [highS] at h
    split at h
    · exact high_ge s x2 a h hne
    · next hb =>
      have hbf : lessS b s = false := by simpa using hb
      rcases List.mem_cons.1 h with rfl | h
      · exact lessS_total hne hbf
      · by_cases e : b = s
        · subst e; exact x1 a h
        · exact lessS_trans (lessS_total e hbf) (x1 a h)
theorem insS_mem (l : List ByteArray) (s x : ByteArray) : x ∈ insS l s ↔ x = s ∨ x ∈ l := by
  have h := low_high s l
  unfold insS
  conv => rhs; rw [← h]
  simp only [List.mem_append, List.mem_singleton, List.mem_filter, decide_eq_true_eq]
  constructor
  · rintro ((g | g) | ⟨g, _⟩)
    · exact .inr (.inl g)
    · exact .inl g
    · exact .inr (.inr g)
  · rintro (g | g | g)
    · exact .inl (.inr g)
    · exact .inl (.inl g)
    · by_cases e : x = s
      · exact .inl (.inr e)
      · exact .inr ⟨g, e⟩
theorem insS_srt {l : List ByteArray} (h : SrtS l) (s : ByteArray) : SrtS (insS l s) := by
  have hl := low_high s l
  have h1 : SrtS (lowS s l ++ highS s l) := by rw [hl]; exact h
  obtain ⟨a1, a2, a3⟩ := List.pairwise_append.1 h1
  unfold SrtS insS
  rw [List.append_assoc]
  refine List.pairwise_append.2 ⟨a1, List.pairwise_append.2 ⟨List.pairwise_singleton _ _, a2.filter _, fun x hx y hy => ?_⟩, fun x hx y hy => ?_⟩
  · simp only [List.mem_singleton] at hx
    subst hx
    simp only [List.mem_filter, decide_eq_true_eq] at hy
    exact high_ge x h y hy.1 hy.2
  · rcases List.mem_append.1 hy with hy | hy
    · simp only [List.mem_singleton] at hy
      subst hy
      exact low_lt y l x hx
    · exact a3 x hx y (List.mem_filter.1 hy).1

/-- Strings of nodes by names. -/
def nmS (rs0 rs : List Rn) (s : ByteArray) : List Nm := (bytesN s).map (nmOf rs0 rs)
def InT (rs0 rs : List Rn) (U : List (List Nm)) (s : ByteArray) : Prop := (∀ k ∈ bytesN s, k < rs.length) ∧ nmS rs0 rs s ∈ U
def InU (rs0 rs : List Rn) (U : List (List Nm)) (X : List ByteArray) : Prop := ∀ s ∈ X, InT rs0 rs U s
theorem zbytes_inj {a b : ByteArray} (h : bytesN a = bytesN b) : a = b := by
  unfold bytesN at h
  have h2 : a.data.toList = b.data.toList := by
    have : ∀ {l m : List UInt8}, l.map (fun b => b.toNat) = m.map (fun b => b.toNat) → l = m := by
      intro l
      induction l with
      | nil => intro m h; cases m <;> simp at h ⊢
      | cons x l ih =>
        intro m h
        cases m with
        | nil => simp at h
        | cons y m =>
          simp only [List.map_cons, List.cons.injEq] at h
          rw [UInt8.toNat_inj.1 h.1, ih h.2]
    exact this h
  cases a with | mk a => cases b with | mk b => simpa using h2
theorem map_inj_on {f : Nat → Nm} {P : Nat → Prop} (hf : ∀ i j, P i → P j → f i = f j → i = j) : ∀ {l m : List Nat}, (∀ k ∈ l, P k) → (∀ k ∈ m, P k) → l.map f = m.map f → l = m
  | [], [], _, _, _ => rfl
  | [], _ :: _, _, _, h => by simp at h
  | _ :: _, [], _, _, h => by simp at h
  | a :: l, b :: m, hl, hm, h => by
    simp only [List.map_cons, List.cons.injEq] at h
    rw [hf a b (hl a (by simp)) (hm b (by simp)) h.1, map_inj_on hf (fun k hk => hl k (by simp [hk])) (fun k hk => hm k (by simp [hk])) h.2]
theorem nmS_inj {rs0 rs : List Rn} (h : GrownT rs0 rs) {U : List (List Nm)} {a b : ByteArray} (ha : InT rs0 rs U a) (hb : InT rs0 rs U b) (e : nmS rs0 rs a = nmS rs0 rs b) : a = b :=
  zbytes_inj (map_inj_on (P := fun k => k < rs.length) (fun _ _ hi hj e => h.nm_inj hi hj e) ha.1 hb.1 e)
/-- A set as a number. -/
def maskU (f : List Nm → Bool) : List (List Nm) → Nat
  | [] => 0
  | u :: U => (if f u = true then 1 else 0) + 2 * maskU f U
theorem maskU_lt (f : List Nm → Bool) : ∀ U, maskU f U < 2 ^ U.length
  | [] => by simp [maskU]
  | u :: U => by
    have := maskU_lt f U
    rw [maskU, List.length_cons, Nat.pow_succ]
    split <;> omega
theorem maskU_eq {f g : List Nm → Bool} : ∀ {U}, maskU f U = maskU g U → ∀ u ∈ U, (f u = true ↔ g u = true)
  | u0 :: U, h, u, hu => by
    rw [maskU, maskU] at h
    have key : (f u0 = true ↔ g u0 = true) ∧ maskU f U = maskU g U := by
      split at h <;> split at h
      · next h1 h2 => exact ⟨⟨fun _ => h2, fun _ => h1⟩, by omega⟩
      · omega
      · omega
      · next h1 h2 => exact ⟨⟨fun h => absurd h h1, fun h => absurd h h2⟩, by omega⟩
    rcases List.mem_cons.1 hu with rfl | hu
    · exact key.1
    · exact maskU_eq key.2 u hu
def memU (rs0 rs : List Rn) (X : List ByteArray) (u : List Nm) : Bool := X.any (fun s => decide (nmS rs0 rs s = u))
theorem memU_iff (rs0 rs : List Rn) (X : List ByteArray) (u : List Nm) : memU rs0 rs X u = true ↔ ∃ s ∈ X, nmS rs0 rs s = u := by
  unfold memU
  rw [List.any_eq_true]
  simp only [decide_eq_true_eq]
theorem mask_inj {rs0 rs : List Rn} (h : GrownT rs0 rs) {U : List (List Nm)} {X Y : List ByteArray} (hX : InU rs0 rs U X) (hY : InU rs0 rs U Y) (sX : SrtS X) (sY : SrtS Y) (e : maskU (memU rs0 rs X) U = maskU (memU rs0 rs Y) U) : X = Y := by
  have key : ∀ u ∈ U, ((∃ s ∈ X, nmS rs0 rs s = u) ↔ ∃ s ∈ Y, nmS rs0 rs s = u) := fun u hu => by
    have := maskU_eq e u hu
    rwa [memU_iff, memU_iff] at this
  refine SrtS.ext sX sY fun s => ?_
  constructor
  · intro hs
    obtain ⟨t, ht, et⟩ := (key _ (hX s hs).2).1 ⟨s, hs, rfl⟩
    rw [← nmS_inj h (hY t ht) (hX s hs) et]; exact ht
  · intro hs
    obtain ⟨t, ht, et⟩ := (key _ (hY s hs).2).2 ⟨s, hs, rfl⟩
    rw [← nmS_inj h (hX t ht) (hY s hs) et]; exact ht
theorem InT.grow {rs0 rs : List Rn} {U : List (List Nm)} {s : ByteArray} (h : InT rs0 rs U s) (x : List Rn) : InT rs0 (rs ++ x) U s := by
  refine ⟨fun k hk => by have := h.1 k hk; simp; omega, ?_⟩
  have : nmS rs0 (rs ++ x) s = nmS rs0 rs s := List.map_congr_left fun k hk => nmOf_app (h.1 k hk) x
  rw [this]; exact h.2

end Go.Proofs.YtfooclcjehpcfaaGreat
namespace Go.Proofs.YtfooclcjehpcfaaGreat

/-- How many nodes may be put because of this one. -/
def extraR (r : Rn) : Nat := if r.kind = 6 then 1 else if r.kind = 8 then r.n.toNat else 0
def phiR : List Rn → Nat
  | [] => 0
  | r :: rs => 1 + extraR r + phiR rs
theorem phiR_app : ∀ (a b : List Rn), phiR (a ++ b) = phiR a + phiR b
  | [], b => by simp [phiR]
  | r :: a, b => by rw [List.cons_append, phiR, phiR, phiR_app a b]; omega
theorem phiR_one (rs : List Rn) (r : Rn) : phiR (rs ++ [r]) = phiR rs + (1 + extraR r) := by rw [phiR_app]; simp [phiR]
theorem ext_size (p : ByteArray) (a b : Nat) : (p.extract a b).size = min b p.size - a := by
  rw [ByteArray.size_extract]
theorem leafS_facts {p : ByteArray} {r : Rn} (h : leafS p = some r) : 0 < p.size ∧ extraR r = 0 := by
  unfold leafS at h
  split at h
  · next hp =>
    refine ⟨hp, ?_⟩
    split at h
    · cases h; rfl
    · split at h
      · split at h
        · split at h
          · rw [Option.bind_eq_some_iff] at h
            obtain ⟨f, _, h⟩ := h
            cases h; rfl
          · rw [Option.bind_eq_some_iff] at h
            obtain ⟨f, _, h⟩ := h
            cases h; rfl
        · cases h
      · rw [Option.bind_eq_some_iff] at h
        obtain ⟨f, _, h⟩ := h
        cases h; rfl
  · cases h
def PhiOk (tag : Nat) (p : ByteArray) (a : Nat) (rs rs' : List Rn) : Prop :=
  match tag with
  | 0 => phiR rs' ≤ phiR rs + 2 * p.size + 1
  | 1 => phiR rs' ≤ phiR rs + 2 * p.size + 1
  | 2 => (p.size = 0 → phiR rs' = phiR rs + 1) ∧ (1 ≤ p.size → phiR rs' + 1 ≤ phiR rs + 2 * p.size)
  | 3 => phiR rs' + 2 * a ≤ phiR rs + 2 * p.size
  | _ => 1 ≤ p.size ∧ phiR rs' + 1 ≤ phiR rs + 2 * p.size
theorem rfF_phi : ∀ (n tag : Nat) (p : ByteArray) (a : Nat) (l : Int) (rs : List Rn) (r : List Rn × Int), rfF n tag p a l rs = some r → PhiOk tag p a rs r.1 := by
  intro n
  induction n with
  | zero => intro tag p a l rs r h; simp [rfF] at h
  | succ n ih =>
    intro tag p a l rs r h
    match tag with
    | 0 =>
      simp only [rfF] at h
      exact ih 1 _ _ _ _ _ h
    | 1 =>
      simp only [rfF] at h
      split at h
      · rw [Option.bind_eq_some_iff] at h
        obtain ⟨j, _, h⟩ := h
        have g : phiR r.1 ≤ phiR rs + 2 * p.size + 1 := ih 1 p j 0 rs r h
        exact g
      · split at h
        · next hle =>
          rw [Option.bind_eq_some_iff] at h
          obtain ⟨x, hx, h⟩ := h
          obtain ⟨g1, g2⟩ := ih 2 _ _ _ _ _ hx
          rw [ext_size] at g1 g2
          split at h
          · simp only [Option.some.injEq] at h
            subst h
            show phiR _ ≤ _
            by_cases e : p.size = 0
            · have := g1 (by omega); omega
            · have := g2 (by omega); omega
          · next hne =>
            rw [Option.bind_eq_some_iff] at h
            obtain ⟨y, hy, h⟩ := h
            have g3 : phiR y.1 ≤ _ := ih 0 _ _ _ _ _ hy
            rw [ext_size] at g3
            simp only [Option.some.injEq] at h
            subst h
            show phiR (y.1 ++ [_]) ≤ _
            rw [phiR_one]
            have e0 : extraR ⟨4, x.2, y.2, 0, 0, noSet⟩ = 0 := rfl
            rw [e0]
            by_cases e : a = 0
            · have := g1 (by omega); omega
            · have := g2 (by omega); omega
        · cases h
    | 2 =>
      simp only [rfF] at h
      split at h
      · next h0 =>
        simp only [Option.some.injEq] at h
        subst h
        refine ⟨fun _ => ?_, fun h1 => by omega⟩
        show phiR (rs ++ [_]) = _
        rw [phiR_one]; rfl
      · next h0 =>
        rw [Option.bind_eq_some_iff] at h
        obtain ⟨j, _, h⟩ := h
        split at h
        · next hj =>
          rw [Option.bind_eq_some_iff] at h
          obtain ⟨x, hx, h⟩ := h
          obtain ⟨g1, g2⟩ := ih 4 _ _ _ _ _ hx
          rw [ext_size] at g1 g2
          have g3 : phiR r.1 + 2 * j ≤ _ := ih 3 _ _ _ _ _ h
          refine ⟨fun h1 => absurd h1 h0, fun _ => ?_⟩
          omega
        · cases h
    | 3 =>
      simp only [rfF] at h
      split at h
      · next hc =>
        have g : phiR r.1 + 2 * (a + 1) ≤ phiR (rs ++ [_]) + _ := ih 3 _ _ _ _ _ h
        rw [phiR_one] at g
        have e0 : extraR ⟨5, l, 0, 0, 0, noSet⟩ = 0 := rfl
        rw [e0] at g
        show _ + _ ≤ _
        omega
      · split at h
        · have g : phiR r.1 + 2 * (a + 1) ≤ phiR (rs ++ [_]) + _ := ih 3 _ _ _ _ _ h
          rw [phiR_one] at g
          have e0 : extraR ⟨6, l, 0, 0, 0, noSet⟩ = 1 := rfl
          rw [e0] at g
          show _ + _ ≤ _
          omega
        · split at h
          · have g : phiR r.1 + 2 * (a + 1) ≤ phiR (rs ++ [_]) + _ := ih 3 _ _ _ _ _ h
            rw [phiR_one] at g
            have e0 : extraR ⟨7, l, 0, 0, 0, noSet⟩ = 0 := rfl
            rw [e0] at g
            show _ + _ ≤ _
            omega
          · split at h
            · split at h
              · next hd =>
                have g : phiR r.1 + 2 * (a + 5) ≤ phiR (rs ++ [_]) + _ := ih 3 _ _ _ _ _ h
                rw [phiR_one] at g
                have e0 : extraR ⟨8, l, 0, byteAt p (a + 1) - 48, byteAt p (a + 3) - 48, noSet⟩ = (byteAt p (a + 3) - 48).toNat := rfl
                rw [e0] at g
                have d3 : 48 ≤ byteAt p (a + 3) ∧ byteAt p (a + 3) ≤ 57 := by simpa [decB] using hd.2.2
                show _ + _ ≤ _
                omega
              · cases h
            · split at h
              · next he =>
                simp only [Option.some.injEq] at h
                subst h
                show phiR rs + _ ≤ _
                omega
              · split at h
                · next hlt =>
                  rw [Option.bind_eq_some_iff] at h
                  obtain ⟨y, hy, h⟩ := h
                  obtain ⟨_, g2⟩ := ih 2 _ _ _ _ _ hy
                  rw [ext_size] at g2
                  simp only [Option.some.injEq] at h
                  subst h
                  show phiR (y.1 ++ [_]) + _ ≤ _
                  rw [phiR_one]
                  have e0 : extraR ⟨3, l, y.2, 0, 0, noSet⟩ = 0 := rfl
                  rw [e0]
                  have := g2 (by omega)
                  omega
                · cases h
    | t + 4 =>
      simp only [rfF] at h
      split at h
      · next hc =>
        split at h
        · next h1 =>
          have g : phiR r.1 ≤ _ := ih 0 _ _ _ _ _ h
          rw [ext_size] at g
          show _ ∧ _
          refine ⟨by omega, ?_⟩
          omega
        · cases h
      · rw [Option.bind_eq_some_iff] at h
        obtain ⟨x, hx, h⟩ := h
        obtain ⟨g1, g2⟩ := leafS_facts hx
        simp only [Option.some.injEq] at h
        subst h
        show _ ∧ phiR (rs ++ [x]) + 1 ≤ _
        rw [phiR_one, g2]
        exact ⟨by omega, by omega⟩
theorem tree_small {n : Nat} {p : ByteArray} {rs : List Rn} {k : Int} (h : rfF n 0 p 0 0 [] = some (rs, k)) (hp : p.size ≤ 60) : phiR rs ≤ 121 := by
  have g : phiR rs ≤ phiR [] + 2 * p.size + 1 := rfF_phi n 0 p 0 0 [] _ h
  simp only [phiR] at g
  omega

/-- What nodes that are put can say. -/
def ctsR (r : Rn) : List Nm := if r.kind = 6 then [.x 5 r.l 0 0] else if r.kind = 8 then (List.range r.n.toNat).map (fun j => Nm.x 8 r.l ((r.m.toNat - (j + 1) : Nat) : Int) ((r.n.toNat - (j + 1) : Nat) : Int)) else []
def ctsT (rs : List Rn) : List Nm := rs.flatMap ctsR
theorem ctsT_len : ∀ rs : List Rn, rs.length + (ctsT rs).length = phiR rs
  | [] => rfl
  | r :: rs => by
    have ih := ctsT_len rs
    have e : (ctsR r).length = extraR r := by
      unfold ctsR extraR
      split
      · rfl
      · split
        · simp
        · rfl
    unfold ctsT at ih ⊢
    rw [List.flatMap_cons, List.length_append, e, List.length_cons, phiR]
    omega
/-- The tree has grown by nodes that may be. -/
structure GrowT (rs0 rs : List Rn) : Prop where
  gr : GrownT rs0 rs
  may : ∀ k r, rs0.length ≤ k → rs[k]? = some r → ctOf r ∈ ctsT rs0
theorem mem_pos {α : Type} [DecidableEq α] {a : α} {l : List α} (h : a ∈ l) : ∃ i, i < l.length ∧ l[i]? = some a := by
  obtain ⟨i, hi, e⟩ := List.getElem_of_mem h
  exact ⟨i, hi, by rw [List.getElem?_eq_getElem hi, e]⟩
theorem GrowT.small {rs0 rs : List Rn} (h : GrowT rs0 rs) : rs.length ≤ phiR rs0 := by
  rw [← ctsT_len]
  refine Nat.le_of_not_lt fun hlt => ?_
  have hc : ∀ i, i ≤ (ctsT rs0).length → ∃ j r, rs[rs0.length + i]? = some r ∧ j < (ctsT rs0).length ∧ (ctsT rs0)[j]? = some (ctOf r) := fun i hi => by
    have hl : rs0.length + i < rs.length := by omega
    obtain ⟨j, h1, h2⟩ := mem_pos (h.may (rs0.length + i) _ (by omega) (List.getElem?_eq_getElem hl))
    exact ⟨j, _, List.getElem?_eq_getElem hl, h1, h2⟩
  obtain ⟨i, j, hij, hj, e⟩ := pigeon (ctsT rs0).length (fun i => if hi : i ≤ (ctsT rs0).length then Classical.choose (hc i hi) else 0) fun i hi => by
    simp only [dif_pos hi]
    obtain ⟨r, _, g, _⟩ := Classical.choose_spec (hc i hi)
    exact g
  simp only [dif_pos (show i ≤ (ctsT rs0).length by omega), dif_pos hj] at e
  obtain ⟨r, a1, a2, a3⟩ := Classical.choose_spec (hc i (by omega))
  obtain ⟨s, b1, b2, b3⟩ := Classical.choose_spec (hc j hj)
  rw [e, b3] at a3
  have := h.gr.inj _ _ r s (by omega) (by omega) a1 b1 (by simpa using a3.symm)
  omega
theorem GrowT.refl (rs : List Rn) : GrowT rs rs := ⟨GrownT.refl rs, fun k r h1 h2 => by rw [List.getElem?_eq_none h1] at h2; cases h2⟩
theorem GrowT.put {rs0 rs : List Rn} (h : GrowT rs0 rs) {n : Rn} (hn : fstC (ctOf n) rs = none) (hm : ctOf n ∈ ctsT rs0) : GrowT rs0 (rs ++ [n]) := ⟨(h.gr.put hn).1, fun k r hk hr => by
  rcases List.getElem?_append (l₁ := rs) (l₂ := [n]) (i := k) ▸ hr with g
  by_cases hl : k < rs.length
  · rw [if_pos hl] at g; exact h.may k r hk g
  · rw [if_neg hl] at g
    have : r = n := by
      have := (List.getElem?_eq_some_iff.1 g).1
      simp at this
      rw [this] at g
      simpa using g.symm
    rw [this]; exact hm⟩

end Go.Proofs.YtfooclcjehpcfaaGreat
namespace Go.Proofs.YtfooclcjehpcfaaGreat

/-- The same strings of bytes. -/
def EqB (A B : Lang) : Prop := ∀ w, bytesOk w → (A w ↔ B w)
theorem EqB.refl (A : Lang) : EqB A A := fun _ _ => Iff.rfl
theorem EqB.symm {A B : Lang} (h : EqB A B) : EqB B A := fun w hw => (h w hw).symm
theorem EqB.trans {A B C : Lang} (h : EqB A B) (k : EqB B C) : EqB A C := fun w hw => (h w hw).trans (k w hw)
theorem EqB.der {A B : Lang} (h : EqB A B) {c : Nat} (hc : c < 256) : EqB (derL c A) (derL c B) := fun w hw => h (c :: w) (bytesOk_cons hc hw)
def derS (u : List Nat) (A : Lang) : Lang := fun w => A (u ++ w)
theorem derS_snoc (u : List Nat) (c : Nat) (A : Lang) : derS (u ++ [c]) A = derL c (derS u A) := Lang.ext fun w => by
  show A (u ++ [c] ++ w) ↔ A (u ++ (c :: w))
  rw [List.append_assoc]; exact Iff.rfl

structure FoundI (M : Nat) (hb : List Nat) (L : Lang) (st : List Lang) (e : Nat) (nx : List Nat) : Prop where
  len : nx.length = e
  nodup : ∀ (i j : Nat) (A B : Lang), i < j → st[i]? = some A → st[j]? = some B → ¬ EqB A B
  edge : ∀ (k : Nat) (A : Lang), k < e → st[k / M]? = some A → ∃ B, st[nx.getD k 0]? = some B ∧ EqB B (derL (hb.getD (k % M) 0) A)
  met : ∀ j : Nat, 0 < j → j < st.length → ∃ k, k < e ∧ nx.getD k 0 = j ∧ k / M < j ∧ ∀ k', k' < k → nx.getD k' 0 < j
  first : ∃ A, st[0]? = some A ∧ EqB A L
  rows : e / M ≤ st.length
  reach : ∀ (i : Nat) (A : Lang), st[i]? = some A → ∃ u, bytesOk u ∧ EqB A (derS u L)
theorem get_snoc_old {α : Type} {l : List α} {x a : α} {k : Nat} (h : l[k]? = some a) : (l ++ [x])[k]? = some a := by
  rw [List.getElem?_append_left (List.getElem?_eq_some_iff.1 h).1]; exact h
theorem get_snoc {α : Type} {l : List α} {x a : α} {k : Nat} (h : (l ++ [x])[k]? = some a) : l[k]? = some a ∨ (k = l.length ∧ a = x) := by
  by_cases g : k < l.length
  · rw [List.getElem?_append_left g] at h; exact .inl h
  · have := (List.getElem?_eq_some_iff.1 h).1
    simp at this
    obtain rfl : k = l.length := by omega
    simp at h
    exact .inr ⟨rfl, h.symm⟩
theorem get_lt {α : Type} {l : List α} {a : α} {k : Nat} (h : l[k]? = some a) : k < l.length := (List.getElem?_eq_some_iff.1 h).1
section found
variable {M : Nat} {hb : List Nat} {L : Lang} {st : List Lang} {e : Nat} {nx : List Nat}
theorem FoundI.start (A : Lang) (h : EqB A L) : FoundI M hb L [A] 0 [] := by
  refine ⟨rfl, fun i j A' B hij _ hj => ?_, fun k A' hk => absurd hk (Nat.not_lt_zero _), fun j h0 hj => ?_, ⟨A, rfl, h⟩, by simp, fun i A' hi => ?_⟩
  · have := get_lt hj; simp at this; omega
  · simp at hj; omega
  · have := get_lt hi
    simp at this
    subst this
    simp at hi
    subst hi
    exact ⟨[], bytesOk_nil, h⟩
theorem div_succ_le {M e : Nat} (hM : 0 < M) : (e + 1) / M ≤ e / M + 1 := by
  rw [Nat.div_le_iff_le_mul_add_pred hM]
  have := Nat.div_add_mod e M
  have := Nat.mod_lt e hM
  rw [Nat.mul_add]; omega
theorem FoundI.to_lt (h : FoundI M hb L st e nx) {k : Nat} (hk : k < e) (hs : k / M < st.length) : nx.getD k 0 < st.length := by
  obtain ⟨B, h1, _⟩ := h.edge k _ hk (List.getElem?_eq_getElem hs)
  exact get_lt h1
theorem FoundI.old {j : Nat} {A B : Lang} (h : FoundI M hb L st e nx) (hM : 0 < M) (he : st[e / M]? = some A) (hj : st[j]? = some B) (hs : EqB B (derL (hb.getD (e % M) 0) A)) : FoundI M hb L st (e + 1) (nx ++ [j]) := by
  have hl := h.len
  refine ⟨by simp [hl], h.nodup, fun k A' hk hA => ?_, fun i h0 hi => ?_, h.first, ?_, h.reach⟩
  · by_cases hke : k = e
    · subst hke
      rw [← hl, getD_snoc_new, hl]
      rw [he] at hA
      cases hA
      exact ⟨B, hj, hs⟩
    · rw [getD_snoc_old (by omega)]; exact h.edge k A' (by omega) hA
  · obtain ⟨k, h1, h2, h3, h4⟩ := h.met i h0 hi
    refine ⟨k, by omega, by rw [getD_snoc_old (by omega)]; exact h2, h3, fun k' hk' => ?_⟩
    rw [getD_snoc_old (by omega)]; exact h4 k' hk'
  · have := div_succ_le (e := e) hM
    have := get_lt he
    omega
theorem FoundI.new {A B : Lang} (h : FoundI M hb L st e nx) (hM : 0 < M) (he : st[e / M]? = some A) (hs : EqB B (derL (hb.getD (e % M) 0) A)) (hbt : hb.getD (e % M) 0 < 256) (hf : ∀ (i : Nat) (C : Lang), st[i]? = some C → ¬ EqB C B) : FoundI M hb L (st ++ [B]) (e + 1) (nx ++ [st.length]) := by
  have hl := h.len
  have hel := get_lt he
  refine ⟨by simp [hl], fun i j A' B' hij hi hj => ?_, fun k A' hk hA => ?_, fun i h0 hi => ?_, ?_, ?_, fun i A' hi => ?_⟩
  · rcases get_snoc hj with hj | ⟨rfl, rfl⟩
    · rcases get_snoc hi with hi | ⟨rfl, _⟩
      · exact h.nodup i j A' B' hij hi hj
      · have := get_lt hj; omega
    · rcases get_snoc hi with hi | ⟨rfl, _⟩
      · exact hf i A' hi
      · omega
  · have hkM : k / M < st.length := by
      have : k / M ≤ e / M := Nat.div_le_div_right (by omega)
      omega
    have hA' : st[k / M]? = some A' := by
      rcases get_snoc hA with g | ⟨g, _⟩
      · exact g
      · omega
    by_cases hke : k = e
    · subst hke
      have e1 : (nx ++ [st.length]).getD k 0 = st.length := by rw [← hl]; exact getD_snoc_new _ _
      rw [e1]
      rw [he] at hA'
      cases hA'
      exact ⟨B, by simp, hs⟩
    · obtain ⟨B', g1, g2⟩ := h.edge k A' (by omega) hA'
      rw [getD_snoc_old (show k < nx.length by omega)]
      exact ⟨B', get_snoc_old g1, g2⟩
  · have hi2 : i < st.length + 1 := by simpa using hi
    by_cases hj2 : i = st.length
    · subst hj2
      refine ⟨e, by omega, by rw [← hl]; exact getD_snoc_new _ _, hel, fun k' hk' => ?_⟩
      rw [getD_snoc_old (by omega)]
      exact h.to_lt hk' (Nat.lt_of_le_of_lt (Nat.div_le_div_right (by omega)) hel)
    · obtain ⟨k, h1, h2, h3, h4⟩ := h.met i h0 (by omega)
      refine ⟨k, by omega, by rw [getD_snoc_old (by omega)]; exact h2, h3, fun k' hk' => ?_⟩
      rw [getD_snoc_old (by omega)]; exact h4 k' hk'
  · obtain ⟨A0, g1, g2⟩ := h.first
    exact ⟨A0, get_snoc_old g1, g2⟩
  · have := div_succ_le (e := e) hM
    simp
    omega
  · rcases get_snoc hi with g | ⟨_, rfl⟩
    · exact h.reach i A' g
    · obtain ⟨u, u1, u2⟩ := h.reach _ A he
      exact ⟨u ++ [hb.getD (e % M) 0], bytesOk_snoc u1 hbt, by rw [derS_snoc]; exact hs.trans (u2.der hbt)⟩
theorem FoundI.many (h : FoundI M hb L st e nx) (hl : 24 < st.length) : ManyStates L := by
  have hc : ∀ k, k < st.length → ∃ u, bytesOk u ∧ ∀ A, st[k]? = some A → EqB A (derS u L) := fun k hk => by
    obtain ⟨u, u1, u2⟩ := h.reach k _ (List.getElem?_eq_getElem hk)
    exact ⟨u, u1, fun A hA => by rw [List.getElem?_eq_getElem hk] at hA; cases hA; exact u2⟩
  refine ⟨fun k => if hk : k < st.length then Classical.choose (hc k hk) else [], fun i hi => ?_, fun i j hij hj ha => ?_⟩
  · simp only [dif_pos (show i < st.length by omega)]
    exact (Classical.choose_spec (hc i (by omega))).1
  · simp only [dif_pos (show i < st.length by omega), dif_pos (show j < st.length by omega)] at ha
    have si := (Classical.choose_spec (hc i (by omega))).2 _ (List.getElem?_eq_getElem (by omega))
    have sj := (Classical.choose_spec (hc j (by omega))).2 _ (List.getElem?_eq_getElem (by omega))
    exact h.nodup i j _ _ hij (List.getElem?_eq_getElem (by omega)) (List.getElem?_eq_getElem (by omega)) fun w hw => (si w hw).trans ((ha w hw).trans (sj w hw).symm)
/-- What is found to the end is the least automaton. -/
theorem FoundI.dfa {E : Nat → Nat → Prop} {kd : Nat → Nat} {gr : Nat → Bool} (hs : Sorted 256 E hb kd) (h : FoundI hb.length hb L st (st.length * hb.length) nx)
    (hk : ∀ (i : Nat) (A : Lang) (b : Nat), st[i]? = some A → b < 256 → EqB (derL b A) (derL (hb.getD (kd b) 0) A)) (hg : ∀ (i : Nat) (A : Lang), st[i]? = some A → (gr i = true ↔ A [])) : MinDfa L st.length (fun i b => nx.getD (i * hb.length + kd b) 0) gr := by
  have hM : 0 < hb.length := (hs.zero (by omega)).1
  have hkk : ∀ {i b : Nat}, i < st.length → b < 256 → i * hb.length + kd b < st.length * hb.length := fun {i b} hi hb' => edge_lt (c' := 0) (hs.lt b hb') hi
  have hstep : ∀ {i b : Nat} {A : Lang}, st[i]? = some A → b < 256 → ∃ B, st[nx.getD (i * hb.length + kd b) 0]? = some B ∧ EqB B (derL b A) := fun {i b A} hi hb' => by
    have he := edge_div (M := hb.length) (i := i) (hs.lt b hb')
    obtain ⟨B, g1, g2⟩ := h.edge _ A (hkk (get_lt hi) hb') (by rw [he.1]; exact hi)
    rw [he.2] at g2
    exact ⟨B, g1, g2.trans (hk i A b hi hb').symm⟩
  have hrun : ∀ (u : List Nat) (i : Nat) (A : Lang), st[i]? = some A → bytesOk u → ∃ B, st[dRun (fun i b => nx.getD (i * hb.length + kd b) 0) i u]? = some B ∧ EqB B (derS u A) := by
    intro u
    induction u with
    | nil => intro i A hi _; exact ⟨A, hi, EqB.refl _⟩
    | cons b u ih =>
      intro i A hi hu
      have hb' := bytesOk_tail hu
      obtain ⟨B, g1, g2⟩ := hstep hi hb'.1
      obtain ⟨C, g3, g4⟩ := ih _ B g1 hb'.2
      exact ⟨C, g3, fun w hw => (g4 w hw).trans (g2 (u ++ w) (bytesOk_append hb'.2 hw))⟩
  obtain ⟨A0, f1, f2⟩ := h.first
  refine ⟨get_lt f1, fun i b hi hb' => ?_, fun u hu => ?_, fun i j hi hj hsame => ?_, fun k h0 hk1 => ?_⟩
  · obtain ⟨B, g1, _⟩ := hstep (List.getElem?_eq_getElem hi) hb'
    exact get_lt g1
  · obtain ⟨B, g1, g2⟩ := hrun u 0 A0 f1 hu
    rw [hg _ B g1, g2 [] bytesOk_nil]
    show A0 (u ++ []) ↔ L u
    rw [List.append_nil]
    exact f2 u hu
  · have key : ∀ a b : Nat, a < b → ∀ A B : Lang, st[a]? = some A → st[b]? = some B → (∀ u, bytesOk u → gr (dRun (fun i b => nx.getD (i * hb.length + kd b) 0) a u) = gr (dRun (fun i b => nx.getD (i * hb.length + kd b) 0) b u)) → False := fun a b hab A B hA hB hsm => by
      refine h.nodup a b A B hab hA hB fun w hw => ?_
      obtain ⟨C, c1, c2⟩ := hrun w a A hA hw
      obtain ⟨D, d1, d2⟩ := hrun w b B hB hw
      have e1 := hg _ C c1
      have e2 := hg _ D d1
      have q1 := c2 [] bytesOk_nil
      have q2 := d2 [] bytesOk_nil
      simp only [derS, List.append_nil] at q1 q2
      rw [← q1, ← q2, ← e1, ← e2, hsm w hw]
    rcases Nat.lt_trichotomy i j with g | g | g
    · exact (key i j g _ _ (List.getElem?_eq_getElem hi) (List.getElem?_eq_getElem hj) hsame).elim
    · exact g
    · exact (key j i g _ _ (List.getElem?_eq_getElem hj) (List.getElem?_eq_getElem hi) (fun u hu => (hsame u hu).symm)).elim
  · obtain ⟨k0, h1, h2, h3, h4⟩ := h.met k h0 hk1
    have hc : k0 % hb.length < hb.length := Nat.mod_lt _ hM
    have g := hs.head _ hc
    have e0 : k0 / hb.length * hb.length + k0 % hb.length = k0 := by rw [Nat.mul_comm]; exact Nat.div_add_mod _ _
    refine ⟨k0 / hb.length, hb.getD (k0 % hb.length) 0, h3, g.1, ?_, fun i' b' hb' hi' => ?_, fun b' hb' => ?_⟩
    · show nx.getD (_ * _ + kd _) 0 = k
      rw [g.2, e0]; exact h2
    · refine h4 _ ?_
      rw [← e0]
      exact Nat.lt_of_lt_of_le (edge_lt (c' := 0) (hs.lt b' hb') hi') (by omega)
    · refine h4 _ ?_
      have := hs.below_head hc hb'
      omega
end found

/-- Bytes that are in the same sets. -/
def alkB (rs : List Rn) (b c : Nat) : Prop := ∀ r ∈ rs, r.kind = 2 → r.f b = r.f c
theorem alk_eqv (rs : List Rn) : Equivalence (alkB rs) := ⟨fun _ _ _ _ => rfl, fun h r hr hk => (h r hr hk).symm, fun h k r hr hk => (h r hr hk).trans (k r hr hk)⟩
inductive Alk2 (rs : List Rn) : List Nat → List Nat → Prop
  | nil : Alk2 rs [] []
  | cons {b c : Nat} {u v : List Nat} (h : alkB rs b c) (t : Alk2 rs u v) : Alk2 rs (b :: u) (c :: v)
theorem Alk2.refl (rs : List Rn) : ∀ u, Alk2 rs u u
  | [] => .nil
  | _ :: u => .cons ((alk_eqv rs).refl _) (Alk2.refl rs u)
theorem Alk2.symm {rs : List Rn} : ∀ {u v : List Nat}, Alk2 rs u v → Alk2 rs v u
  | _, _, .nil => .nil
  | _, _, .cons h t => .cons ((alk_eqv rs).symm h) t.symm
theorem Alk2.split {rs : List Rn} : ∀ {u1 u2 v : List Nat}, Alk2 rs (u1 ++ u2) v → ∃ v1 v2, v = v1 ++ v2 ∧ Alk2 rs u1 v1 ∧ Alk2 rs u2 v2
  | [], _, v, h => ⟨[], v, rfl, .nil, h⟩
  | _ :: u1, u2, _, .cons h t => by
    obtain ⟨v1, v2, rfl, g1, g2⟩ := Alk2.split (u1 := u1) (u2 := u2) t
    exact ⟨_ :: v1, v2, rfl, .cons h g1, g2⟩
def SameA (rs : List Rn) (A : Lang) : Prop := ∀ u v, Alk2 rs u v → A u → A v
theorem SameA.cat {rs : List Rn} {A B : Lang} (ha : SameA rs A) (hb : SameA rs B) : SameA rs (catL A B) := by
  rintro u v h ⟨u1, u2, rfl, h1, h2⟩
  obtain ⟨v1, v2, rfl, g1, g2⟩ := h.split
  exact ⟨v1, v2, rfl, ha _ _ g1 h1, hb _ _ g2 h2⟩
theorem SameA.eps (rs : List Rn) : SameA rs epsL := by
  intro u v h e
  cases h with
  | nil => rfl
  | cons _ _ => cases e
theorem SameA.pw {rs : List Rn} {A : Lang} (ha : SameA rs A) : ∀ k, SameA rs (pwL A k)
  | 0 => SameA.eps rs
  | k + 1 => ha.cat (SameA.pw ha k)
theorem Dr.sameA {rs : List Rn} : ∀ {R : Re} {k : Int}, Dr rs R k → SameA rs R.L
  | .blank, _, _ => SameA.eps rs
  | .set f, _, ⟨r, _, h1, h2, h3⟩ => by
    intro u v h hu
    obtain ⟨b, rfl, hb⟩ := hu
    cases h with
    | cons h t =>
      cases t
      exact ⟨_, rfl, by rw [← h3, ← h r (List.mem_of_getElem? h1) h2, h3]; exact hb⟩
  | .seq _ _, _, ⟨_, _, _, _, h1, h2⟩ => h1.sameA.cat h2.sameA
  | .alt _ _, _, ⟨_, _, _, _, h1, h2⟩ => fun u v h hu => hu.imp (h1.sameA u v h) (h2.sameA u v h)
  | .star _, _, ⟨_, _, _, _, h1⟩ => fun u v h ⟨k, hk⟩ => ⟨k, h1.sameA.pw k u v h hk⟩
  | .plus _, _, ⟨_, _, _, _, h1⟩ => fun u v h ⟨k, k1, hk⟩ => ⟨k, k1, h1.sameA.pw k u v h hk⟩
  | .opt _, _, ⟨_, _, _, _, h1⟩ => fun u v h hu => hu.imp (SameA.eps rs u v h) (h1.sameA u v h)
  | .times _ _ _, _, ⟨_, _, _, _, _, _, _, _, h1⟩ => fun u v h ⟨k, k1, k2, hk⟩ => ⟨k, k1, k2, h1.sameA.pw k u v h hk⟩
theorem alk_app {rs : List Rn} : ∀ (u : List Nat) {v w : List Nat}, Alk2 rs v w → Alk2 rs (u ++ v) (u ++ w)
  | [], _, _, h => h
  | _ :: u, _, _, h => .cons ((alk_eqv rs).refl _) (alk_app u h)
theorem SameA.der {rs : List Rn} {L A : Lang} (h : SameA rs L) {u : List Nat} (hA : EqB A (derS u L)) {b c : Nat} (hb : b < 256) (hc : c < 256) (he : alkB rs b c) : EqB (derL b A) (derL c A) := fun w hw => by
  have h1 := hA (b :: w) (bytesOk_cons hb hw)
  have h2 := hA (c :: w) (bytesOk_cons hc hw)
  show A (b :: w) ↔ A (c :: w)
  rw [h1, h2]
  exact ⟨h _ _ (alk_app u (.cons he (Alk2.refl rs w))), h _ _ (alk_app u (.cons ((alk_eqv rs).symm he) (Alk2.refl rs w)))⟩

end Go.Proofs.YtfooclcjehpcfaaGreat
namespace Go.Proofs.YtfooclcjehpcfaaGreat

/-- Children have lesser numbers. -/
def WfT (rs : List Rn) : Prop := ∀ (k : Nat) (r : Rn), rs[k]? = some r → (3 ≤ r.kind → 0 ≤ r.l ∧ r.l < (k : Int)) ∧ ((r.kind = 3 ∨ r.kind = 4) → 0 ≤ r.r ∧ r.r < (k : Int))
theorem WfT.nil : WfT [] := fun k r h => by simp at h
theorem WfT.snoc {rs : List Rn} (h : WfT rs) (n : Rn) (h1 : 3 ≤ n.kind → 0 ≤ n.l ∧ n.l < (rs.length : Int)) (h2 : (n.kind = 3 ∨ n.kind = 4) → 0 ≤ n.r ∧ n.r < (rs.length : Int)) : WfT (rs ++ [n]) := fun k r hk => by
  rcases get_snoc hk with g | ⟨rfl, rfl⟩
  · exact h k r g
  · exact ⟨h1, h2⟩
theorem leafS_kind {p : ByteArray} {r : Rn} (h : leafS p = some r) : r.kind = 2 := by
  unfold leafS at h
  split at h
  · split at h
    · cases h; rfl
    · split at h
      · split at h
        · split at h
          · rw [Option.bind_eq_some_iff] at h
            obtain ⟨f, _, h⟩ := h
            cases h; rfl
          · rw [Option.bind_eq_some_iff] at h
            obtain ⟨f, _, h⟩ := h
            cases h; rfl
        · cases h
      · rw [Option.bind_eq_some_iff] at h
        obtain ⟨f, _, h⟩ := h
        cases h; rfl
  · cases h
theorem rfF_wf : ∀ (n tag : Nat) (p : ByteArray) (a : Nat) (l : Int) (rs : List Rn) (r : List Rn × Int), rfF n tag p a l rs = some r → WfT rs → (tag = 3 → 0 ≤ l ∧ l < (rs.length : Int)) → WfT r.1 ∧ 0 ≤ r.2 ∧ r.2 < (r.1.length : Int) := by
  intro n
  induction n with
  | zero => intro tag p a l rs r h; simp [rfF] at h
  | succ n ih =>
    intro tag p a l rs r h hw hl
    have len1 : ∀ (x : List Rn) (y : Rn), ((x ++ [y]).length : Int) = (x.length : Int) + 1 := fun x y => by simp
    match tag with
    | 0 =>
      simp only [rfF] at h
      exact ih 1 _ _ _ _ _ h hw (fun e => by cases e)
    | 1 =>
      simp only [rfF] at h
      split at h
      · rw [Option.bind_eq_some_iff] at h
        obtain ⟨j, _, h⟩ := h
        exact ih 1 _ _ _ _ _ h hw (fun e => by cases e)
      · split at h
        · rw [Option.bind_eq_some_iff] at h
          obtain ⟨x, hx, h⟩ := h
          obtain ⟨g1, g2, g3⟩ := ih 2 _ _ _ _ _ hx hw (fun e => by cases e)
          split at h
          · simp only [Option.some.injEq] at h; subst h; exact ⟨g1, g2, g3⟩
          · rw [Option.bind_eq_some_iff] at h
            obtain ⟨y, hy, h⟩ := h
            obtain ⟨q1, q2, q3⟩ := ih 0 _ _ _ _ _ hy g1 (fun e => by cases e)
            have hg := rfF_grows _ _ _ _ _ _ _ hy
            simp only [Option.some.injEq] at h; subst h
            refine ⟨q1.snoc _ (fun _ => ⟨g2, by show x.2 < _; omega⟩) (fun _ => ⟨q2, q3⟩), by show (0 : Int) ≤ (y.1.length : Int); omega, ?_⟩
            show (y.1.length : Int) < ((y.1 ++ [_]).length : Int)
            rw [len1]; omega
        · cases h
    | 2 =>
      simp only [rfF] at h
      split at h
      · simp only [Option.some.injEq] at h; subst h
        refine ⟨hw.snoc _ (fun e => absurd e (by show ¬ (3 : Int) ≤ 1; omega)) (fun e => absurd e (by show ¬ ((1 : Int) = 3 ∨ (1 : Int) = 4); omega)), by show (0 : Int) ≤ (rs.length : Int); omega, ?_⟩
        show (rs.length : Int) < ((rs ++ [_]).length : Int)
        rw [len1]; omega
      · rw [Option.bind_eq_some_iff] at h
        obtain ⟨j, _, h⟩ := h
        split at h
        · rw [Option.bind_eq_some_iff] at h
          obtain ⟨x, hx, h⟩ := h
          obtain ⟨g1, g2, g3⟩ := ih 4 _ _ _ _ _ hx hw (fun e => by cases e)
          exact ih 3 _ _ _ _ _ h g1 (fun _ => ⟨g2, g3⟩)
        · cases h
    | 3 =>
      obtain ⟨l0, l1⟩ := hl rfl
      have one : ∀ (k m q : Int), 3 < k → k ≠ 4 → WfT (rs ++ [⟨k, l, 0, m, q, noSet⟩]) := fun k m q h3 h4 => hw.snoc _ (fun _ => ⟨l0, l1⟩) (fun e => absurd e (by show ¬ (k = 3 ∨ k = 4); omega))
      have nx : ∀ y : Rn, (0 : Int) ≤ (rs.length : Int) ∧ (rs.length : Int) < ((rs ++ [y]).length : Int) := fun y => by rw [len1]; omega
      simp only [rfF] at h
      split at h
      · exact ih 3 _ _ _ _ _ h (one 5 0 0 (by omega) (by omega)) (fun _ => nx _)
      · split at h
        · exact ih 3 _ _ _ _ _ h (one 6 0 0 (by omega) (by omega)) (fun _ => nx _)
        · split at h
          · exact ih 3 _ _ _ _ _ h (one 7 0 0 (by omega) (by omega)) (fun _ => nx _)
          · split at h
            · split at h
              · exact ih 3 _ _ _ _ _ h (one 8 _ _ (by omega) (by omega)) (fun _ => nx _)
              · cases h
            · split at h
              · simp only [Option.some.injEq] at h; subst h; exact ⟨hw, l0, l1⟩
              · split at h
                · rw [Option.bind_eq_some_iff] at h
                  obtain ⟨y, hy, h⟩ := h
                  obtain ⟨q1, q2, q3⟩ := ih 2 _ _ _ _ _ hy hw (fun e => by cases e)
                  have hg := rfF_grows _ _ _ _ _ _ _ hy
                  simp only [Option.some.injEq] at h; subst h
                  refine ⟨q1.snoc _ (fun _ => ⟨l0, by show l < _; omega⟩) (fun _ => ⟨q2, q3⟩), by show (0 : Int) ≤ (y.1.length : Int); omega, ?_⟩
                  show (y.1.length : Int) < ((y.1 ++ [_]).length : Int)
                  rw [len1]; omega
                · cases h
    | t + 4 =>
      simp only [rfF] at h
      split at h
      · split at h
        · exact ih 0 _ _ _ _ _ h hw (fun e => by cases e)
        · cases h
      · rw [Option.bind_eq_some_iff] at h
        obtain ⟨x, hx, h⟩ := h
        have hk := leafS_kind hx
        simp only [Option.some.injEq] at h; subst h
        refine ⟨hw.snoc _ (fun e => by omega) (fun e => by omega), by show (0 : Int) ≤ (rs.length : Int); omega, ?_⟩
        show (rs.length : Int) < ((rs ++ [_]).length : Int)
        rw [len1]; omega
/-- How long terms can be. -/
def rdep : Re → Nat
  | .blank => 0
  | .set _ => 0
  | .seq a b => max (rdep a + 1) (rdep b)
  | .alt a b => max (rdep a) (rdep b)
  | .star a => rdep a + 1
  | .plus a => rdep a + 1
  | .opt a => rdep a
  | .times _ _ a => rdep a + 1
theorem uni_dep (rs0 : List Rn) : ∀ (R : Re) (k : Nat), ∀ τ ∈ uni rs0 R k, τ.length ≤ rdep R
  | .blank, _, τ, h => by cases h
  | .set _, _, τ, h => by
    simp only [uni, List.mem_singleton] at h
    subst h; simp
  | .seq a b, k, τ, h => by
    simp only [uni] at h
    simp only [rdep]
    rcases List.mem_append.1 h with h | h
    · obtain ⟨σ, h1, rfl⟩ := List.mem_map.1 h
      have := uni_dep rs0 a _ σ h1
      simp; omega
    · have := uni_dep rs0 b _ τ h
      omega
  | .alt a b, k, τ, h => by
    simp only [uni] at h
    simp only [rdep]
    rcases List.mem_append.1 h with h | h
    · have := uni_dep rs0 a _ τ h; omega
    · have := uni_dep rs0 b _ τ h; omega
  | .star a, k, τ, h => by
    simp only [uni] at h
    obtain ⟨σ, h1, rfl⟩ := List.mem_map.1 h
    have := uni_dep rs0 a _ σ h1
    simp [rdep]; omega
  | .plus a, k, τ, h => by
    simp only [uni] at h
    obtain ⟨σ, h1, rfl⟩ := List.mem_map.1 h
    have := uni_dep rs0 a _ σ h1
    simp [rdep]; omega
  | .opt a, k, τ, h => uni_dep rs0 a _ τ h
  | .times m n a, k, τ, h => by
    simp only [uni] at h
    split at h
    · obtain ⟨j, _, h⟩ := List.mem_flatMap.1 h
      obtain ⟨σ, h1, rfl⟩ := List.mem_map.1 h
      have := uni_dep rs0 a _ σ h1
      simp [rdep]; omega
    · cases h
theorem rdep_le {rs : List Rn} (hw : WfT rs) : ∀ {R : Re} {k : Int}, Dr rs R k → (rdep R : Int) ≤ k
  | .blank, k, h => by have := h.nonneg; simpa [rdep] using this
  | .set _, k, h => by have := h.nonneg; simpa [rdep] using this
  | .seq a b, k, ⟨r, h0, h1, h2, ha, hb⟩ => by
    have w := hw _ _ h1
    have w1 := w.1 (by omega)
    have w2 := w.2 (.inl h2)
    have := rdep_le hw ha
    have := rdep_le hw hb
    rw [Int.toNat_of_nonneg h0] at w1 w2
    simp only [rdep]
    omega
  | .alt a b, k, ⟨r, h0, h1, h2, ha, hb⟩ => by
    have w := hw _ _ h1
    have w1 := w.1 (by omega)
    have w2 := w.2 (.inr h2)
    have := rdep_le hw ha
    have := rdep_le hw hb
    rw [Int.toNat_of_nonneg h0] at w1 w2
    simp only [rdep]
    omega
  | .star a, k, ⟨r, h0, h1, h2, ha⟩ => by
    have w1 := (hw _ _ h1).1 (by omega)
    have := rdep_le hw ha
    rw [Int.toNat_of_nonneg h0] at w1
    simp only [rdep]
    omega
  | .plus a, k, ⟨r, h0, h1, h2, ha⟩ => by
    have w1 := (hw _ _ h1).1 (by omega)
    have := rdep_le hw ha
    rw [Int.toNat_of_nonneg h0] at w1
    simp only [rdep]
    omega
  | .opt a, k, ⟨r, h0, h1, h2, ha⟩ => by
    have w1 := (hw _ _ h1).1 (by omega)
    have := rdep_le hw ha
    rw [Int.toNat_of_nonneg h0] at w1
    simp only [rdep]
    omega
  | .times m n a, k, ⟨r, h0, h1, h2, _, _, _, _, ha⟩ => by
    have w1 := (hw _ _ h1).1 (by omega)
    have := rdep_le hw ha
    rw [Int.toNat_of_nonneg h0] at w1
    simp only [rdep]
    omega

/-- A number that stands for a node. -/
def NumOk (rs0 rs : List Rn) (k : Nat) : Prop := (k < rs0.length ∧ ∃ R, Dr rs0 R (k : Int) ∧ R.wt ≤ 12) ∨ (rs0.length ≤ k ∧ ∃ r, rs[k]? = some r ∧ ∃ a, Dr rs0 a r.l ∧ a.wt ≤ 12 ∧ ((r.kind = 5 ∧ r.m = 0 ∧ r.n = 0) ∨ (r.kind = 8 ∧ ∃ m n : Nat, r.m = (m : Int) ∧ r.n = (n : Int) ∧ m ≤ 9 ∧ n ≤ 9 ∧ (Re.times m n a).wt ≤ 12)))
theorem NumOk.nd {rs0 rs : List Rn} (hg : GrowT rs0 rs) {k : Nat} (h : NumOk rs0 rs k) : NdOk rs k := by
  obtain ⟨e, rfl⟩ := hg.gr.pre
  rcases h with ⟨_, R, hR, _⟩ | ⟨_, r, h1, a, ha, _, h2 | ⟨h2, m, n, q1, q2, q3, q4, _⟩⟩
  · exact ⟨R, hR.app e⟩
  · exact ⟨.star a, r, by omega, by rw [Int.toNat_natCast]; exact h1, h2.1, ha.app e⟩
  · exact ⟨.times m n a, r, by omega, by rw [Int.toNat_natCast]; exact h1, h2, q1, q2, q3, q4, ha.app e⟩
theorem NumOk.grow {rs0 rs : List Rn} {k : Nat} (h : NumOk rs0 rs k) (x : List Rn) : NumOk rs0 (rs ++ x) k := by
  rcases h with h | ⟨h0, r, h1, h2⟩
  · exact .inl h
  · exact .inr ⟨h0, r, getElem?_app h1 x, h2⟩
theorem LN_eq {rs : List Rn} {R : Re} {k : Nat} (h : Dr rs R (k : Int)) : LN rs k = R.L := Lang.ext fun w => ⟨fun ⟨R', h1, h2⟩ => by rw [Dr.same h h1]; exact h2, fun hw => ⟨R, h, hw⟩⟩
theorem LN_app {rs : List Rn} {k : Nat} (h : NdOk rs k) (x : List Rn) : LN (rs ++ x) k = LN rs k := by
  obtain ⟨R, hR⟩ := h
  rw [LN_eq hR, LN_eq (hR.app x)]
theorem tmL_app {rs : List Rn} (x : List Rn) : ∀ {s : List Nat}, (∀ k ∈ s, NdOk rs k) → tmL (rs ++ x) s = tmL rs s
  | [], _ => rfl
  | k :: s, h => by rw [tmL, tmL, LN_app (h k (by simp)) x, tmL_app x fun k hk => h k (by simp [hk])]
/-- A set of terms that is right. -/
structure VSet (rs0 rs : List Rn) (U : List (List Nm)) (X : List ByteArray) : Prop where
  srt : SrtS X
  inu : InU rs0 rs U X
  num : ∀ s ∈ X, ∀ k ∈ bytesN s, NumOk rs0 rs k
def stB (rs : List Rn) (X : List ByteArray) : Lang := fun w => ∃ s ∈ X, tmL rs (bytesN s) w
theorem VSet.grow {rs0 rs : List Rn} {U : List (List Nm)} {X : List ByteArray} (h : VSet rs0 rs U X) (x : List Rn) : VSet rs0 (rs ++ x) U X := ⟨h.srt, fun s hs => (h.inu s hs).grow x, fun s hs k hk => (h.num s hs k hk).grow x⟩
theorem VSet.mono {rs0 rs : List Rn} {U U' : List (List Nm)} {X : List ByteArray} (h : VSet rs0 rs U X) (hU : ∀ u ∈ U, u ∈ U') : VSet rs0 rs U' X := ⟨h.srt, fun s hs => ⟨(h.inu s hs).1, hU _ (h.inu s hs).2⟩, h.num⟩
theorem VSet.nil (rs0 rs : List Rn) (U : List (List Nm)) : VSet rs0 rs U [] := ⟨List.Pairwise.nil, (fun s h => by cases h), (fun s h => by cases h)⟩
theorem stB_app {rs0 rs : List Rn} (hg : GrowT rs0 rs) {U : List (List Nm)} {X : List ByteArray} (h : VSet rs0 rs U X) (x : List Rn) : stB (rs ++ x) X = stB rs X := Lang.ext fun w => by
  constructor
  · rintro ⟨s, h1, h2⟩
    rw [tmL_app x fun k hk => (h.num s h1 k hk).nd hg] at h2
    exact ⟨s, h1, h2⟩
  · rintro ⟨s, h1, h2⟩
    rw [← tmL_app x fun k hk => (h.num s h1 k hk).nd hg] at h2
    exact ⟨s, h1, h2⟩
theorem stB_nil (rs : List Rn) : stB rs [] = voidL := Lang.ext fun w => ⟨(fun ⟨s, h, _⟩ => by cases h), fun h => h.elim⟩
/-- A right set has no more terms than there are. -/
theorem VSet.len {rs0 rs : List Rn} (hg : GrowT rs0 rs) {U : List (List Nm)} {X : List ByteArray} (h : VSet rs0 rs U X) : X.length ≤ U.length := by
  refine Nat.le_of_not_lt fun hlt => ?_
  have hc : ∀ i, i ≤ U.length → ∃ j s, X[i]? = some s ∧ j < U.length ∧ U[j]? = some (nmS rs0 rs s) := fun i hi => by
    have hl : i < X.length := by omega
    obtain ⟨j, h1, h2⟩ := mem_pos (h.inu _ (List.getElem_mem hl)).2
    exact ⟨j, _, List.getElem?_eq_getElem hl, h1, h2⟩
  obtain ⟨i, j, hij, hj, e⟩ := pigeon U.length (fun i => if hi : i ≤ U.length then Classical.choose (hc i hi) else 0) fun i hi => by
    simp only [dif_pos hi]
    obtain ⟨s, _, g, _⟩ := Classical.choose_spec (hc i hi)
    exact g
  simp only [dif_pos (show i ≤ U.length by omega), dif_pos hj] at e
  obtain ⟨s, a1, a2, a3⟩ := Classical.choose_spec (hc i (by omega))
  obtain ⟨t, b1, b2, b3⟩ := Classical.choose_spec (hc j hj)
  rw [e, b3] at a3
  have hst := nmS_inj hg.gr (h.inu t (List.mem_of_getElem? b1)) (h.inu s (List.mem_of_getElem? a1)) (by simpa using a3)
  subst hst
  obtain ⟨hi, ei⟩ := List.getElem?_eq_some_iff.1 a1
  obtain ⟨hj', ej⟩ := List.getElem?_eq_some_iff.1 b1
  have := List.pairwise_iff_getElem.1 h.srt i j hi hj' hij
  rw [ei, ej, lessS_irrefl] at this
  cases this
theorem VSet.size {rs0 rs : List Rn} {R : Re} {k : Nat} {X : List ByteArray} (h : VSet rs0 rs (uni rs0 R k) X) : ∀ s ∈ X, s.size ≤ rdep R := fun s hs => by
  have h1 := uni_dep rs0 R k _ (h.inu s hs).2
  unfold nmS at h1
  rw [List.length_map, bytesN_len] at h1
  exact h1

end Go.Proofs.YtfooclcjehpcfaaGreat
