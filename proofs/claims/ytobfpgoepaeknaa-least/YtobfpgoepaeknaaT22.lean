/-
  Plain mathematics: texts that are put together: what the document's answer makes of them, and that the look over them meets no error.
  Plain mathematics: atoms that are put together: escapes, sets, plain bytes.
  The small functions of the statements without the document's answer; Match of a text that is put together.
-/
import Derived.Test.YtobfpgoepaeknaaLL
import Derived.Test.YtobfpgoepaeknaaT12
import Derived.Deep.QuietTactic
import Derived.BigQuiet
namespace Go.Proofs.Ytobfpgoepaeknaa

/-- The bytes x stand in t from A on. -/
def AtW (t : ByteArray) (A : Nat) (x : List Nat) : Prop := A + x.length ≤ t.size ∧ ∀ (i c : Nat), x[i]? = some c → byteAt t (A + i) = (c : Int)
theorem AtW.app {t : ByteArray} {A : Nat} {x y : List Nat} (h : AtW t A (x ++ y)) : AtW t A x ∧ AtW t (A + x.length) y := by
  obtain ⟨h1, h2⟩ := h
  rw [List.length_append] at h1
  refine ⟨⟨by omega, fun i c hi => h2 i c (getElem?_app hi y)⟩, by omega, fun i c hi => ?_⟩
  have := h2 (x.length + i) c (by rw [List.getElem?_append_right (by omega), show x.length + i - x.length = i from by omega]; exact hi)
  rw [← Nat.add_assoc] at this; exact this
theorem AtW.head {t : ByteArray} {A : Nat} {c : Nat} {x : List Nat} (h : AtW t A (c :: x)) : byteAt t A = (c : Int) ∧ A < t.size ∧ AtW t (A + 1) x := by
  have h' : AtW t A ([c] ++ x) := h
  obtain ⟨a, b⟩ := h'.app
  exact ⟨a.2 0 c rfl, by have := a.1; simp at this; omega, b⟩

/-- The look goes along, at a byte's place before and behind. -/
def ScanP (t : ByteArray) (A B : Nat) : Prop := ∀ m d bk, (m = 0 ∨ m = 1) → 0 ≤ d → ∃ m' bk', (m' = 0 ∨ m' = 1) ∧ Go' t A ⟨m, d, bk⟩ B ⟨m', d, bk'⟩
/-- The same, and an atom lies behind. -/
def ScanA (t : ByteArray) (A B : Nat) : Prop := ∀ m d bk, (m = 0 ∨ m = 1) → 0 ≤ d → ∃ bk', Go' t A ⟨m, d, bk⟩ B ⟨1, d, bk'⟩
theorem ScanA.p {t : ByteArray} {A B : Nat} (h : ScanA t A B) : ScanP t A B := fun m d bk hm hd => by
  obtain ⟨bk', hg⟩ := h m d bk hm hd
  exact ⟨1, bk', Or.inr rfl, hg⟩
theorem ScanA.trans {t : ByteArray} {A B C : Nat} (h : ScanA t A B) (k : ScanA t B C) : ScanA t A C := fun m d bk hm hd => by
  obtain ⟨b1, g1⟩ := h m d bk hm hd
  obtain ⟨b2, g2⟩ := k 1 d b1 (Or.inr rfl) hd
  exact ⟨b2, g1.trans g2⟩
theorem ScanP.thenA {t : ByteArray} {A B C : Nat} (h : ScanP t A B) (k : ScanA t B C) : ScanA t A C := fun m d bk hm hd => by
  obtain ⟨m1, b1, h1, g1⟩ := h m d bk hm hd
  obtain ⟨b2, g2⟩ := k m1 d b1 h1 hd
  exact ⟨b2, g1.trans g2⟩
theorem ScanP.trans {t : ByteArray} {A B C : Nat} (h : ScanP t A B) (k : ScanP t B C) : ScanP t A C := fun m d bk hm hd => by
  obtain ⟨m1, b1, h1, g1⟩ := h m d bk hm hd
  obtain ⟨m2, b2, h2, g2⟩ := k m1 d b1 h1 hd
  exact ⟨m2, b2, h2, g1.trans g2⟩
theorem ScanP.refl (t : ByteArray) (A : Nat) : ScanP t A A := fun m _ bk hm _ => ⟨m, bk, hm, Go'.refl _ _ _⟩

def Lead (x : List Nat) : Prop := ∃ c y, x = c :: y ∧ atSuffixB (c : Int) = false
def Gp (x : List Nat) (v : Val) : Prop := ∀ t A, t.size ≤ 60 → AtW t A x → PatV t A (A + x.length) v ∧ ScanP t A (A + x.length)
def Gb (x : List Nat) (v : Val) : Prop := (x = [] ∨ Lead x) ∧ ∀ t A, t.size ≤ 60 → AtW t A x → BraV t A (A + x.length) v ∧ ScanP t A (A + x.length)
def Gi (x : List Nat) (v : Val) : Prop := Lead x ∧ ∀ t A, t.size ≤ 60 → AtW t A x → PieV t A (A + x.length) v ∧ ScanA t A (A + x.length)
def Ga (x : List Nat) (v : Val) : Prop := Lead x ∧ ∀ t A, t.size ≤ 60 → AtW t A x → AtoV t A (A + x.length) v ∧ ScanA t A (A + x.length)
def Gs (y : List Nat) (F : Val → Val) : Prop := ∀ t A, t.size ≤ 60 → AtW t A y → (∀ v, SufV t A (A + y.length) v (F v)) ∧ ∀ d bk, 0 ≤ d → ∃ bk', Go' t A ⟨1, d, bk⟩ (A + y.length) ⟨1, d, bk'⟩

theorem Lead.app {x : List Nat} (h : Lead x) (y : List Nat) : Lead (x ++ y) := by
  obtain ⟨c, z, rfl, hc⟩ := h; exact ⟨c, z ++ y, rfl, hc⟩

theorem goes_40 {m d bk : Int} (h : m = 0 ∨ m = 1) : goesS ⟨m, d, bk⟩ 40 = (true, ⟨0, d + 1, bk⟩) := by rw [goes_out h]; rfl
theorem goes_41 {m d bk : Int} (h : m = 0 ∨ m = 1) (hd : 1 ≤ d) : goesS ⟨m, d, bk⟩ 41 = (true, ⟨1, d - 1, bk⟩) := by
  rw [goes_out h]
  unfold outsideS
  simp
  omega
theorem goes_124 {m d bk : Int} (h : m = 0 ∨ m = 1) : goesS ⟨m, d, bk⟩ 124 = (true, ⟨0, d, bk⟩) := by rw [goes_out h]; rfl

theorem Ga.par {x : List Nat} {v : Val} (h : Gp x v) : Ga (40 :: (x ++ [41])) v := by
  refine ⟨⟨40, _, rfl, by decide⟩, fun t A h60 ha => ?_⟩
  obtain ⟨b0, l0, ha1⟩ := ha.head
  obtain ⟨ax, ac⟩ := ha1.app
  obtain ⟨b1, l1, _⟩ := ac.head
  obtain ⟨pv, sp⟩ := h t (A + 1) h60 ax
  have e : A + (40 :: (x ++ [41])).length = A + 1 + x.length + 1 := by simp; omega
  rw [e]
  refine ⟨atoV_par b0 pv l1 b1, fun m d bk hm hd => ?_⟩
  have g0 : Go' t A ⟨m, d, bk⟩ (A + 1) ⟨0, d + 1, bk⟩ := Go'.step (by rw [b0]; exact goes_40 hm)
  obtain ⟨m1, b1', hm1, g1⟩ := sp 0 (d + 1) bk (Or.inl rfl) (by omega)
  have g2 : Go' t (A + 1 + x.length) ⟨m1, d + 1, b1'⟩ (A + 1 + x.length + 1) ⟨1, d, b1'⟩ := Go'.step (by rw [b1]; have := goes_41 (bk := b1') hm1 (show 1 ≤ d + 1 by omega); rw [show d + 1 - 1 = d from by omega] at this; exact this)
  exact ⟨b1', (g0.trans g1).trans g2⟩

theorem Gs.nil : Gs [] id := fun t A _ ha => ⟨fun v => by have := ha.1; exact SufV.refl (by simpa using this), fun d bk _ => ⟨bk, Go'.refl _ _ _⟩⟩
theorem goes_suf {c : Int} {d bk : Int} (h : c = 42 ∨ c = 43 ∨ c = 63) : goesS ⟨1, d, bk⟩ c = (true, ⟨1, d, bk⟩) := by
  rw [goes_out (Or.inr rfl)]
  rcases h with rfl | rfl | rfl <;> rfl
theorem Gs.star : Gs [42] starV := fun t A _ ha => by
  obtain ⟨b0, l0, _⟩ := ha.head
  exact ⟨fun v => sufV_star l0 b0, fun d bk _ => ⟨bk, Go'.step (by rw [b0]; exact goes_suf (Or.inl rfl))⟩⟩
theorem Gs.plus : Gs [43] plusV := fun t A _ ha => by
  obtain ⟨b0, l0, _⟩ := ha.head
  exact ⟨fun v => sufV_plus l0 b0, fun d bk _ => ⟨bk, Go'.step (by rw [b0]; exact goes_suf (Or.inr (Or.inl rfl)))⟩⟩
theorem Gs.opt : Gs [63] optV := fun t A _ ha => by
  obtain ⟨b0, l0, _⟩ := ha.head
  exact ⟨fun v => sufV_opt l0 b0, fun d bk _ => ⟨bk, Go'.step (by rw [b0]; exact goes_suf (Or.inr (Or.inr rfl)))⟩⟩
theorem dec_of {m : Nat} (h : m ≤ 9) : decB ((48 + m : Nat) : Int) = true := by unfold decB; simp; omega
theorem goes_4 {d bk c : Int} (h : decB c = true) : goesS ⟨4, d, bk⟩ c = (true, ⟨5, d, bk⟩) := by unfold goesS; simp [h]
theorem goes_6 {d bk c : Int} (h : decB c = true) : goesS ⟨6, d, bk⟩ c = (true, ⟨7, d, bk⟩) := by unfold goesS; simp [h]
theorem Gs.times {m n : Nat} (hm : m ≤ 9) (hn : n ≤ 9) : Gs [123, 48 + m, 44, 48 + n, 125] (timesV m n) := fun t A _ ha => by
  obtain ⟨b0, l0, a1⟩ := ha.head
  obtain ⟨b1, l1, a2⟩ := a1.head
  obtain ⟨b2, l2, a3⟩ := a2.head
  obtain ⟨b3, l3, a4⟩ := a3.head
  obtain ⟨b4, l4, _⟩ := a4.head
  have d1 := dec_of hm
  have d2 := dec_of hn
  refine ⟨fun v => ?_, fun d bk hd => ⟨bk, ?_⟩⟩
  · have := sufV_times (t := t) (A := A) (v := v) (by omega) b0 (by rw [b1]; exact d1) b2 (by rw [b3]; exact d2) b4
    rw [b1, b3, show (((48 + m : Nat) : Int) - 48).toNat = m from by omega, show (((48 + n : Nat) : Int) - 48).toNat = n from by omega] at this
    exact this
  · have g0 : Go' t A ⟨1, d, bk⟩ (A + 1) ⟨4, d, bk⟩ := Go'.step (by rw [b0, goes_out (Or.inr rfl)]; rfl)
    have g1 : Go' t (A + 1) ⟨4, d, bk⟩ (A + 1 + 1) ⟨5, d, bk⟩ := Go'.step (by rw [b1]; exact goes_4 d1)
    have g2 : Go' t (A + 1 + 1) ⟨5, d, bk⟩ (A + 1 + 1 + 1) ⟨6, d, bk⟩ := Go'.step (by rw [b2]; rfl)
    have g3 : Go' t (A + 1 + 1 + 1) ⟨6, d, bk⟩ (A + 1 + 1 + 1 + 1) ⟨7, d, bk⟩ := Go'.step (by rw [b3]; exact goes_6 d2)
    have g4 : Go' t (A + 1 + 1 + 1 + 1) ⟨7, d, bk⟩ (A + 1 + 1 + 1 + 1 + 1) ⟨1, d, bk⟩ := Go'.step (by rw [b4]; rfl)
    exact (((g0.trans g1).trans g2).trans g3).trans g4

theorem Gi.of {x y : List Nat} {v : Val} {F : Val → Val} (h : Ga x v) (k : Gs y F) : Gi (x ++ y) (F v) := by
  refine ⟨h.1.app y, fun t A h60 ha => ?_⟩
  obtain ⟨ax, ay⟩ := ha.app
  obtain ⟨av, sa⟩ := h.2 t A h60 ax
  obtain ⟨sv, sg⟩ := k t _ h60 ay
  rw [List.length_append, ← Nat.add_assoc]
  refine ⟨pieV_of h60 av (sv v), fun m d bk hm hd => ?_⟩
  obtain ⟨b1, g1⟩ := sa m d bk hm hd
  obtain ⟨b2, g2⟩ := sg d b1 hd
  exact ⟨b2, g1.trans g2⟩
theorem Ga.i {x : List Nat} {v : Val} (h : Ga x v) : Gi x v := by
  have := Gi.of h Gs.nil
  rw [List.append_nil] at this; exact this
theorem Gb.nil : Gb [] Re.blank.val := ⟨Or.inl rfl, fun t A _ ha => ⟨by have := ha.1; exact braV_nil (by simpa using this), ScanP.refl _ _⟩⟩
theorem Gi.b {x : List Nat} {v : Val} (h : Gi x v) : Gb x v := by
  refine ⟨Or.inr h.1, fun t A h60 ha => ?_⟩
  obtain ⟨pv, sa⟩ := h.2 t A h60 ha
  have := (brV_join pv (Or.inl ⟨rfl, rfl⟩) (fun h => absurd h (by omega))).2
  rw [catV_unit] at this
  exact ⟨this, sa.p⟩
theorem Gi.cat {x y : List Nat} {v u : Val} (h : Gi x v) (k : Gb y u) (hy : Lead y) : Gb (x ++ y) (catV v u) := by
  refine ⟨Or.inr (h.1.app y), fun t A h60 ha => ?_⟩
  obtain ⟨ax, ay⟩ := ha.app
  obtain ⟨pv, sa⟩ := h.2 t A h60 ax
  obtain ⟨bv, sb⟩ := k.2 t _ h60 ay
  obtain ⟨c, z, rfl, hc⟩ := hy
  rw [List.length_append, ← Nat.add_assoc]
  refine ⟨(brV_join pv (Or.inr ⟨by simp, bv⟩) (fun _ => by rw [ay.head.1]; exact hc)).2, sa.p.trans sb⟩
theorem Gb.p {x : List Nat} {v : Val} (h : Gb x v) : Gp x v := fun t A h60 ha => by
  obtain ⟨bv, sb⟩ := h.2 t A h60 ha
  have := patV_join h60 bv (Or.inl ⟨rfl, rfl⟩)
  rw [altV_unit] at this
  exact ⟨this, sb⟩
theorem Gb.alt {x y : List Nat} {v u : Val} (h : Gb x v) (k : Gp y u) : Gp (x ++ 124 :: y) (altV v u) := fun t A h60 ha => by
  obtain ⟨ax, ay⟩ := ha.app
  obtain ⟨bv, sb⟩ := h.2 t A h60 ax
  obtain ⟨c0, l0, a1⟩ := ay.head
  obtain ⟨pv, sp⟩ := k t _ h60 a1
  have e : A + (x ++ 124 :: y).length = A + x.length + 1 + y.length := by simp; omega
  rw [e]
  refine ⟨patV_join h60 bv (Or.inr ⟨by omega, c0, pv⟩), sb.trans (ScanP.trans ?_ sp)⟩
  exact fun m d bk hm _ => ⟨0, bk, Or.inl rfl, Go'.step (by rw [c0]; exact goes_124 hm)⟩

def kindR : Re → Int := Re.fold ⟨1, fun _ => 2, fun _ _ => 3, fun _ _ => 4, fun _ => 5, fun _ => 6, fun _ => 7, fun _ _ _ => 8⟩
theorem kind_blank : kindR .blank = 1 := rfl
theorem kind_set (f : Nat → Bool) : kindR (.set f) = 2 := rfl
theorem kind_seq (a b : Re) : kindR (.seq a b) = 3 := rfl
theorem kind_alt (a b : Re) : kindR (.alt a b) = 4 := rfl
theorem kind_star (a : Re) : kindR (.star a) = 5 := rfl
theorem kind_plus (a : Re) : kindR (.plus a) = 6 := rfl
theorem kind_opt (a : Re) : kindR (.opt a) = 7 := rfl
theorem kind_times (m n : Nat) (a : Re) : kindR (.times m n a) = 8 := rfl
theorem Dr.kind {rs : List Rn} {R : Re} {k : Int} (h : Dr rs R k) : ∃ r, rs[k.toNat]? = some r ∧ r.kind = kindR R := by
  cases R using Re.ind with
  | blank => obtain ⟨r, _, h1, h2⟩ := h; exact ⟨r, h1, h2⟩
  | set f => obtain ⟨r, _, h1, h2, _⟩ := h; exact ⟨r, h1, h2⟩
  | seq a b _ _ => obtain ⟨r, _, h1, h2, _⟩ := h; exact ⟨r, h1, h2⟩
  | alt a b _ _ => obtain ⟨r, _, h1, h2, _⟩ := h; exact ⟨r, h1, h2⟩
  | star a _ => obtain ⟨r, _, h1, h2, _⟩ := h; exact ⟨r, h1, h2⟩
  | plus a _ => obtain ⟨r, _, h1, h2, _⟩ := h; exact ⟨r, h1, h2⟩
  | opt a _ => obtain ⟨r, _, h1, h2, _⟩ := h; exact ⟨r, h1, h2⟩
  | times m n a _ => obtain ⟨r, _, h1, h2, _⟩ := h; exact ⟨r, h1, h2⟩
theorem some_same {α : Type} {o : Option α} {a b : α} (h : o = some a) (k : o = some b) : a = b := Option.some.inj (h.symm.trans k)
section
attribute [local simp] kind_blank kind_set kind_seq kind_alt kind_star kind_plus kind_opt kind_times
/-- Two readings of one node are the same. -/
theorem Dr.same {rs : List Rn} : ∀ {R S : Re} {k : Int}, Dr rs R k → Dr rs S k → R = S := by
  intro R
  induction R using Re.ind with
  | blank =>
    intro S k h g
    have hk : kindR .blank = kindR S := by obtain ⟨r, a1, a2⟩ := h.kind; obtain ⟨r', b1, b2⟩ := g.kind; have := some_same a1 b1; subst this; rw [← a2, ← b2]
    cases S using Re.ind with
    | blank => rfl
    | _ => exact absurd hk (by simp)
  | set f =>
    intro S k h g
    have hk : kindR (.set f) = kindR S := by obtain ⟨r, a1, a2⟩ := h.kind; obtain ⟨r', b1, b2⟩ := g.kind; have := some_same a1 b1; subst this; rw [← a2, ← b2]
    cases S using Re.ind with
    | set f' => obtain ⟨r, _, a1, _, a2⟩ := h; obtain ⟨r', _, b1, _, b2⟩ := g; have := some_same a1 b1; subst this; rw [← a2, ← b2]
    | _ => exact absurd hk (by simp)
  | seq a b iha ihb =>
    intro S k h g
    have hk : kindR (.seq a b) = kindR S := by obtain ⟨r, a1, a2⟩ := h.kind; obtain ⟨r', b1, b2⟩ := g.kind; have := some_same a1 b1; subst this; rw [← a2, ← b2]
    cases S using Re.ind with
    | seq a' b' _ _ => obtain ⟨r, _, a1, _, a2, a3⟩ := h; obtain ⟨r', _, b1, _, b2, b3⟩ := g; have := some_same a1 b1; subst this; rw [iha a2 b2, ihb a3 b3]
    | _ => exact absurd hk (by simp)
  | alt a b iha ihb =>
    intro S k h g
    have hk : kindR (.alt a b) = kindR S := by obtain ⟨r, a1, a2⟩ := h.kind; obtain ⟨r', b1, b2⟩ := g.kind; have := some_same a1 b1; subst this; rw [← a2, ← b2]
    cases S using Re.ind with
    | alt a' b' _ _ => obtain ⟨r, _, a1, _, a2, a3⟩ := h; obtain ⟨r', _, b1, _, b2, b3⟩ := g; have := some_same a1 b1; subst this; rw [iha a2 b2, ihb a3 b3]
    | _ => exact absurd hk (by simp)
  | star a iha =>
    intro S k h g
    have hk : kindR (.star a) = kindR S := by obtain ⟨r, a1, a2⟩ := h.kind; obtain ⟨r', b1, b2⟩ := g.kind; have := some_same a1 b1; subst this; rw [← a2, ← b2]
    cases S using Re.ind with
    | star a' _ => obtain ⟨r, _, a1, _, a2⟩ := h; obtain ⟨r', _, b1, _, b2⟩ := g; have := some_same a1 b1; subst this; rw [iha a2 b2]
    | _ => exact absurd hk (by simp)
  | plus a iha =>
    intro S k h g
    have hk : kindR (.plus a) = kindR S := by obtain ⟨r, a1, a2⟩ := h.kind; obtain ⟨r', b1, b2⟩ := g.kind; have := some_same a1 b1; subst this; rw [← a2, ← b2]
    cases S using Re.ind with
    | plus a' _ => obtain ⟨r, _, a1, _, a2⟩ := h; obtain ⟨r', _, b1, _, b2⟩ := g; have := some_same a1 b1; subst this; rw [iha a2 b2]
    | _ => exact absurd hk (by simp)
  | opt a iha =>
    intro S k h g
    have hk : kindR (.opt a) = kindR S := by obtain ⟨r, a1, a2⟩ := h.kind; obtain ⟨r', b1, b2⟩ := g.kind; have := some_same a1 b1; subst this; rw [← a2, ← b2]
    cases S using Re.ind with
    | opt a' _ => obtain ⟨r, _, a1, _, a2⟩ := h; obtain ⟨r', _, b1, _, b2⟩ := g; have := some_same a1 b1; subst this; rw [iha a2 b2]
    | _ => exact absurd hk (by simp)
  | times m n a iha =>
    intro S k h g
    have hk : kindR (.times m n a) = kindR S := by obtain ⟨r, a1, a2⟩ := h.kind; obtain ⟨r', b1, b2⟩ := g.kind; have := some_same a1 b1; subst this; rw [← a2, ← b2]
    cases S using Re.ind with
    | times m' n' a' _ =>
      obtain ⟨r, _, a1, _, a2, a3, _, _, a4⟩ := h
      obtain ⟨r', _, b1, _, b2, b3, _, _, b4⟩ := g
      have := some_same a1 b1
      subst this
      have e1 : m = m' := by omega
      have e2 : n = n' := by omega
      rw [iha a4 b4, e1, e2]
    | _ => exact absurd hk (by simp)

theorem Dr.of5 {rs : List Rn} {R : Re} {k : Int} {r : Rn} (h : Dr rs R k) (h1 : rs[k.toNat]? = some r) (hk : r.kind = 5) : ∃ a, R = .star a ∧ Dr rs a r.l := by
  obtain ⟨r', g1, g2⟩ := h.kind
  rw [some_same g1 h1, hk] at g2
  cases R using Re.ind with
  | star a _ => obtain ⟨r', _, g3, _, g4⟩ := h; rw [some_same g3 h1] at g4; exact ⟨a, rfl, g4⟩
  | _ => exact absurd g2 (by simp)
theorem Dr.of8 {rs : List Rn} {R : Re} {k : Int} {r : Rn} (h : Dr rs R k) (h1 : rs[k.toNat]? = some r) (hk : r.kind = 8) : ∃ m n a, R = .times m n a ∧ r.m = (m : Int) ∧ r.n = (n : Int) ∧ Dr rs a r.l := by
  obtain ⟨r', g1, g2⟩ := h.kind
  rw [some_same g1 h1, hk] at g2
  cases R using Re.ind with
  | times m n a _ => obtain ⟨r', _, g3, _, g5, g6, _, _, g4⟩ := h; rw [some_same g3 h1] at g4 g5 g6; exact ⟨m, n, a, rfl, g5, g6, g4⟩
  | _ => exact absurd g2 (by simp)
end
/-- The document's answer to a text that is put together. -/
theorem Gp.place {p : ByteArray} {x : List Nat} {v : Val} (h : Gp x v) (h60 : p.size ≤ 60) (hp : AtW p 0 x) (hl : x.length = p.size) : placeS p = -1 := by
  obtain ⟨_, sp⟩ := h p 0 h60 hp
  obtain ⟨m', bk', hm, g1, g2⟩ := sp 0 0 0 (Or.inl rfl) (by omega)
  rw [Nat.zero_add, hl, Nat.sub_zero] at g2
  have := scan_adv p p.size 0 ⟨0, 0, 0⟩ _ g2 (by omega)
  rw [Nat.sub_zero] at this
  unfold placeS
  rw [this, show p.size - (0 + p.size) = 0 from by omega]
  unfold scanS
  rw [if_neg]
  simp only [Bool.or_eq_true, decide_eq_true_eq]
  omega
theorem Gp.reads {p : ByteArray} {x : List Nat} {v : Val} (h : Gp x v) (h60 : p.size ≤ 60) (hp : AtW p 0 x) (hl : x.length = p.size) : ∃ n rs k, rfF n 0 p 0 0 [] = some (rs, k) ∧ DrV rs k v := by
  obtain ⟨pv, _⟩ := h p 0 h60 hp
  obtain ⟨n, rs1, k, h1, h2⟩ := pv.2.2.2 []
  rw [Nat.zero_add, hl, ByteArray.extract_zero_size] at h1
  exact ⟨n, _, k, h1, h2⟩
theorem Gp.answer {p : ByteArray} {x : List Nat} {v : Val} (h : Gp x v) (h60 : p.size ≤ 60) (hp : AtW p 0 x) (hl : x.length = p.size) (hw : v.2 ≤ 12) {y : St} {i : Int} (hr : Rds p 0 0 x0 (y, i)) :
    (readErr p y).1 = 0 ∧ ∀ n rs k S, rfF n 0 p 0 0 [] = some (rs, k) → Dr rs S k → S.L = v.1 := by
  obtain ⟨n', rs', k', f1, S', f2, f3⟩ := h.reads h60 hp hl
  have key : ∀ n rs k S, rfF n 0 p 0 0 [] = some (rs, k) → Dr rs S k → S.val = v := by
    intro n rs k S g1 g2
    have a := rfF_mono n (max n n') 0 p 0 0 [] _ (Nat.le_max_left _ _) g1
    have b := rfF_mono n' (max n n') 0 p 0 0 [] _ (Nat.le_max_right _ _) f1
    rw [a] at b
    simp only [Option.some.injEq, Prod.mk.injEq] at b
    obtain ⟨rfl, rfl⟩ := b
    rw [Dr.same g2 f2, f3]
  have hn : ¬ (y.s.bad = true ∨ y.s.k < p.size) := fun hh => by
    have := (refOk_all p y i h60 hr).1 hh
    rw [h.place h60 hp hl] at this
    omega
  refine ⟨?_, fun n rs k S g1 g2 => congrArg Prod.fst (key n rs k S g1 g2)⟩
  obtain ⟨R, n, rs, k, S, _, _, e, g1, g2, hv⟩ := read_meets p y i h60 hr hn
  have e2 : R.wt = v.2 := by
    have := congrArg Prod.snd (hv.trans (key n rs k S g1 g2))
    exact this
  unfold readErr
  rw [if_neg (by simpa using hn), e, e2]
  unfold cl
  rw [if_neg (by omega), if_neg (by omega)]

end Go.Proofs.Ytobfpgoepaeknaa
namespace Go.Proofs.Ytobfpgoepaeknaa

/-- A digit in base sixteen. -/
def hexd (k : Nat) : Nat := if k < 10 then 48 + k else 87 + k
def escN (b : Nat) : List Nat := [92, hexd (b / 16), hexd (b % 16)]
theorem hexd_facts : ∀ k, k < 16 → hexB (hexd k : Int) = true ∧ mayBeEscapedB (hexd k : Int) = false ∧ digitI (hexd k : Int) = (k : Int) := by decide

/-- The text of one byte of a set. -/
def Gy (x : List Nat) (v : Int) : Prop := Lead x ∧ (∀ c y, x = c :: y → c ≠ 93 ∧ c ≠ 45 ∧ c ≠ 94) ∧ ∀ t A, AtW t A x → SB t A (A + x.length) ∧ sbV t A = v ∧ ∀ s : Sc, 8 ≤ s.mode → ∃ bk, Go' t A s (A + x.length) ⟨toS s, s.depth, bk⟩
theorem esc_sb {t : ByteArray} {A b : Nat} (hb : b < 256) (h : AtW t A (escN b)) : SB t A (A + 3) ∧ sbV t A = (b : Int) ∧ byteAt t A = 92 ∧ ∀ x d bk, goesS x 92 = (true, ⟨2, d, bk⟩) → Go' t A x (A + 3) ⟨bk, d, bk⟩ := by
  obtain ⟨b0, l0, a1⟩ := h.head
  obtain ⟨b1, l1, a2⟩ := a1.head
  obtain ⟨b2, l2, _⟩ := a2.head
  obtain ⟨p1, p2, p3⟩ := hexd_facts (b / 16) (by omega)
  obtain ⟨q1, q2, q3⟩ := hexd_facts (b % 16) (by omega)
  have b0' : byteAt t A = 92 := b0
  refine ⟨Or.inr (Or.inl ⟨b0', by rw [b1]; exact p2, l2, by rw [b1]; exact p1, by rw [show A + 2 = A + 1 + 1 from rfl, b2]; exact q1, rfl⟩), ?_, b0', fun x d bk hg => ?_⟩
  · unfold sbV
    rw [if_pos b0', b1, if_neg (by rw [p2]; simp), show A + 2 = A + 1 + 1 from rfl, b2, p3, q3]
    omega
  · have g0 : Go' t A x (A + 1) ⟨2, d, bk⟩ := Go'.step (by rw [b0']; exact hg)
    have g1 : Go' t (A + 1) ⟨2, d, bk⟩ (A + 1 + 1) ⟨3, d, bk⟩ := Go'.step (by rw [b1, goes2 rfl, p1, p2]; rfl)
    have g2 : Go' t (A + 1 + 1) ⟨3, d, bk⟩ (A + 1 + 1 + 1) ⟨bk, d, bk⟩ := Go'.step (by rw [b2, goes3 rfl, q1])
    exact (g0.trans g1).trans g2
theorem Gy.esc {b : Nat} (hb : b < 256) : Gy (escN b) (b : Int) := by
  refine ⟨⟨92, _, rfl, by decide⟩, fun c y h => by simp [escN] at h; omega, fun t A h => ?_⟩
  obtain ⟨s1, s2, s3, s4⟩ := esc_sb hb h
  exact ⟨s1, s2, fun s hs => ⟨toS s, s4 s _ _ (in_92 hs)⟩⟩
theorem Gy.plain {c : Nat} (hc : isPlainInSetB (c : Int) = true) (hs : atSuffixB (c : Int) = false) : Gy [c] (c : Int) := by
  have hc' := hc
  simp only [isPlainInSetB, Bool.and_eq_true, Bool.not_eq_true', Bool.or_eq_false_iff, beq_eq_false_iff_ne, decide_eq_true_eq] at hc'
  refine ⟨⟨c, [], rfl, hs⟩, fun c' y h => by simp at h; omega, fun t A h => ?_⟩
  obtain ⟨b0, l0, _⟩ := h.head
  refine ⟨Or.inr (Or.inr ⟨by rw [b0]; omega, by rw [b0]; omega, l0, rfl⟩), by unfold sbV; rw [if_neg (by rw [b0]; omega), b0], fun s hs => ⟨s.back, Go'.step (by rw [b0]; exact in_plain hs hc)⟩⟩

/-- The text of a set's items. -/
def Gm (x : List Nat) (G : (Nat → Bool) → Nat → Bool) : Prop := (∃ c y, x = c :: y ∧ c ≠ 94 ∧ c ≠ 45) ∧ ∀ t A, AtW t A (x ++ [93]) →
  Items t A (A + x.length) ∧ ItemsV t A (A + x.length) G ∧ ∀ md d bk, (md = 8 ∨ md = 9 ∨ md = 10 ∨ md = 12) → ∃ md' bk', (md' = 10 ∨ md' = 12) ∧ Go' t A ⟨md, d, bk⟩ (A + x.length) ⟨md', d, bk'⟩
theorem Gy.first {x : List Nat} {v : Int} (h : Gy x v) (y : List Nat) : ∃ c z, x ++ y = c :: z ∧ c ≠ 94 ∧ c ≠ 45 := by
  obtain ⟨c, z, rfl, _⟩ := h.1
  exact ⟨c, z ++ y, rfl, (h.2.1 c z rfl).2.2, (h.2.1 c z rfl).2.1⟩
theorem toS_ten {md d bk : Int} (h : md = 8 ∨ md = 9 ∨ md = 10 ∨ md = 12) : toS ⟨md, d, bk⟩ = 10 := by
  unfold toS; rw [if_neg]; simp; omega
theorem Gm.one {x : List Nat} {v : Int} (h : Gy x v) : Gm x (fun f => addR f v v) := by
  refine ⟨by have := h.first []; rw [List.append_nil] at this; exact this, fun t A ha => ?_⟩
  obtain ⟨ax, ac⟩ := ha.app
  obtain ⟨b0, l0, _⟩ := ac.head
  obtain ⟨s1, s2, s3⟩ := h.2.2 t A ax
  refine ⟨Items.one s1 (by rw [b0]; decide) (Items.none l0 b0), ?_, fun md d bk hm => ?_⟩
  · have := ItemsV.one s1 (by rw [b0]; decide) (ItemsV.none l0 b0)
    rw [s2] at this; exact this
  · obtain ⟨bk', g⟩ := s3 ⟨md, d, bk⟩ (by simp only; omega)
    rw [toS_ten hm] at g
    exact ⟨10, bk', Or.inl rfl, g⟩
theorem Gm.two {x y : List Nat} {v u : Int} (h : Gy x v) (k : Gy y u) : Gm (x ++ 45 :: y) (fun f => addR f v u) := by
  refine ⟨h.first _, fun t A ha => ?_⟩
  rw [List.append_assoc] at ha
  obtain ⟨ax, ay⟩ := ha.app
  obtain ⟨b0, l0, a1⟩ := ay.head
  obtain ⟨a2, ac⟩ := AtW.app (x := y) (y := [93]) a1
  obtain ⟨b1, l1, _⟩ := ac.head
  obtain ⟨s1, s2, s3⟩ := h.2.2 t A ax
  obtain ⟨r1, r2, r3⟩ := k.2.2 t _ a2
  have e : A + (x ++ 45 :: y).length = A + x.length + 1 + y.length := by simp; omega
  rw [e]
  refine ⟨Items.two s1 b0 r1 (Items.none l1 b1), ?_, fun md d bk hm => ?_⟩
  · have := ItemsV.two s1 b0 r1 (ItemsV.none l1 b1)
    rw [s2, r2] at this; exact this
  · obtain ⟨bk', g⟩ := s3 ⟨md, d, bk⟩ (by simp only; omega)
    rw [toS_ten hm] at g
    have g1 : Go' t (A + x.length) ⟨10, d, bk'⟩ (A + x.length + 1) ⟨11, d, bk'⟩ := Go'.step (by rw [b0]; rfl)
    obtain ⟨bk2, g2⟩ := r3 ⟨11, d, bk'⟩ (by simp only; omega)
    exact ⟨12, bk2, Or.inr rfl, (g.trans g1).trans g2⟩
theorem Gm.cons {x y : List Nat} {v : Int} {G : (Nat → Bool) → Nat → Bool} (h : Gy x v) (k : Gm y G) : Gm (x ++ y) (fun f => G (addR f v v)) := by
  refine ⟨h.first _, fun t A ha => ?_⟩
  rw [List.append_assoc] at ha
  obtain ⟨ax, ay⟩ := ha.app
  obtain ⟨s1, s2, s3⟩ := h.2.2 t A ax
  obtain ⟨i1, i2, i3⟩ := k.2 t _ ay
  obtain ⟨c, z, rfl, _, h45⟩ := k.1
  have b0 := ay.head.1
  rw [List.length_append, ← Nat.add_assoc]
  refine ⟨Items.one s1 (by rw [b0]; omega) i1, ?_, fun md d bk hm => ?_⟩
  · have := ItemsV.one s1 (by rw [b0]; omega) i2
    rw [s2] at this; exact this
  · obtain ⟨bk', g⟩ := s3 ⟨md, d, bk⟩ (by simp only; omega)
    rw [toS_ten hm] at g
    obtain ⟨md2, bk2, hm2, g2⟩ := i3 10 d bk' (Or.inr (Or.inr (Or.inl rfl)))
    exact ⟨md2, bk2, hm2, g.trans g2⟩

theorem step_set {t : ByteArray} {A E : Nat} (h91 : byteAt t A = 91) (it : Items t (A + 1) E) : StepT t A (E + 1) := by
  have h1' := it.1
  intro a b h1 h2 h3 f hf
  have hs := size_ext (a := a) h3
  obtain ⟨f, rfl⟩ : ∃ f', f = f' + 1 := ⟨f - 1, by omega⟩
  rw [ovF, if_pos (by omega), byteAt_win h3 h1 (by omega), if_neg (by simp [h91]), if_pos (by simp [h91]), show A - a + 1 = A + 1 - a from by omega]
  exact (it.2.2 a b (by omega) (by omega) h3).1 f (by omega)
theorem step_not {t : ByteArray} {A E : Nat} (h91 : byteAt t A = 91) (h94 : byteAt t (A + 1) = 94) (it : Items t (A + 2) E) : StepT t A (E + 1) := by
  have h1' := it.1
  intro a b h1 h2 h3 f hf
  have hs := size_ext (a := a) h3
  obtain ⟨f, rfl⟩ : ∃ f', f = f' + 2 := ⟨f - 2, by omega⟩
  rw [ovF, if_pos (by omega), byteAt_win h3 h1 (by omega), if_neg (by simp [h91]), if_pos (by simp [h91]), show A - a + 1 = A + 1 - a from by omega]
  rw [ovF, if_pos (by omega), byteAt_win h3 (by omega) (by omega), if_neg (by simp [h94]), if_neg (by simp [h94]), show A + 1 - a + 1 = A + 2 - a from by omega]
  exact (it.2.2 a b (by omega) (by omega) h3).1 f (by omega)

theorem Ga.leaf {x : List Nat} {f : Nat → Bool} (hl : Lead x) (h : ∀ t A, t.size ≤ 60 → AtW t A x → StepT t A (A + x.length) ∧ byteAt t A ≠ 40 ∧ noBar (byteAt t A) = true ∧ leafS (t.extract A (A + x.length)) = some ⟨2, 0, 0, 0, 0, f⟩ ∧ ScanA t A (A + x.length)) : Ga x (Re.set f).val := by
  refine ⟨hl, fun t A h60 ha => ?_⟩
  obtain ⟨h1, h2, h3, h4, h5⟩ := h t A h60 ha
  obtain ⟨c, z, rfl, _⟩ := hl
  exact ⟨atoV_leaf h1 (by simp) (by have := ha.1; omega) h2 h3 h4, h5⟩
theorem Ga.esc {b : Nat} (hb : b < 256) : Ga (escN b) (Re.set (addR noSet (b : Int) (b : Int))).val := by
  refine Ga.leaf ⟨92, _, rfl, by decide⟩ fun t A h60 ha => ?_
  obtain ⟨s1, s2, s3, s4⟩ := esc_sb hb ha
  have hB : A + 3 ≤ t.size := ha.1
  refine ⟨step_escape s1 s3, by rw [s3]; decide, by rw [s3]; decide, ?_, fun m d bk hm hd => ⟨1, s4 _ _ _ (by rw [goes_out hm]; rfl)⟩⟩
  show leafS (t.extract A (A + 3)) = _
  have hs := size_ext (t := t) (a := A) hB
  have b0 : byteAt (t.extract A (A + 3)) 0 = 92 := by rw [byteAt_ext hB (by omega), Nat.add_zero]; exact s3
  have hv := s1.val (Nat.le_refl _) (Nat.le_refl _) hB
  rw [Nat.sub_self, s2] at hv
  unfold leafS
  rw [if_pos (by omega), b0, if_neg (by decide), if_neg (by decide), hv]
  rfl
theorem Ga.mark {c : Nat} (hc : mayBeEscapedB (c : Int) = true) : Ga [92, c] (Re.set (addR noSet (c : Int) (c : Int))).val := by
  refine Ga.leaf ⟨92, _, rfl, by decide⟩ fun t A h60 ha => ?_
  obtain ⟨b0, l0, a1⟩ := ha.head
  obtain ⟨b1, l1, _⟩ := a1.head
  have s3 : byteAt t A = 92 := b0
  have hB : A + 2 ≤ t.size := ha.1
  have s1 : SB t A (A + 2) := Or.inl ⟨s3, l1, by rw [b1]; exact hc, rfl⟩
  have s2 : sbV t A = (c : Int) := by unfold sbV; rw [if_pos s3, b1, if_pos hc]
  refine ⟨step_escape s1 s3, by rw [s3]; decide, by rw [s3]; decide, ?_, fun m d bk hm hd => ⟨1, ?_⟩⟩
  · show leafS (t.extract A (A + 2)) = _
    have hs := size_ext (t := t) (a := A) hB
    have b0 : byteAt (t.extract A (A + 2)) 0 = 92 := by rw [byteAt_ext hB (by omega), Nat.add_zero]; exact s3
    have hv := s1.val (Nat.le_refl _) (Nat.le_refl _) hB
    rw [Nat.sub_self, s2] at hv
    unfold leafS
    rw [if_pos (by omega), b0, if_neg (by decide), if_neg (by decide), hv]
    rfl
  · have g0 : Go' t A ⟨m, d, bk⟩ (A + 1) ⟨2, d, 1⟩ := Go'.step (by rw [s3, goes_out hm]; rfl)
    have g1 : Go' t (A + 1) ⟨2, d, 1⟩ (A + 1 + 1) ⟨1, d, 1⟩ := Go'.step (by rw [b1, goes2 rfl, hc]; rfl)
    exact g0.trans g1
theorem Ga.plain {c : Nat} (hc : isPlainB (c : Int) = true) : Ga [c] (Re.set (addR noSet (c : Int) (c : Int))).val := by
  have hc' := hc
  simp only [isPlainB, isMarkB, Bool.and_eq_true, Bool.not_eq_true', Bool.or_eq_false_iff, beq_eq_false_iff_ne, decide_eq_true_eq] at hc'
  refine Ga.leaf ⟨c, [], rfl, by unfold atSuffixB; simp; omega⟩ fun t A h60 ha => ?_
  obtain ⟨b0, l0, _⟩ := ha.head
  have hB : A + 1 ≤ t.size := ha.1
  have s1 : SB t A (A + 1) := Or.inr (Or.inr ⟨by rw [b0]; omega, by rw [b0]; omega, l0, rfl⟩)
  have s2 : sbV t A = (c : Int) := by unfold sbV; rw [if_neg (by rw [b0]; omega), b0]
  refine ⟨step_one l0 (by rw [b0]; omega) (by rw [b0]; omega) (by rw [b0]; omega), by rw [b0]; omega, by rw [b0]; simp only [noBar, Bool.and_eq_true, Bool.not_eq_true', beq_eq_false_iff_ne]; omega, ?_, fun m d bk hm hd => ⟨bk, Go'.step (by rw [b0]; exact out_plain hm (Or.inl hc))⟩⟩
  show leafS (t.extract A (A + 1)) = _
  have hs := size_ext (t := t) (a := A) hB
  have b0' : byteAt (t.extract A (A + 1)) 0 = (c : Int) := by rw [byteAt_ext hB (by omega), Nat.add_zero]; exact b0
  have hv := s1.val (Nat.le_refl _) (Nat.le_refl _) hB
  rw [Nat.sub_self, s2] at hv
  unfold leafS
  rw [if_pos (by omega), b0', if_neg (by simp; omega), if_neg (by simp; omega), hv]
  rfl
theorem Ga.dot : Ga [46] (Re.set fun _ => true).val := by
  refine Ga.leaf ⟨46, [], rfl, by decide⟩ fun t A h60 ha => ?_
  obtain ⟨b0, l0, _⟩ := ha.head
  have b0 : byteAt t A = 46 := b0
  have hB : A + 1 ≤ t.size := ha.1
  refine ⟨step_one l0 (by rw [b0]; decide) (by rw [b0]; decide) (by rw [b0]; decide), by rw [b0]; decide, by rw [b0]; decide, ?_, fun m d bk hm hd => ⟨bk, Go'.step (by rw [b0]; exact out_plain hm (Or.inr rfl))⟩⟩
  show leafS (t.extract A (A + 1)) = _
  have hs := size_ext (t := t) (a := A) hB
  have b0' : byteAt (t.extract A (A + 1)) 0 = 46 := by rw [byteAt_ext hB (by omega), Nat.add_zero]; exact b0
  unfold leafS
  rw [if_pos (by omega), b0', if_pos (by decide)]

theorem goes_91 {m d bk : Int} (h : m = 0 ∨ m = 1) : goesS ⟨m, d, bk⟩ 91 = (true, ⟨8, d, bk⟩) := by rw [goes_out h]; rfl
theorem goes_93 {m d bk : Int} (h : m = 10 ∨ m = 12) : goesS ⟨m, d, bk⟩ 93 = (true, ⟨1, d, bk⟩) := by
  rcases h with rfl | rfl <;> rfl
theorem Ga.set {x : List Nat} {G : (Nat → Bool) → Nat → Bool} (h : Gm x G) : Ga (91 :: (x ++ [93])) (Re.set (G noSet)).val := by
  refine Ga.leaf ⟨91, _, rfl, by decide⟩ fun t A h60 ha => ?_
  obtain ⟨b0, l0, a1⟩ := ha.head
  have b0 : byteAt t A = 91 := b0
  obtain ⟨i1, i2, i3⟩ := h.2 t _ a1
  obtain ⟨ax, ac⟩ := a1.app
  obtain ⟨b1, l1, _⟩ := ac.head
  obtain ⟨c, z, rfl, h94, _⟩ := h.1
  have c1 : byteAt t (A + 1) = (c : Int) := ax.head.1
  have e : A + (91 :: (c :: z ++ [93])).length = A + 1 + (c :: z).length + 1 := by simp; omega
  rw [e]
  refine ⟨step_set b0 i1, by rw [b0]; decide, by rw [b0]; decide, ?_, fun m d bk hm hd => ?_⟩
  · have hB : A + 1 + (c :: z).length + 1 ≤ t.size := l1
    have hs := size_ext (t := t) (a := A) hB
    have b0' : byteAt (t.extract A (A + 1 + (c :: z).length + 1)) 0 = 91 := by rw [byteAt_ext hB (by omega), Nat.add_zero]; exact b0
    have b1' : byteAt (t.extract A (A + 1 + (c :: z).length + 1)) 1 = (c : Int) := by rw [byteAt_ext hB (by simp; omega)]; exact c1
    have hi := i2.2.2 A (A + 1 + (c :: z).length + 1) (by omega) (by omega) hB 61 (by omega) noSet
    rw [show A + 1 - A = 1 from by omega] at hi
    unfold leafS
    rw [if_pos (by omega), b0', if_neg (by decide), if_pos (by decide), if_pos (by omega), b1', if_neg (by simp; omega), hi]
    rfl
  · have g0 : Go' t A ⟨m, d, bk⟩ (A + 1) ⟨8, d, bk⟩ := Go'.step (by rw [b0]; exact goes_91 hm)
    obtain ⟨md', bk', hm', g1⟩ := i3 8 d bk (Or.inl rfl)
    exact ⟨bk', (g0.trans g1).trans (Go'.step (by rw [b1]; exact goes_93 hm'))⟩
theorem Ga.not {x : List Nat} {G : (Nat → Bool) → Nat → Bool} (h : Gm x G) : Ga (91 :: 94 :: (x ++ [93])) (Re.set fun j => !G noSet j).val := by
  refine Ga.leaf ⟨91, _, rfl, by decide⟩ fun t A h60 ha => ?_
  obtain ⟨b0, l0, a1⟩ := ha.head
  have b0 : byteAt t A = 91 := b0
  obtain ⟨c1, l2, a2⟩ := a1.head
  have c1 : byteAt t (A + 1) = 94 := c1
  obtain ⟨i1, i2, i3⟩ := h.2 t _ a2
  obtain ⟨ax, ac⟩ := a2.app
  obtain ⟨b1, l1, _⟩ := ac.head
  have e : A + (91 :: 94 :: (x ++ [93])).length = A + 1 + 1 + x.length + 1 := by simp; omega
  rw [e]
  refine ⟨step_not b0 c1 i1, by rw [b0]; decide, by rw [b0]; decide, ?_, fun m d bk hm hd => ?_⟩
  · have hB : A + 1 + 1 + x.length + 1 ≤ t.size := l1
    have hs := size_ext (t := t) (a := A) hB
    have b0' : byteAt (t.extract A (A + 1 + 1 + x.length + 1)) 0 = 91 := by rw [byteAt_ext hB (by omega), Nat.add_zero]; exact b0
    have b1' : byteAt (t.extract A (A + 1 + 1 + x.length + 1)) 1 = 94 := by rw [byteAt_ext hB (by omega)]; exact c1
    have hi := i2.2.2 A (A + 1 + 1 + x.length + 1) (by omega) (by omega) hB 61 (by omega) noSet
    rw [show A + 1 + 1 - A = 2 from by omega] at hi
    unfold leafS
    rw [if_pos (by omega), b0', if_neg (by decide), if_pos (by decide), if_pos (by omega), b1', if_pos (by decide), hi]
    rfl
  · have g0 : Go' t A ⟨m, d, bk⟩ (A + 1) ⟨8, d, bk⟩ := Go'.step (by rw [b0]; exact goes_91 hm)
    have g0' : Go' t (A + 1) ⟨8, d, bk⟩ (A + 1 + 1) ⟨9, d, bk⟩ := Go'.step (by rw [c1]; rfl)
    obtain ⟨md', bk', hm', g1⟩ := i3 9 d bk (Or.inr (Or.inl rfl))
    exact ⟨bk', ((g0.trans g0').trans g1).trans (Go'.step (by rw [b1]; exact goes_93 hm'))⟩

/-- A string that is escaped, byte by byte. -/
def escAll (s : List Nat) : List Nat := s.flatMap escN
def strL (s : List Nat) : Lang := fun w => w = s
theorem strL_cons (b : Nat) (s : List Nat) : catL (setL (addR noSet (b : Int) (b : Int))) (strL s) = strL (b :: s) := by
  refine Lang.ext fun w => ⟨?_, ?_⟩
  · rintro ⟨u, v, rfl, ⟨c, rfl, hc⟩, rfl⟩
    have : c = b := by simp [addR, noSet] at hc; omega
    subst this; rfl
  · rintro rfl
    exact ⟨[b], s, rfl, ⟨b, rfl, by simp [addR, noSet]⟩, rfl⟩
theorem strL_one (b : Nat) : setL (addR noSet (b : Int) (b : Int)) = strL [b] := by
  refine Lang.ext fun w => ⟨?_, ?_⟩
  · rintro ⟨c, rfl, hc⟩
    have : c = b := by simp [addR, noSet] at hc; omega
    subst this; rfl
  · rintro rfl
    exact ⟨b, rfl, by simp [addR, noSet]⟩
theorem escAll_len (s : List Nat) : (escAll s).length = 3 * s.length := by
  induction s with
  | nil => rfl
  | cons b s ih => show (escN b ++ escAll s).length = _; rw [List.length_append, ih]; simp [escN]; omega
theorem escAll_lead (b : Nat) (s : List Nat) : Lead (escAll (b :: s)) := ⟨92, _, rfl, by decide⟩
theorem Gb.escs : ∀ (b : Nat) (s : List Nat), (∀ c ∈ b :: s, c < 256) → Gb (escAll (b :: s)) (strL (b :: s), ((s.length : Int) + 1))
  | b, [], h => by
    have := (Ga.esc (h b (by simp))).i.b
    have e : (Re.set (addR noSet (b : Int) (b : Int))).val = (strL [b], (([] : List Nat).length : Int) + 1) := Val.ext (strL_one b) rfl
    rw [e] at this
    have e2 : escAll [b] = escN b := by simp [escAll]
    rw [e2]; exact this
  | b, c :: s, h => by
    have ih := Gb.escs c s (fun x hx => h x (List.mem_cons_of_mem _ hx))
    have := (Ga.esc (h b (by simp))).i.cat ih (escAll_lead c s)
    have e : catV (Re.set (addR noSet (b : Int) (b : Int))).val (strL (c :: s), (s.length : Int) + 1) = (strL (b :: c :: s), (((c :: s).length : Nat) : Int) + 1) :=
      Val.ext (strL_cons b (c :: s)) (by show (1 : Int) + ((s.length : Int) + 1) = _; simp; omega)
    rw [e] at this
    exact this
/-- The value of an escaped string: the empty one weighs 1. -/
def strV (s : List Nat) : Val := (strL s, if s = [] then 1 else (s.length : Int))
theorem Gb.str (s : List Nat) (h : ∀ c ∈ s, c < 256) : Gb (escAll s) (strV s) := by
  cases s with
  | nil => exact Gb.nil
  | cons b s =>
    have := Gb.escs b s h
    have e : strV (b :: s) = (strL (b :: s), (s.length : Int) + 1) := Val.ext rfl (by unfold strV; simp)
    rw [e]; exact this

end Go.Proofs.Ytobfpgoepaeknaa
namespace Go.Proofs.Ytobfpgoepaeknaa
open Go.RowKit
attribute [local go_sem ↓] Go.wp_at_zero Go.wp_at_succ

theorem bytesN_app (a b : ByteArray) : bytesN (a ++ b) = bytesN a ++ bytesN b := by simp [bytesN]
theorem bytesN_lt (a : ByteArray) : ∀ c ∈ bytesN a, c < 256 := by
  intro c hc
  unfold bytesN at hc
  rw [List.mem_map] at hc
  obtain ⟨b, _, rfl⟩ := hc
  exact b.toNat_lt
theorem bytesN_inj {a b : ByteArray} (h : bytesN a = bytesN b) : a = b := by
  have : a.data.toList = b.data.toList := List.map_inj_right (fun x y e => UInt8.toNat_inj.1 e) |>.1 h
  exact ByteArray.ext (Array.toList_inj.1 this)
theorem bytesN_ext (a : ByteArray) (n m : Nat) : bytesN (a.extract n m) = (bytesN a).extract n m := by
  unfold bytesN; rw [ByteArray.data_extract, Array.toList_extract, List.extract_eq_take_drop, List.extract_eq_take_drop, List.map_take, List.map_drop]
theorem atW_all (p : ByteArray) : AtW p 0 (bytesN p) := by
  refine ⟨by rw [bytesN_len]; omega, fun i c hi => ?_⟩
  have hl := (List.getElem?_eq_some_iff.1 hi).1
  have hl' : i < p.size := by rw [bytesN_len] at hl; exact hl
  rw [Nat.zero_add, byteAt_eq hl', ← bytesN_at p i hl' hl]
  rw [List.getElem?_eq_getElem hl] at hi
  rw [Option.some.inj hi]

/-- A text that is put together is matched by the strings of its value. -/
theorem match_text (w : World) (p s : ByteArray) (x : List Nat) (v : Val) (hG : Gp x v) (hx : bytesN p = x) (hp : p.size ≤ 60) (hw : v.2 ≤ 12) (hs : s.size ≤ 16) :
    Calls Try.prog 8 #[.string p, .string s] w fun e w' => (∃ b, e = .returned (.tuple #[.bool b, .int .i64 0]) ∧ (b = true ↔ v.1 (bytesN s))) ∧ Below w.heap.size w w' := by
  refine (VMatch_any w p s hp hs).mono ?_
  rintro e w' ⟨y, i, b, hr, rfl, hb, -, h0⟩
  subst hx
  obtain ⟨g1, g2⟩ := hG.answer hp (atW_all p) (bytesN_len p) hw hr
  obtain ⟨n, rs, k, S, f1, f2, f3⟩ := h0 g1
  rw [g1]
  exact ⟨⟨b, rfl, by rw [f3, g2 n rs k S f1 f2]⟩, hb⟩

set_option maxHeartbeats 400000 in
theorem says_any (w : World) (p s : ByteArray) (want : Bool) (x : List Nat) (v : Val) (hG : Gp x v) (hx : bytesN p = x) (hp : p.size ≤ 60) (hw : v.2 ≤ 12) (hs : s.size ≤ 16) (hwant : want = true ↔ v.1 (bytesN s)) :
    Calls Try.prog 13 #[.string p, .string s, .bool want] w fun e w' => e = .returned (.bool true) ∧ Below w.heap.size w w' := by
  have HM := hide (match_text w p s x v hG hx hp hw hs)
  have HW := hide hwant
  clear hG hx hp hw hs hwant
  go_enter Try.func13, Try.ntmps13
  go_wp2_with fail
  refine (unhide HM).mono ?_
  rintro e w1 ⟨⟨b, rfl, hb⟩, hw1⟩
  have : b = want := by rw [Bool.eq_iff_iff, hb, unhide HW]
  subst this
  clear hb HM
  go_wp2
  go_ret
  exact ⟨ret_bool (by simp), hw1⟩

set_option maxHeartbeats 400000 in
theorem short_any (w : World) (s : ByteArray) (n : Nat) (hn : n ≤ 1000) :
    Calls Try.prog 11 #[.string s, .int .i64 (n : Int)] w fun e w' => (∃ u : ByteArray, e = .returned (.string u) ∧ u.size ≤ n ∧ bytesN u = (bytesN s).take n) ∧ w' = w := by
  have hnI : (n : Int) ≤ 1000 := by omega
  by_cases hl : n < s.size
  · have hlI : (n : Int) < (s.size : Int) := by omega
    clear hn
    go_enter Try.func11, Try.ntmps11
    go_wp2
    go_ret
    refine ⟨⟨s.extract 0 n, rfl, by rw [size_ext (by omega)]; omega, ?_⟩, rfl⟩
    rw [bytesN_ext, List.extract_eq_take_drop]; simp
  · have hlI : (s.size : Int) ≤ (n : Int) := by omega
    clear hn
    go_enter Try.func11, Try.ntmps11
    go_wp2
    go_ret
    exact ⟨⟨s, rfl, by omega, by rw [List.take_of_length_le (by rw [bytesN_len]; omega)]⟩, rfl⟩

def picked (c n : Int) : Int := (if c < 0 then -(c + 1) else c) % n
theorem picked_bd (c : Int) {n : Int} (hn : 0 < n) : 0 ≤ picked c n ∧ picked c n < n := ⟨Int.emod_nonneg _ (by omega), Int.emod_lt_of_pos _ hn⟩

set_option maxHeartbeats 400000 in
theorem pick_any (w : World) (c : Int) (n : Int) (h1 : -9223372036854775808 ≤ c) (h2 : c ≤ 9223372036854775807) (hn : 0 < n) (hn2 : n ≤ 1000) :
    Calls Try.prog 14 #[.int .i64 c, .int .i64 n] w fun e w' => e = .returned (.int .i64 (picked c n)) ∧ w' = w := by
  by_cases hc : c < 0
  · have e : picked c n = (-(c + 1)) % n := by unfold picked; rw [if_pos hc]
    go_enter Try.func14, Try.ntmps14
    go_wp2
    go_ret
    exact ⟨ret_int (by rw [e, ← Int.tmod_eq_emod_of_nonneg (by omega), Int.neg_tmod]), rfl⟩
  · have e : picked c n = c % n := by unfold picked; rw [if_neg hc]
    go_enter Try.func14, Try.ntmps14
    go_wp2
    go_ret
    exact ⟨ret_int (by first | rfl | rw [e]), rfl⟩

def digitsB : ByteArray := { data := #[48, 49, 50, 51, 52, 53, 54, 55, 56, 57, 97, 98, 99, 100, 101, 102] }
theorem digits_at : ∀ k, k < 16 → bytesN (digitsB.extract k (k + 1)) = [hexd k] := by decide

theorem below_drewN {B : Nat} {a w : World} (h : Below B a w) (n : Nat) : Below B a (w.drewN n) := ⟨h.os, h.tape, h.output, h.size, h.block⟩

theorem same_bytes (u v : ByteArray) : (u.toList == v.toList) = true ↔ bytesN v = bytesN u := by
  rw [ByteArray.toList_eq, ByteArray.toList_eq, beq_iff_eq]
  constructor
  · intro h; rw [ByteArray.ext (Array.toList_inj.1 h)]
  · intro h; rw [bytesN_inj h]

theorem no_iff {P : Prop} (h : ¬ P) : (false = true ↔ P) := ⟨fun e => Bool.noConfusion e, fun p => absurd p h⟩
theorem yes_iff {P : Prop} (h : P) : (true = true ↔ P) := ⟨fun _ => h, fun _ => rfl⟩

end Go.Proofs.Ytobfpgoepaeknaa
