/-
  Plain facts on the reading of a pattern: how often a part may come is a digit; there is a node.
-/
import Derived.Test.YtibhlnhmejlhbaaMf
namespace Go.Proofs.Ytibhlnhmejlhbaa

def DigitsOk (ns : List Nd) : Prop := ∀ n ∈ ns, 0 ≤ n.high ∧ n.high ≤ 9

theorem DigitsOk.snoc {ns : List Nd} (h : DigitsOk ns) {n : Nd} (h0 : 0 ≤ n.high) (h9 : n.high ≤ 9) : DigitsOk (ns ++ [n]) := by
  intro m hm
  rw [List.mem_append] at hm
  rcases hm with hm | hm
  · exact h m hm
  · simp at hm; subst hm; exact ⟨h0, h9⟩

theorem readSuffixS_ok {t : ByteArray} {whole : Int} {x : St} (h : DigitsOk x.ns) : DigitsOk (readSuffixS t whole x).ns ∧ (readSuffixS t whole x).ns.length = x.ns.length + 1 := by
  unfold readSuffixS
  split
  · exact ⟨h.snoc (by simp) (by simp), by simp [St.add, St.at]⟩
  · split
    · exact ⟨h.snoc (by simp) (by simp), by simp [St.add, St.at]⟩
    · split
      · exact ⟨h.snoc (by simp) (by simp), by simp [St.add, St.at]⟩
      · have := readDigitS_bd t 10 (expectS t 44 (readDigitS t 10 (expectS t 123 x.s)).2) (by omega)
        exact ⟨h.snoc (by simp only; omega) (by simp only; omega), by simp [St.add, St.at]⟩

theorem readLeafS_ok {t : ByteArray} {x : St} (h : DigitsOk x.ns) : DigitsOk (readLeafS t x).ns ∧ (readLeafS t x).ns.length = x.ns.length + 1 := by
  unfold readLeafS
  split
  · exact ⟨h.snoc (by simp) (by simp), by simp [St.addSet, St.at]⟩
  · split
    · exact ⟨h.snoc (by simp) (by simp), by simp [St.addSet, St.at]⟩
    · exact ⟨h.snoc (by simp) (by simp), by simp [St.addSet, St.at]⟩

def lays (tag : Nat) : Nat := match tag with | 1 => 0 | 3 => 0 | 5 => 0 | _ => 1

theorem rdF_ok (t : ByteArray) : ∀ (f tag : Nat) (whole : Int) (x : St) (r : St × Int), rdF t f tag whole x = some r → DigitsOk x.ns → DigitsOk r.1.ns ∧ x.ns.length + lays tag ≤ r.1.ns.length := by
  intro f
  induction f with
  | zero => intro tag whole x r h; simp [rdF] at h
  | succ f ih =>
    intro tag whole x r h hd
    match tag with
    | 0 =>
      simp only [rdF, Option.bind_eq_some_iff] at h
      obtain ⟨r1, h1, h2⟩ := h
      have a := ih 2 _ _ _ h1 hd
      have b := ih 1 _ _ _ h2 a.1
      exact ⟨b.1, by have := a.2; have := b.2; simp only [lays] at *; omega⟩
    | 1 =>
      simp only [rdF] at h
      split at h
      · simp only [Option.bind_eq_some_iff] at h
        obtain ⟨r1, h1, h2⟩ := h
        have a := ih 2 _ _ _ h1 hd
        have b := ih 1 _ _ _ h2 (a.1.snoc (by simp) (by simp))
        exact ⟨b.1, by have := a.2; have := b.2; simp [lays, St.add, St.at] at *; omega⟩
      · simp only [Option.some.injEq] at h; subst h
        exact ⟨hd, by simp [lays]⟩
    | 2 =>
      simp only [rdF] at h
      split at h
      · simp only [Option.bind_eq_some_iff] at h
        obtain ⟨r1, h1, h2⟩ := h
        have a := ih 4 _ _ _ h1 hd
        have b := ih 3 _ _ _ h2 a.1
        exact ⟨b.1, by have := a.2; have := b.2; simp only [lays] at *; omega⟩
      · simp only [Option.some.injEq] at h; subst h
        exact ⟨hd.snoc (by simp) (by simp), by simp [lays, St.add]⟩
    | 3 =>
      simp only [rdF] at h
      split at h
      · simp only [Option.bind_eq_some_iff] at h
        obtain ⟨r1, h1, h2⟩ := h
        have a := ih 4 _ _ _ h1 hd
        have b := ih 3 _ _ _ h2 (a.1.snoc (by simp) (by simp))
        exact ⟨b.1, by have := a.2; have := b.2; simp [lays, St.add] at *; omega⟩
      · simp only [Option.some.injEq] at h; subst h
        exact ⟨hd, by simp [lays]⟩
    | 4 =>
      simp only [rdF, Option.bind_eq_some_iff] at h
      obtain ⟨r1, h1, h2⟩ := h
      have a := ih 6 _ _ _ h1 hd
      have b := ih 5 _ _ _ h2 a.1
      exact ⟨b.1, by have := a.2; have := b.2; simp only [lays] at *; omega⟩
    | 5 =>
      simp only [rdF] at h
      split at h
      · have a := readSuffixS_ok (t := t) (whole := whole) hd
        have b := ih 5 _ _ _ h a.1
        exact ⟨b.1, by have := a.2; have := b.2; simp only [lays] at *; omega⟩
      · simp only [Option.some.injEq] at h; subst h
        exact ⟨hd, by simp [lays]⟩
    | tag + 6 =>
      simp only [rdF] at h
      split at h
      · simp only [Option.bind_eq_some_iff, Option.some.injEq] at h
        obtain ⟨r1, h1, rfl⟩ := h
        have a := ih 0 _ _ _ h1 hd
        exact ⟨a.1, by have := a.2; simp only [lays, St.at] at *; omega⟩
      · simp only [Option.some.injEq] at h; subst h
        have a := readLeafS_ok (t := t) hd
        exact ⟨a.1, by simp only [lays, a.2]; omega⟩

def x0 : St := ⟨⟨0, false⟩, [], []⟩

def lastW (ws : List Int) : Int := ws.getLast?.getD 0

/-- The error and the number that a text which was read so far comes to. -/
def readErr (t : ByteArray) (y : St) : Int × Int :=
  if (y.s.bad || decide (y.s.k < t.size)) = true then (2, (y.s.k : Int))
  else if 12 < lastW (weighAll y.ns) then (3, 0) else (0, lastW (weighAll y.ns))

end Go.Proofs.Ytibhlnhmejlhbaa
