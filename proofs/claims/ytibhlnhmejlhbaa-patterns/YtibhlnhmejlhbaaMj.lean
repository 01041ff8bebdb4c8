/-
  Plain facts: the nodes of the document's answer only grow.
-/
import Derived.Test.YtibhlnhmejlhbaaMi
namespace Go.Proofs.Ytibhlnhmejlhbaa

theorem rfF_grows : ∀ (n tag : Nat) (p : ByteArray) (a : Nat) (l : Int) (rs : List Rn) (r : List Rn × Int), rfF n tag p a l rs = some r → rs.length ≤ r.1.length := by
  intro n
  induction n with
  | zero => intro tag p a l rs r h; simp [rfF] at h
  | succ n ih =>
    intro tag p a l rs r h
    match tag with
    | 0 => simp only [rfF] at h; exact ih _ _ _ _ _ _ h
    | 1 =>
      simp only [rfF] at h
      split at h
      · rw [Option.bind_eq_some_iff] at h
        obtain ⟨j, _, h⟩ := h
        exact ih _ _ _ _ _ _ h
      · split at h
        · rw [Option.bind_eq_some_iff] at h
          obtain ⟨x, hx, h⟩ := h
          have g1 := ih _ _ _ _ _ _ hx
          split at h
          · simp only [Option.some.injEq] at h; subst h; exact g1
          · rw [Option.bind_eq_some_iff] at h
            obtain ⟨y, hy, h⟩ := h
            have g2 := ih _ _ _ _ _ _ hy
            simp only [Option.some.injEq] at h; subst h
            simp only [List.length_append, List.length_cons, List.length_nil]; omega
        · cases h
    | 2 =>
      simp only [rfF] at h
      split at h
      · simp only [Option.some.injEq] at h; subst h; simp
      · rw [Option.bind_eq_some_iff] at h
        obtain ⟨j, _, h⟩ := h
        split at h
        · rw [Option.bind_eq_some_iff] at h
          obtain ⟨x, hx, h⟩ := h
          have g1 := ih _ _ _ _ _ _ hx
          have g2 := ih _ _ _ _ _ _ h
          omega
        · cases h
    | 3 =>
      simp only [rfF] at h
      split at h
      · have g := ih _ _ _ _ _ _ h; simp at g; omega
      · split at h
        · have g := ih _ _ _ _ _ _ h; simp at g; omega
        · split at h
          · have g := ih _ _ _ _ _ _ h; simp at g; omega
          · split at h
            · split at h
              · have g := ih _ _ _ _ _ _ h; simp at g; omega
              · cases h
            · split at h
              · simp only [Option.some.injEq] at h; subst h; simp
              · split at h
                · rw [Option.bind_eq_some_iff] at h
                  obtain ⟨y, hy, h⟩ := h
                  have g2 := ih _ _ _ _ _ _ hy
                  simp only [Option.some.injEq] at h; subst h
                  simp only [List.length_append, List.length_cons, List.length_nil]; omega
                · cases h
    | tag + 4 =>
      simp only [rfF] at h
      split at h
      · split at h
        · exact ih _ _ _ _ _ _ h
        · cases h
      · rw [Option.bind_eq_some_iff] at h
        obtain ⟨y, _, h⟩ := h
        simp only [Option.some.injEq] at h; subst h; simp

end Go.Proofs.Ytibhlnhmejlhbaa
