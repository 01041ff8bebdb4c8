/-
  machine.machine.do and hasAddress at whatever operation.
-/
import Derived.Test.YtohefinejdfhaabNg
import Derived.Test.YtohefinejdfhaabNh
namespace Go.Proofs.Ytohefinejdfhaab
namespace Mc
open Go.RowKit

theorem andT {a b : Bool} (h : (a && b) = true) : a = true ∧ b = true := by cases a <;> cases b <;> simp_all
theorem wordA {x : Int} (h : wordOk x = true) : ∃ A : Nat, x = (A : Int) ∧ A ≤ 65535 := by
  simp [wordOk] at h
  exact ⟨x.toNat, by omega, by omega⟩
theorem op_kind {o : OpI} {n : Int} (h : opOk o n = true) : o.k = 0 ∨ (1 ≤ o.k ∧ o.k ≤ 5) ∨ o.k = 6 ∨ o.k = 7 ∨ o.k = 8 := by
  by_cases h9 : o.k < 0 ∨ 8 < o.k
  · rw [opOk9 h9] at h; cases h
  · omega

theorem do_any (w : World) (B gm : Nat) (s s' : MS) (n : Nat) (o : OpI) (h : PM w B gm s) (hs : s.Ok n) (hn : n ≤ 4096) (hT : s.T.length ≤ 3000000) (ho : opOk o n = true) (hst : stepN o s = some s') :
    Calls Try.prog 119 #[.pointer (some ⟨gm, 0, none⟩), opV o] w fun e w' => e = .returned (.tuple #[]) ∧ Below B w w' ∧ PM w' B gm s' := by
  rcases op_kind ho with hk | hk | hk | hk | hk
  · rw [opOk0 hk] at ho
    obtain ⟨ha, hb⟩ := andT ho
    obtain ⟨k, a, b, c⟩ := o
    simp only at hk ha hb
    subst hk
    obtain ⟨A, rfl, hA⟩ := regA ha
    obtain ⟨x, rfl, hx⟩ := wordA hb
    simp [stepN] at hst
    subst hst
    exact do_set w B gm s n A x hA c h hs hn
  · rw [opOk1 hk] at ho
    obtain ⟨hab, hc⟩ := andT ho
    obtain ⟨ha, hb⟩ := andT hab
    obtain ⟨k, a, b, c⟩ := o
    simp only at hk ha hb hc
    obtain ⟨A, rfl, hA⟩ := regA ha
    obtain ⟨X, rfl, hX⟩ := regA hb
    obtain ⟨Y, rfl, hY⟩ := regA hc
    rw [stepN, if_neg (by simp only; omega), if_neg (by simp only; omega), if_neg (by simp only; omega), if_neg (by simp only; omega)] at hst
    simp [MS.r] at hst
    subst hst
    have := do_join w B gm s n k hk A X Y hA hX hY h hs hn
    simpa [List.getD_eq_getElem?_getD] using this
  · rw [opOk6 (.inl hk)] at ho
    obtain ⟨ha, hb⟩ := andT ho
    obtain ⟨k, a, b, c⟩ := o
    simp only at hk ha hb
    subst hk
    obtain ⟨A, rfl, hA⟩ := regA ha
    obtain ⟨X, rfl, hX⟩ := regA hb
    rw [stepN, if_neg (by simp), if_pos rfl] at hst
    split at hst
    · next hx =>
      simp only [Option.some.injEq] at hst
      subst hst
      exact do_load w B gm s n A X hA hX c hx h hs hn hT
    · cases hst
  · rw [opOk6 (.inr hk)] at ho
    obtain ⟨ha, hb⟩ := andT ho
    obtain ⟨k, a, b, c⟩ := o
    simp only at hk ha hb
    subst hk
    obtain ⟨A, rfl, hA⟩ := regA ha
    obtain ⟨X, rfl, hX⟩ := regA hb
    rw [stepN, if_neg (by simp), if_neg (by simp), if_pos rfl] at hst
    split at hst
    · next hx =>
      simp only [Option.some.injEq] at hst
      subst hst
      exact do_store w B gm s n A X hA hX c hx h hs hn hT
    · cases hst
  · rw [opOk8 hk] at ho
    obtain ⟨ha, hb⟩ := andT ho
    obtain ⟨k, a, b, c⟩ := o
    simp only at hk ha hb
    subst hk
    obtain ⟨A, rfl, hA⟩ := regA ha
    obtain ⟨q, rfl⟩ : ∃ q : Nat, b = (q : Int) := ⟨b.toNat, by simp at hb; omega⟩
    have hs1 : MS.Ok ⟨s.R, s.M, s.p + 1, s.T⟩ (n + 1) := ⟨hs.lr, hs.lm, hs.r, hs.m, Nat.succ_le_succ hs.p⟩
    rw [stepN, if_neg (by simp), if_neg (by simp), if_neg (by simp), if_pos rfl] at hst
    split at hst
    · next hx =>
      simp only [Option.some.injEq] at hst
      subst hst
      exact do_jump w B gm s _ n A _ c h hs hn (fun W hW => jump_no W B gm ⟨s.R, s.M, s.p + 1, s.T⟩ (n + 1) A _ c hA hW hs1 hT hx)
    · next hx =>
      simp only [Option.some.injEq] at hst
      subst hst
      exact do_jump w B gm s _ n A _ c h hs hn (fun W hW => jump_yes W B gm ⟨s.R, s.M, s.p + 1, s.T⟩ (n + 1) A q c hA hW hs1 hT hx)

theorem has_any (w : World) (B gm : Nat) (s : MS) (n : Nat) (o : OpI) (h : PM w B gm s) (hs : s.Ok n) (ho : opOk o n = true) :
    Calls Try.prog 118 #[.pointer (some ⟨gm, 0, none⟩), opV o] w fun e w' => e = .returned (.bool (stepN o s).isSome) ∧ Below w.heap.size w w' := by
  by_cases hk : o.k = 6 ∨ o.k = 7
  · rw [opOk6 hk] at ho
    obtain ⟨ha, hb⟩ := andT ho
    obtain ⟨k, a, b, c⟩ := o
    simp only at hk ha hb
    obtain ⟨X, rfl, hX⟩ := regA hb
    have e : (stepN ⟨k, a, (X : Int), c⟩ s).isSome = decide (s.R.getD X 0 < 4096) := by
      rcases hk with rfl | rfl
      · rw [stepN, if_neg (by simp), if_pos rfl]
        show Option.isSome (if s.R.getD X 0 < 4096 then _ else _) = _
        split <;> simp_all
      · rw [stepN, if_neg (by simp), if_neg (by simp), if_pos rfl]
        show Option.isSome (if s.R.getD X 0 < 4096 then _ else _) = _
        split <;> simp_all
    rw [e]
    exact has_mem w B gm s n k a c hk X hX h hs
  · have e : (stepN o s).isSome = true := by
      unfold stepN
      split
      · rfl
      · rw [if_neg (fun e => hk (.inl e)), if_neg (fun e => hk (.inr e))]
        split
        · split <;> rfl
        · rfl
    rw [e]
    exact has_other w gm o (fun e => hk (.inl e)) (fun e => hk (.inr e))

end Mc
end Go.Proofs.Ytohefinejdfhaab
