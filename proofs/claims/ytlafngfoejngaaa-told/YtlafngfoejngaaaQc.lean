/-
  The rules that are true, as the bits of a number.
-/
import Derived.Test.YtlafngfoejngaaaQb
namespace Go.Proofs.Ytlafngfoejngaaa
namespace Mc
open Go.RowKit

theorem sumG_snoc : ∀ (l : List Bool) (i : Nat) (b : Bool), sumG i (l ++ [b]) = sumG i l + if b then 2 ^ (i + l.length) else 0
  | [], i, b => by simp [sumG]
  | c :: l, i, b => by
    rw [List.cons_append, sumG, sumG, sumG_snoc l (i + 1) b, List.length_cons, show i + 1 + l.length = i + (l.length + 1) by omega]
    omega
theorem sumG_bit : ∀ (l : List Bool) (k : Nat), sumG 0 l / 2 ^ k % 2 = (l.getD k false).toNat
  | [], k => by simp [sumG]
  | b :: l, 0 => by
    rw [sumG, sumG_succ]
    cases b <;> simp <;> omega
  | b :: l, k + 1 => by
    rw [sumG, sumG_succ, Nat.pow_succ, Nat.mul_comm (2 ^ k) 2, ← Nat.div_div_eq_div_mul]
    have e : ((if b then 2 ^ 0 else 0) + 2 * sumG 0 l) / 2 = sumG 0 l := by cases b <;> simp <;> omega
    rw [e, sumG_bit l k]
    rfl
theorem sumG_or (l : List Bool) : sumG 0 l ||| 2 ^ l.length = sumG 0 l + 2 ^ l.length := by
  have h := sumG_lt l 0
  rw [Nat.zero_add, Nat.pow_zero] at h
  have := Nat.two_pow_add_eq_or_of_lt (i := l.length) (b := sumG 0 l) (by omega) 1
  rw [Nat.mul_one] at this
  rw [Nat.or_comm, ← this, Nat.add_comm]
theorem sumG_le (l : List Bool) (h : l.length ≤ 4) : sumG 0 l ≤ 15 := by
  have h1 := sumG_lt l 0
  rw [Nat.zero_add, Nat.pow_zero] at h1
  have : 2 ^ l.length ≤ 2 ^ 4 := Nat.pow_le_pow_right (by decide) h
  omega

end Mc
end Go.Proofs.Ytlafngfoejngaaa
