/-
  judge.layer.verdicts.
-/
import Derived.Test.YtlafngfoejngaaaPi
namespace Go.Proofs.Ytlafngfoejngaaa
namespace Mc
open Go.RowKit
attribute [local go_sem ↓] Go.wp_at_zero Go.wp_at_succ

/-- The verdicts' words. -/
def verdW (f : ByteArray) (m n : Nat) : List Nat := (List.range n).map fun s => (trueF f (bitsM s m)).toNat
theorem verdW_succ (f : ByteArray) (m n : Nat) : verdW f m (n + 1) = verdW f m n ++ [(trueF f (bitsM n m)).toNat] := by unfold verdW; rw [List.range_succ, List.map_append]; rfl
theorem verdW_len (f : ByteArray) (m n : Nat) : (verdW f m n).length = n := by unfold verdW; simp

end Mc
end Go.Proofs.Ytlafngfoejngaaa
