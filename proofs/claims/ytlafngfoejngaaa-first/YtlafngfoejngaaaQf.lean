/-
  veil.Code, veil.Check.
-/
import Derived.Test.YtlafngfoejngaaaQe
namespace Go.Proofs.Ytlafngfoejngaaa
namespace Mc
open Go.RowKit
attribute [local go_sem ↓] Go.wp_at_zero Go.wp_at_succ

theorem Tbs.up {w w' : World} {g m : Nat} {ts : Nat → TabN} (h : Tbs w w.heap.size g m ts) (hb : Below w.heap.size w w') : Tbs w' w'.heap.size g m ts := by
  refine ⟨fun j hj => ?_, Nat.lt_of_lt_of_le h.lt hb.size⟩
  obtain ⟨gv, nv, h1, h2⟩ := h.at_ j hj
  exact ⟨gv, nv, fun k v hv => (Fr.ofBelow hb).cell (h1 k v hv) (by simp), h2.fr (Fr.ofBelow hb) (NoRows.nil _) hb.size⟩
/-- The code and the data of an image. -/
def imO (x : ByteArray) : List OpI := codeOf 32 (bt x 2) (layP (imF x) (bt x 3) (imT x) (bt x 3))
def imD (x : ByteArray) : List Nat := layD (imF x) (bt x 3) (imT x) (bt x 3)
/-- The verdict of an image, and the trace. -/
def imV (x s : ByteArray) : Bool := trueF (imF x) (ruleT (bt x 3) (imT x) (btsN s))
def imTr (x : ByteArray) : List Nat := codeT 32 (bt x 2) (layP (imF x) (bt x 3) (imT x) (bt x 3))
/-- What Check answers. -/
def ChA (w w' : World) (x s : ByteArray) (e : Ending) : Prop :=
  (ImOk x ∧ s.size ≤ bt x 2 ∧ ∃ tv, e = .returned (.tuple #[.bool (imV x s), tv, .int .i64 0]) ∧ NR w' w.heap.size tv (imTr x)) ∨
  (ImOk x ∧ bt x 2 < s.size ∧ e = .returned (.tuple #[.bool false, .slice none 0 0, .int .i64 1])) ∨
  (¬ ImOk x ∧ e = .returned (.tuple #[.bool false, .slice none 0 0, .int .i64 7]))
end Mc
end Go.Proofs.Ytlafngfoejngaaa
