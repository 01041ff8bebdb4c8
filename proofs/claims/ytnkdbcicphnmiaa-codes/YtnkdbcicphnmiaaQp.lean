/-
  veillaw.Codes.
-/
import Derived.Test.YtnkdbcicphnmiaaQo
namespace Go.Proofs.Ytnkdbcicphnmiaa
namespace Mc
open Go.RowKit
attribute [local go_sem ↓] Go.wp_at_zero Go.wp_at_succ

set_option maxRecDepth 20000 in
theorem Codes_any (w : World) (x s : ByteArray) (hx : x.size ≤ maxLen) (hs : s.size ≤ maxLen) :
    Calls Try.prog 4 #[.string x, .string s] w fun e w' => e = .returned (.bool true) ∧ Below w.heap.size w w' := by
  have HC := hide (codes_any w x s (by unfold maxLen at hx; omega) (by unfold maxLen at hs; omega))
  clear hx hs
  go_enter Try.func4, Try.ntmps4
  go_wp2_with fail
  refine (unhide HC).mono ?_
  rintro e w1 ⟨⟨cv, dv, rfl⟩, hb⟩
  have HB := hide hb
  clear hb HC
  go_wp2_with fail
  go_ret
  exact ⟨rfl, unhide HB⟩

end Mc
end Go.Proofs.Ytnkdbcicphnmiaa
