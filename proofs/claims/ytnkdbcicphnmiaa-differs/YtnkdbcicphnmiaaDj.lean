/-
  veillaw.Differs.
-/
import Derived.Test.YtnkdbcicphnmiaaDh
import Derived.Test.YtnkdbcicphnmiaaT23
namespace Go.Proofs.Ytnkdbcicphnmiaa
namespace Mc
open Go.RowKit
attribute [local go_sem ↓] Go.wp_at_zero Go.wp_at_succ

theorem vdi_one {x y : ByteArray} {e e' : Ending} (h : VDiA x y e) (h' : RDiA x y e') : e' = e := by
  rcases h with ⟨h1, h2, h⟩ | ⟨hno, rfl⟩
  · rcases h' with ⟨-, -, h'⟩ | ⟨hno, -⟩
    · exact dif_wit h h'
    · exact absurd ⟨h1, h2⟩ hno
  · rcases h' with ⟨h1, h2, -⟩ | ⟨-, h'⟩
    · exact absurd ⟨h1, h2⟩ hno
    · exact h'
theorem vdi_form {x y : ByteArray} {e : Ending} (h : VDiA x y e) : ∃ s b n, e = .returned (.tuple #[.string s, .bool b, .int .i64 n]) := by
  rcases h with ⟨-, -, h⟩ | ⟨-, rfl⟩
  · exact dif_form h
  · exact ⟨_, _, _, rfl⟩
set_option maxRecDepth 20000 in
set_option maxHeartbeats 1000000 in
theorem Differs_any (w : World) (x y : ByteArray) (hx : x.size ≤ 9223372036854775807) (hy : y.size ≤ 9223372036854775807) :
    Calls Try.prog 7 #[.string x, .string y] w fun e w' => e = .returned (.bool true) ∧ Below w.heap.size w w' := by
  have HA := hide (VDiffer_any w x y hx hy)
  have HB := hide (fun W => RDiffer_any W x y hx hy)
  clear hx hy
  go_enter Try.func7, Try.ntmps7
  go_wp2_with fail
  refine (unhide HA).mono ?_
  rintro e w1 ⟨hb1, ha⟩
  have HAA := hide ha
  obtain ⟨s, b, n, rfl⟩ := vdi_form ha
  have HB1 := hide hb1
  clear ha hb1 HA
  go_wp2_with fail
  refine (unhide HB _).mono ?_
  rintro e w2 ⟨hb2, ha⟩
  obtain rfl := vdi_one (unhide HAA) ha
  have HB2 := hide (bel_up4 (unhide HB1) hb2)
  clear ha hb2 HB HB1
  go_wp2_with fail
  refine (rnum_any n _).mono ?_
  rintro e w3 ⟨rfl, hww⟩
  obtain rfl : w2 = w3 := hww.symm
  clear hww
  go_wp2_with fail
  go_ret
  exact ⟨by simp, unhide HB2⟩

end Mc
end Go.Proofs.Ytnkdbcicphnmiaa
