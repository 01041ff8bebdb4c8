/-
  veillaw.Witnesses.
-/
import Derived.Test.YtlafngfoejngaaaDg
namespace Go.Proofs.Ytlafngfoejngaaa
namespace Mc
open Go.RowKit
attribute [local go_sem ↓] Go.wp_at_zero Go.wp_at_succ

theorem rnum_any (e : Int) (w : World) : Calls Try.prog 9 #[.int .i64 e] w fun r w' => r = .returned (.int .i64 e) ∧ w' = w := by
  go_enter Try.func9, Try.ntmps9
  go_wp2
  go_ret
  exact ⟨rfl, rfl⟩
theorem vwi_one {x : ByteArray} {e e' : Ending} (h : VWiA x e) (h' : VWiA x e') : e' = e := by
  rcases h with ⟨hok, h⟩ | ⟨hno, rfl⟩
  · rcases h' with ⟨-, h'⟩ | ⟨hno, -⟩
    · exact wit_wit h h'
    · exact absurd hok hno
  · rcases h' with ⟨hok, -⟩ | ⟨-, h'⟩
    · exact absurd hok hno
    · exact h'
theorem vwi_form {x : ByteArray} {e : Ending} (h : VWiA x e) : ∃ s b n, e = .returned (.tuple #[.string s, .bool b, .int .i64 n]) := by
  rcases h with ⟨-, h⟩ | ⟨-, rfl⟩
  · exact wit_form h
  · exact ⟨_, _, _, rfl⟩
set_option maxRecDepth 20000 in
set_option maxHeartbeats 1000000 in
theorem Witnesses_any (w : World) (x : ByteArray) (hx : x.size ≤ 9223372036854775807) :
    Calls Try.prog 3 #[.string x] w fun e w' => e = .returned (.bool true) ∧ Below w.heap.size w w' := by
  have HA := hide (VWitness_any w x hx)
  have HB := hide (fun W => RWitness_any W x hx)
  clear hx
  go_enter Try.func3, Try.ntmps3
  go_wp2_with fail
  refine (unhide HA).mono ?_
  rintro e w1 ⟨hb1, ha⟩
  have HAA := hide ha
  obtain ⟨s, b, n, rfl⟩ := vwi_form ha
  have HB1 := hide hb1
  clear ha hb1 HA
  go_wp2_with fail
  refine (unhide HB _).mono ?_
  rintro e w2 ⟨hb2, ha⟩
  obtain rfl := vwi_one (unhide HAA) ha
  have HB2 := hide (bel_up4 (unhide HB1) hb2)
  clear ha hb2 HB HB1
  go_wp2_with fail
  refine (rnum_any n _).mono ?_
  rintro e w3 ⟨rfl, hww⟩
  obtain rfl : w2 = w3 := hww.symm
  clear hww
  go_wp2_with fail
  go_ret
  exact ⟨by simp, unhide HB2⟩

end Mc
end Go.Proofs.Ytlafngfoejngaaa
