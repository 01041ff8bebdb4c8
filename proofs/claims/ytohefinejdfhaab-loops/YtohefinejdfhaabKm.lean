/-
  The law Loops: times.
-/
import Derived.Test.YtohefinejdfhaabKl
import Derived.Deep.DeepCutAuto
namespace Go.Proofs.Ytohefinejdfhaab
open Go.RowKit
attribute [local go_sem ↓] Go.wp_at_zero Go.wp_at_succ

theorem none_bytes (s : ByteArray) : s.toList.isEmpty = true ↔ bytesN s = [] := by
  rw [ByteArray.toList_eq, List.isEmpty_iff]
  unfold bytesN
  rw [List.map_eq_nil_iff]

set_option maxRecDepth 20000 in
set_option maxHeartbeats 1000000 in
theorem times_over_any (w : World) (p s : ByteArray) (m n : Nat) (x : List Nat) (v : Val) (hA : Ga x v) (hx : bytesN p = x) (hp : p.size ≤ 42) (hm : m ≤ 9) (hn : n ≤ 9) (h1 : 1 ≤ v.2) (h2 : v.2 * (n : Int) ≤ 12) (hs : s.size ≤ 16) (c1 : n < m) :
    Calls Try.prog 14 #[.string p, .int .i64 (m : Int), .int .i64 (n : Int), .string s] w fun e w' => e = .returned (.bool true) ∧ Below w.heap.size w w' := by
  have HT := hide (fun w => says_times w (s := s) (y := false) hA hx hm hn hp (times_wt (m := m) h1 h2 (Nat.le_refl n)) hs (no_iff (times_over c1 _ _)))
  have hmI : (m : Int) ≤ 9 := by omega
  have hnI : (n : Int) ≤ 9 := by omega
  have c1' : (n : Int) < (m : Int) := by omega
  clear hA hx hm hn h1 h2 hs c1
  go_enter Try.func14, Try.ntmps14
  go_wp2
  go_quiet (fail)
  go_wp2_with fail
  refine (unhide HT _).mono ?_
  rintro e w1 ⟨rfl, hw1⟩
  go_wp2
  go_ret
  exact ⟨rfl, (below_drewN (Below.refl _ _) _).trans hw1⟩

set_option maxRecDepth 20000 in
set_option maxHeartbeats 1000000 in
theorem times_none_any (w : World) (p s : ByteArray) (x : List Nat) (v : Val) (hA : Ga x v) (hx : bytesN p = x) (hp : p.size ≤ 42) (h1 : 1 ≤ v.2) (hs : s.size ≤ 16) :
    Calls Try.prog 14 #[.string p, .int .i64 ((0 : Nat) : Int), .int .i64 ((0 : Nat) : Int), .string s] w fun e w' => e = .returned (.bool true) ∧ Below w.heap.size w w' := by
  have HT := hide (fun w y hy => says_times w (m := 0) (n := 0) (s := s) (y := y) hA hx (by omega) (by omega) hp (times_wt (m := 0) (n := 0) h1 (by simp) (Nat.le_refl _)) hs (Iff.trans hy (times_none v.1 (bytesN s)).symm))
  clear hA hx h1 hs
  go_enter Try.func14, Try.ntmps14
  go_wp2
  go_quiet (fail)
  go_wp2_with fail
  refine (unhide HT _ _ (none_bytes s)).mono ?_
  rintro e w1 ⟨rfl, hw1⟩
  go_wp2
  go_ret
  exact ⟨rfl, (below_drewN (Below.refl _ _) _).trans hw1⟩

end Go.Proofs.Ytohefinejdfhaab
