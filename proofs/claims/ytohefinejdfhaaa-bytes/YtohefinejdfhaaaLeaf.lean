/-
  What the leaf functions of package pattern answer: isMark, isPlain, isPlainInSet, mayBeEscaped, digit.
-/
import Derived.Test.YtohefinejdfhaaaRows
import Derived.Test.YtohefinejdfhaaaMM
import Derived.WalkKit
import Derived.WalkSpells
import Derived.WalkLawsBesides
namespace Go.Proofs.Ytohefinejdfhaaa
open Go.RowKit

theorem ret_bool {a b : Bool} (h : a = b) : Ending.returned (.bool a) = .returned (.bool b) := by rw [h]
theorem ret_int {k : IntKind} {a b : Int} (h : a = b) : Ending.returned (.int k a) = .returned (.int k b) := by rw [h]

theorem hide {p : Prop} (h : p) : Hid p := h
theorem unhide {p : Prop} (h : Hid p) : p := h

set_option maxHeartbeats 400000 in
theorem isMark_any (b : Int) (w : World) :
    Calls Try.prog 179 #[.int .i64 b] w fun e w' => e = .returned (.bool (isMarkB b)) ∧ w' = w := by
  go_enter Try.func179, Try.ntmps179
  go_wp2
  all_goals
    go_ret
    exact ⟨ret_bool (by simp_all [isMarkB]), rfl⟩

set_option maxHeartbeats 400000 in
theorem isPlain_any (b : Int) (w : World) :
    Calls Try.prog 167 #[.int .i64 b] w fun e w' => e = .returned (.bool (isPlainB b)) ∧ w' = w := by
  go_enter Try.func167, Try.ntmps167
  go_wp2_with (go_at_call 179; refine (isMark_any _ _).mono ?_; rintro e w' ⟨rfl, rfl⟩)
  all_goals
    go_ret
    exact ⟨ret_bool (by simp_all [isPlainB]; try (intros; omega)), rfl⟩

set_option maxHeartbeats 400000 in
theorem isPlainInSet_any (b : Int) (w : World) :
    Calls Try.prog 195 #[.int .i64 b] w fun e w' => e = .returned (.bool (isPlainInSetB b)) ∧ w' = w := by
  go_enter Try.func195, Try.ntmps195
  go_wp2
  all_goals
    go_ret
    exact ⟨ret_bool (by simp_all [isPlainInSetB]; try (intros; omega)), rfl⟩

set_option maxHeartbeats 400000 in
theorem mayBeEscaped_any (b : Int) (w : World) :
    Calls Try.prog 194 #[.int .i64 b] w fun e w' => e = .returned (.bool (mayBeEscapedB b)) ∧ w' = w := by
  go_enter Try.func194, Try.ntmps194
  go_wp2_with (go_at_call 179; refine (isMark_any _ _).mono ?_; rintro e w' ⟨rfl, rfl⟩)
  all_goals
    go_ret
    exact ⟨ret_bool (by simp_all [mayBeEscapedB]), rfl⟩

set_option maxHeartbeats 400000 in
theorem digit_any (b : Int) (w : World) (h0 : -1 ≤ b) (h1 : b ≤ 255) :
    Calls Try.prog 192 #[.int .i64 b] w fun e w' => e = .returned (.int .i64 (digitI b)) ∧ w' = w := by
  go_enter Try.func192, Try.ntmps192
  go_wp2
  all_goals
    go_ret
    exact ⟨ret_int (by simp_all [digitI]; try omega), rfl⟩

end Go.Proofs.Ytohefinejdfhaaa
