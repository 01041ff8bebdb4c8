/-
  What the leaf functions of package pattern answer: isMark, isPlain, isPlainInSet, mayBeEscaped, digit.
-/
import Derived.Test.YtohefinejdfhaabRows
import Derived.Test.YtohefinejdfhaabMM
import Derived.WalkKit
import Derived.WalkSpells
import Derived.WalkLawsBesides
namespace Go.Proofs.Ytohefinejdfhaab
open Go.RowKit

theorem ret_bool {a b : Bool} (h : a = b) : Ending.returned (.bool a) = .returned (.bool b) := by rw [h]
theorem ret_int {k : IntKind} {a b : Int} (h : a = b) : Ending.returned (.int k a) = .returned (.int k b) := by rw [h]

theorem hide {p : Prop} (h : p) : Hid p := h
theorem unhide {p : Prop} (h : Hid p) : p := h

set_option maxHeartbeats 400000 in
theorem isMark_any (b : Int) (w : World) :
    Calls Try.prog 148 #[.int .i64 b] w fun e w' => e = .returned (.bool (isMarkB b)) ∧ w' = w := by
  go_enter Try.func148, Try.ntmps148
  go_wp2
  all_goals
    go_ret
    exact ⟨ret_bool (by simp_all [isMarkB]), rfl⟩

set_option maxHeartbeats 400000 in
theorem isPlain_any (b : Int) (w : World) :
    Calls Try.prog 142 #[.int .i64 b] w fun e w' => e = .returned (.bool (isPlainB b)) ∧ w' = w := by
  go_enter Try.func142, Try.ntmps142
  go_wp2_with (go_at_call 148; refine (isMark_any _ _).mono ?_; rintro e w' ⟨rfl, rfl⟩)
  all_goals
    go_ret
    exact ⟨ret_bool (by simp_all [isPlainB]; try (intros; omega)), rfl⟩

set_option maxHeartbeats 400000 in
theorem isPlainInSet_any (b : Int) (w : World) :
    Calls Try.prog 163 #[.int .i64 b] w fun e w' => e = .returned (.bool (isPlainInSetB b)) ∧ w' = w := by
  go_enter Try.func163, Try.ntmps163
  go_wp2
  all_goals
    go_ret
    exact ⟨ret_bool (by simp_all [isPlainInSetB]; try (intros; omega)), rfl⟩

set_option maxHeartbeats 400000 in
theorem mayBeEscaped_any (b : Int) (w : World) :
    Calls Try.prog 162 #[.int .i64 b] w fun e w' => e = .returned (.bool (mayBeEscapedB b)) ∧ w' = w := by
  go_enter Try.func162, Try.ntmps162
  go_wp2_with (go_at_call 148; refine (isMark_any _ _).mono ?_; rintro e w' ⟨rfl, rfl⟩)
  all_goals
    go_ret
    exact ⟨ret_bool (by simp_all [mayBeEscapedB]), rfl⟩

set_option maxHeartbeats 400000 in
theorem digit_any (b : Int) (w : World) (h0 : -1 ≤ b) (h1 : b ≤ 255) :
    Calls Try.prog 160 #[.int .i64 b] w fun e w' => e = .returned (.int .i64 (digitI b)) ∧ w' = w := by
  go_enter Try.func160, Try.ntmps160
  go_wp2
  all_goals
    go_ret
    exact ⟨ret_int (by simp_all [digitI]; try omega), rfl⟩

end Go.Proofs.Ytohefinejdfhaab
