/-
  What the leaf functions of package pattern answer: isMark, isPlain, isPlainInSet, mayBeEscaped, digit.
-/
import Derived.Test.YtibhlnhmejlhbabRows
import Derived.Test.YtibhlnhmejlhbabMM
import Derived.WalkKit
import Derived.WalkSpells
import Derived.WalkLawsBesides
namespace Go.Proofs.Ytibhlnhmejlhbab
open Go.RowKit

theorem ret_bool {a b : Bool} (h : a = b) : Ending.returned (.bool a) = .returned (.bool b) := by rw [h]
theorem ret_int {k : IntKind} {a b : Int} (h : a = b) : Ending.returned (.int k a) = .returned (.int k b) := by rw [h]

theorem hide {p : Prop} (h : p) : Hid p := h
theorem unhide {p : Prop} (h : Hid p) : p := h

set_option maxHeartbeats 400000 in
theorem isMark_any (b : Int) (w : World) :
    Calls Try.prog 43 #[.int .i64 b] w fun e w' => e = .returned (.bool (isMarkB b)) ∧ w' = w := by
  go_enter Try.func43, Try.ntmps43
  go_wp2
  all_goals
    go_ret
    exact ⟨ret_bool (by simp_all [isMarkB]), rfl⟩

set_option maxHeartbeats 400000 in
theorem isPlain_any (b : Int) (w : World) :
    Calls Try.prog 39 #[.int .i64 b] w fun e w' => e = .returned (.bool (isPlainB b)) ∧ w' = w := by
  go_enter Try.func39, Try.ntmps39
  go_wp2_with (go_at_call 43; refine (isMark_any _ _).mono ?_; rintro e w' ⟨rfl, rfl⟩)
  all_goals
    go_ret
    exact ⟨ret_bool (by simp_all [isPlainB]; try (intros; omega)), rfl⟩

set_option maxHeartbeats 400000 in
theorem isPlainInSet_any (b : Int) (w : World) :
    Calls Try.prog 56 #[.int .i64 b] w fun e w' => e = .returned (.bool (isPlainInSetB b)) ∧ w' = w := by
  go_enter Try.func56, Try.ntmps56
  go_wp2
  all_goals
    go_ret
    exact ⟨ret_bool (by simp_all [isPlainInSetB]; try (intros; omega)), rfl⟩

set_option maxHeartbeats 400000 in
theorem mayBeEscaped_any (b : Int) (w : World) :
    Calls Try.prog 55 #[.int .i64 b] w fun e w' => e = .returned (.bool (mayBeEscapedB b)) ∧ w' = w := by
  go_enter Try.func55, Try.ntmps55
  go_wp2_with (go_at_call 43; refine (isMark_any _ _).mono ?_; rintro e w' ⟨rfl, rfl⟩)
  all_goals
    go_ret
    exact ⟨ret_bool (by simp_all [mayBeEscapedB]), rfl⟩

set_option maxHeartbeats 400000 in
theorem digit_any (b : Int) (w : World) (h0 : -1 ≤ b) (h1 : b ≤ 255) :
    Calls Try.prog 53 #[.int .i64 b] w fun e w' => e = .returned (.int .i64 (digitI b)) ∧ w' = w := by
  go_enter Try.func53, Try.ntmps53
  go_wp2
  all_goals
    go_ret
    exact ⟨ret_int (by simp_all [digitI]; try omega), rfl⟩

end Go.Proofs.Ytibhlnhmejlhbab
