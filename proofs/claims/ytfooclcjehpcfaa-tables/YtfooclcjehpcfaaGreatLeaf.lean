/-
  What the leaf functions of package pattern answer: isMark, isPlain, isPlainInSet, mayBeEscaped, digit.
-/
import Derived.Test.YtfooclcjehpcfaaGreatRows
import Derived.Test.YtfooclcjehpcfaaGreatMM
import Derived.WalkKit
import Derived.WalkSpells
import Derived.WalkLawsBesides
namespace Go.Proofs.YtfooclcjehpcfaaGreat
open Go.RowKit

theorem ret_bool {a b : Bool} (h : a = b) : Ending.returned (.bool a) = .returned (.bool b) := by rw [h]
theorem ret_int {k : IntKind} {a b : Int} (h : a = b) : Ending.returned (.int k a) = .returned (.int k b) := by rw [h]

theorem hide {p : Prop} (h : p) : Hid p := h
theorem unhide {p : Prop} (h : Hid p) : p := h

set_option maxHeartbeats 400000 in
theorem isMark_any (b : Int) (w : World) :
    Calls Tryz.prog 92 #[.int .i64 b] w fun e w' => e = .returned (.bool (isMarkB b)) ∧ w' = w := by
  go_enter Tryz.func92, Tryz.ntmps92
  go_wp2
  all_goals
    go_ret
    exact ⟨ret_bool (by simp_all [isMarkB]), rfl⟩

set_option maxHeartbeats 400000 in
theorem isPlain_any (b : Int) (w : World) :
    Calls Tryz.prog 87 #[.int .i64 b] w fun e w' => e = .returned (.bool (isPlainB b)) ∧ w' = w := by
  go_enter Tryz.func87, Tryz.ntmps87
  go_wp2_with (go_at_call 92; refine (isMark_any _ _).mono ?_; rintro e w' ⟨rfl, rfl⟩)
  all_goals
    go_ret
    exact ⟨ret_bool (by simp_all [isPlainB]; try (intros; omega)), rfl⟩

set_option maxHeartbeats 400000 in
theorem isPlainInSet_any (b : Int) (w : World) :
    Calls Tryz.prog 105 #[.int .i64 b] w fun e w' => e = .returned (.bool (isPlainInSetB b)) ∧ w' = w := by
  go_enter Tryz.func105, Tryz.ntmps105
  go_wp2
  all_goals
    go_ret
    exact ⟨ret_bool (by simp_all [isPlainInSetB]; try (intros; omega)), rfl⟩

set_option maxHeartbeats 400000 in
theorem mayBeEscaped_any (b : Int) (w : World) :
    Calls Tryz.prog 104 #[.int .i64 b] w fun e w' => e = .returned (.bool (mayBeEscapedB b)) ∧ w' = w := by
  go_enter Tryz.func104, Tryz.ntmps104
  go_wp2_with (go_at_call 92; refine (isMark_any _ _).mono ?_; rintro e w' ⟨rfl, rfl⟩)
  all_goals
    go_ret
    exact ⟨ret_bool (by simp_all [mayBeEscapedB]), rfl⟩

set_option maxHeartbeats 400000 in
theorem digit_any (b : Int) (w : World) (h0 : -1 ≤ b) (h1 : b ≤ 255) :
    Calls Tryz.prog 102 #[.int .i64 b] w fun e w' => e = .returned (.int .i64 (digitI b)) ∧ w' = w := by
  go_enter Tryz.func102, Tryz.ntmps102
  go_wp2
  all_goals
    go_ret
    exact ⟨ret_int (by simp_all [digitI]; try omega), rfl⟩

end Go.Proofs.YtfooclcjehpcfaaGreat
