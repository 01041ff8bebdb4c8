/-
  The law Patterns.
-/
import Derived.Test.YtohefinejdfhaaaRm
import Derived.Test.YtohefinejdfhaaaReadP
namespace Go.Proofs.Ytohefinejdfhaaa
open Go.RowKit

set_option maxHeartbeats 1000000 in
theorem Patterns_of (hm : ∀ t y i, t.size ≤ 60 → Rds t 0 0 x0 (y, i) → RefOk t y) (t : ByteArray) (w : World) :
    Calls Try.prog 3 #[.string t] w fun e w' => e = .returned (.bool true) ∧ Below w.heap.size w w' := by
  by_cases hl : t.size ≤ 60
  · have HA := hide (Pattern_any w t hl)
    have HM := hide hm
    clear hm
    go_enter Try.func3, Try.ntmps3
    go_wp2_with fail
    refine (unhide HA).mono ?_
    rintro e w1 ⟨y, i, hr, rfl, hw1⟩
    have HB := hide (fun w1 => RefPattern_any w1 t y hl (unhide HM t y i hl hr))
    clear hr HA
    generalize readErr t y = re at *
    go_wp2_with fail
    refine (unhide HB w1).mono ?_
    rintro e w2 ⟨rfl, hw2⟩
    go_wp2_with (go_at_call 14; refine (num_any _ _).mono ?_; rintro e w' ⟨rfl, rfl⟩)
    all_goals go_ret
    all_goals exact ⟨ret_bool (by simp_all), below_trans' hw1 hw2⟩
  · have hl' : 60 < t.size := by omega
    have HA := hide (Pattern_long w t hl')
    clear hm
    go_enter Try.func3, Try.ntmps3
    go_wp2_with fail
    refine (unhide HA).mono ?_
    rintro e w1 ⟨rfl, hw1⟩
    go_wp2_with fail
    refine (RefPattern_long w1 t hl').mono ?_
    rintro e w2 ⟨rfl, hw2⟩
    go_wp2_with (go_at_call 14; refine (num_any _ _).mono ?_; rintro e w' ⟨rfl, rfl⟩)
    all_goals go_ret
    all_goals exact ⟨rfl, below_trans' hw1 hw2⟩

end Go.Proofs.Ytohefinejdfhaaa
