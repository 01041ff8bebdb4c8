/-
  veil.Pattern: what it answers, by the reading of a text.
-/
import Derived.Test.YtohefinejdfhaaaRead
namespace Go.Proofs.Ytohefinejdfhaaa
open Go.RowKit

set_option maxHeartbeats 400000 in
theorem Pattern_long (w : World) (t : ByteArray) (ht : 60 < t.size) :
    Calls Try.prog 12 #[.string t] w fun e w' =>
      e = .returned (.tuple #[.int .i64 1, .int .i64 0]) ∧ Below w.heap.size w w' := by
  have HR := hide (Read_long w t ht)
  go_enter Try.func12, Try.ntmps12
  go_wp2_with fail
  refine (unhide HR).mono ?_
  rintro e w1 ⟨rfl, hw1⟩
  go_wp2
  go_ret2
  exact ⟨rfl, hw1.alloc hw1.size _⟩

set_option maxHeartbeats 400000 in
theorem Pattern_any (w : World) (t : ByteArray) (ht : t.size ≤ 60) :
    Calls Try.prog 12 #[.string t] w fun e w' => ∃ y i, Rds t 0 0 x0 (y, i) ∧
      e = .returned (.tuple #[.int .i64 (readErr t y).1, .int .i64 (readErr t y).2]) ∧ Below w.heap.size w w' := by
  have HR := hide (Read_any w t ht)
  go_enter Try.func12, Try.ntmps12
  go_wp2_with fail
  refine (unhide HR).mono ?_
  rintro e w1 ⟨y, i, nv, sv, hr, ⟨na, nn, nc, rfl⟩, ⟨sa, sn, sc, rfl⟩, rfl, hw1, -⟩
  have HD := hide hr
  clear hr HR
  generalize hre : readErr t y = re at *
  have HRE := hide hre
  clear hre
  go_wp2
  go_ret2
  exact ⟨y, i, unhide HD, by rw [unhide HRE]; rfl, hw1.alloc hw1.size _⟩

end Go.Proofs.Ytohefinejdfhaaa
