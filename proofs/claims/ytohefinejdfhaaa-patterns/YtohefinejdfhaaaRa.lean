/-
  The look over a text: among, digit, hex, outside, inside, goes.
-/
import Derived.Test.YtohefinejdfhaaaRead
import Derived.Test.YtohefinejdfhaaaMM
namespace Go.Proofs.Ytohefinejdfhaaa
open Go.RowKit

def anyB (s : ByteArray) (c : Int) : Bool := s.data.toList.any fun b => (b.toNat : Int) == c

set_option maxHeartbeats 400000 in
theorem among_any (c : Int) (s : ByteArray) (w : World) (hs : s.size ≤ 60) :
    Calls Try.prog 105 #[.int .u8 c, .string s] w fun e w' => e = .returned (.bool (anyB s c)) ∧ w' = w := by
  have hs' : (s.size : Int) ≤ 60 := by omega
  have HS := hide hs
  clear hs
  go_enter Try.func105, Try.ntmps105
  go_wp2
  go_loop [5] (fun i => ∃ k : Nat, k ≤ s.size ∧ i = .int .i64 k ∧ Hid (∀ j (h : j < s.size), j < k → ((s[j].toNat : Int) == c) = false)) (fun i => s.size - (intOf i).toNat)
  case atStart => exact ⟨0, Nat.zero_le _, rfl, fun j _ hj => absurd hj (Nat.not_lt_zero j)⟩
  case round =>
    obtain ⟨k, hk, rfl, H⟩ := hrel
    by_cases hlt : k < s.size
    · by_cases hc : ((s[k].toNat : Int) == c) = true
      · go_wp2
        go_ret
        refine ⟨ret_bool ?_, rfl⟩
        symm
        unfold anyB
        rw [List.any_eq_true]
        exact ⟨s[k], by simp [ByteArray.getElem_eq_getElem_data], hc⟩
      · have hc' : ((s[k].toNat : Int) == c) = false := by simpa using hc
        clear hc
        have HC := hide hc'
        go_wp2
        go_round
        case rel =>
          refine ⟨k + 1, by omega, by go_num, fun j hj hjk => ?_⟩
          by_cases e : j = k
          · subst e; exact unhide HC
          · exact unhide H j hj (by omega)
        case measure => simp [intOf]; omega
    · go_wp2
      go_ret
      refine ⟨ret_bool ?_, rfl⟩
      symm
      unfold anyB
      rw [List.any_eq_false]
      intro b hb
      rw [List.mem_iff_getElem] at hb
      obtain ⟨j, hj, rfl⟩ := hb
      have hj' : j < s.size := by simpa using hj
      have := unhide H j hj' (by omega)
      rw [ByteArray.getElem_eq_getElem_data] at this
      simpa using this

theorem anyB_marks (c : Int) : anyB { data := #[124, 42, 43, 63, 123, 125, 40, 41, 91, 93, 46, 92, 45, 94] } c = mayBeEscapedB c := by
  rw [Bool.eq_iff_iff]
  simp [anyB, mayBeEscapedB, isMarkB]
  omega

theorem marks_any (c : Int) (w : World) :
    Calls Try.prog 105 #[.int .u8 c, .string { data := #[124, 42, 43, 63, 123, 125, 40, 41, 91, 93, 46, 92, 45, 94] }] w fun e w' => e = .returned (.bool (mayBeEscapedB c)) ∧ w' = w := by
  rw [← anyB_marks]
  exact among_any c _ w (by decide)

set_option maxHeartbeats 400000 in
theorem dec_any (c : Int) (w : World) : Calls Try.prog 107 #[.int .u8 c] w fun e w' => e = .returned (.bool (decB c)) ∧ w' = w := by
  go_enter Try.func107, Try.ntmps107
  go_wp2
  all_goals
    go_ret
    exact ⟨ret_bool (by simp_all [decB]; try (intros; omega)), rfl⟩

set_option maxHeartbeats 400000 in
theorem hex_any (c : Int) (w : World) : Calls Try.prog 106 #[.int .u8 c] w fun e w' => e = .returned (.bool (hexB c)) ∧ w' = w := by
  go_enter Try.func106, Try.ntmps106
  go_wp2_with (go_at_call 107; refine (dec_any _ _).mono ?_; rintro e w' ⟨rfl, rfl⟩)
  all_goals
    go_ret
    exact ⟨ret_bool (by simp_all [hexB]; try (intros; omega)), rfl⟩

end Go.Proofs.Ytohefinejdfhaaa
