/-
  judge.Check.
  table.allBelow.
-/
import Derived.Test.YtlafngfoejngaaaPq
namespace Go.Proofs.Ytlafngfoejngaaa
namespace Mc
open Go.RowKit
attribute [local go_sem ↓] Go.wp_at_zero Go.wp_at_succ

theorem layD_pos (f : ByteArray) (m : Nat) (ts : Nat → TabN) : 0 < (layD f m ts m).length := by
  obtain ⟨r, hr⟩ := layD_pre f m ts 0 m
  rw [Nat.zero_add] at hr
  rw [hr, List.length_append, layD, verdW_len]
  have : 0 < 2 ^ m := Nat.pow_pos (by decide)
  omega

end Mc
end Go.Proofs.Ytlafngfoejngaaa
namespace Go.Proofs.Ytlafngfoejngaaa
namespace Mc
open Go.RowKit
attribute [local go_sem ↓] Go.wp_at_zero Go.wp_at_succ

/-- Every byte is below a bound. -/
def blw (t : ByteArray) (c : Nat) : Bool := (List.range t.size).all fun i => decide (bt t i < c)
theorem blw_true {t : ByteArray} {c : Nat} : blw t c = true ↔ ∀ i, i < t.size → bt t i < c := by
  unfold blw; rw [List.all_eq_true]
  constructor
  · intro h i hi; simpa using h i (List.mem_range.2 hi)
  · intro h i hi; simpa using h i (List.mem_range.1 hi)

set_option maxRecDepth 20000 in
set_option maxHeartbeats 1000000 in
theorem allBelow_any (w : World) (t : ByteArray) (c : Nat) (ht : t.size ≤ 100000) (hc : c ≤ 1000) :
    Calls Try.prog 57 #[.string t, .int .i64 (c : Int)] w fun e w' => e = .returned (.bool (blw t c)) ∧ w' = w := by
  have htI : (t.size : Int) ≤ 100000 := by omega
  have hcI : (c : Int) ≤ 1000 := by omega
  go_enter Try.func57, Try.ntmps57
  go_wp2_with fail
  go_loop [5] (fun ix => ∃ i : Nat, ix = .int .i64 (i : Int) ∧ Hid (i ≤ t.size ∧ ∀ j, j < i → bt t j < c)) (fun ix => lenLeft t.size ix)
  case atStart => exact ⟨0, rfl, Nat.zero_le _, fun j hj => by omega⟩
  case round =>
    obtain ⟨i, rfl, HH⟩ := hrel
    obtain ⟨hi, hj⟩ := unhide HH
    clear HH
    by_cases hlt : i < t.size
    · have hltI : (i : Int) < (t.size : Int) := by omega
      have hb := bt_at t i
      have hbI : ((bt t i : Nat) : Int) < 256 := by have := bt_le t i; omega
      have h0 : (0 : Int) ≤ (i : Int) := by omega
      have h1 : ((i : Int)).toNat = i := by omega
      by_cases hbl : bt t i < c
      · have hblI : ((bt t i : Nat) : Int) < (c : Int) := by omega
        have HJ : Hid (∀ j, j < i + 1 → bt t j < c) := fun j hj' => by
          by_cases e : j = i
          · rw [e]; exact hbl
          · exact hj j (by omega)
        have HLT := hide hlt
        clear hi hj hbl
        go_wp2_with fail
        go_round
        case rel => exact ⟨i + 1, by go_num, unhide HLT, unhide HJ⟩
        case measure => have := unhide HLT; simp [lenLeft, intOf]; omega
      · have hblI : ¬ ((bt t i : Nat) : Int) < (c : Int) := by omega
        have hblJ : (c : Int) ≤ ((bt t i : Nat) : Int) := by omega
        have HE : Hid (blw t c = false) := by
          show _ = _
          cases he : blw t c
          · rfl
          · exact absurd (blw_true.1 he i hlt) hbl
        clear hi hj hbl
        go_wp2_with fail
        go_ret
        rw [unhide HE]
        exact ⟨rfl, rfl⟩
    · have hltI : ¬ (i : Int) < (t.size : Int) := by omega
      have HE : Hid (blw t c = true) := blw_true.2 fun j hj' => hj j (by omega)
      clear hi hj
      go_wp2_with fail
      go_ret
      rw [unhide HE]
      exact ⟨rfl, rfl⟩

end Mc
end Go.Proofs.Ytlafngfoejngaaa
