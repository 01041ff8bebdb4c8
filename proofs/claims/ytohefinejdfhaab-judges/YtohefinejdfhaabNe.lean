/-
  machine.isCode, isMemory.
-/
import Derived.Test.YtohefinejdfhaabNd
namespace Go.Proofs.Ytohefinejdfhaab
namespace Mc
open Go.RowKit
attribute [local go_sem ↓] Go.wp_at_zero Go.wp_at_succ

def lenLeft (n : Nat) (v : Value) : Nat := n - (intOf v).toNat

set_option maxRecDepth 20000 in
set_option maxHeartbeats 1000000 in
theorem isCode_any (w : World) (v : Value) (os : List OpI) (h : OAt w v os) : Calls Try.prog 81 #[v] w fun e w' => e = .returned (.bool (codeB os)) ∧ Below w.heap.size w w' := by
  obtain ⟨a, cap, rfl, hc⟩ := h
  have HC := hide hc
  have HB := hide (codeB_iff os)
  clear hc
  by_cases hl : os.length ≤ 4096
  · have hlI : (os.length : Int) ≤ 4096 := by omega
    have HL := hide hl
    clear hl
    go_enter Try.func81, Try.ntmps81
    go_wp2_with fail
    go_loopw [3] (fun ix wr => ∃ k : Nat, ix = .int .i64 (k : Int) ∧ Hid (k ≤ os.length ∧ Below w.heap.size w wr ∧ ∀ j, j < k → opOk (os.getD j default) (os.length : Int) = true)) (fun ix _ => lenLeft os.length ix)
    case atStart => exact ⟨0, rfl, Nat.zero_le _, Below.refl _ _, fun j hj => absurd hj (Nat.not_lt_zero _)⟩
    case round =>
      rename World => wr
      obtain ⟨k, rfl, HH⟩ := hrel
      obtain ⟨hk, hBw, hall⟩ := unhide HH
      have HBW := hide hBw
      have HALL := hide hall
      by_cases hlt : k < os.length
      · obtain ⟨b, off, rfl, hcs⟩ := unhide HC (by omega)
        have hop := (hcs k hlt).below hBw
        have hkI : (k : Int) < (os.length : Int) := by omega
        have HLT := hide hlt
        have HO := hide (fun w => isOperation_any (os.getD k default) (os.length : Int) w)
        have hSN : Hid (opOk (os.getD k default) (os.length : Int) = true → ∀ j, j < k + 1 → opOk (os.getD j default) (os.length : Int) = true) := fun he j hj => by
          by_cases e : j = k
          · subst e; exact he
          · exact hall j (by omega)
        have hNO : Hid (opOk (os.getD k default) (os.length : Int) = false → codeB os = false) := fun he => by
          cases hcb : codeB os with
          | false => rfl
          | true => have := ((unhide HB).1 hcb).2 k hlt; rw [he] at this; cases this
        unfold opV at HO
        obtain ⟨c0, c1, c2, c3⟩ := hop
        clear hk hlt hBw hall HH hcs
        generalize os.getD k default = o at *
        cases hr : opOk o (os.length : Int)
        · have HR := hide hr
          rw [hr] at HO
          clear hr
          go_wp2_with fail
          refine (unhide HO _).mono ?_
          rintro e w1 ⟨rfl, hb1⟩
          have HB1 := hide hb1
          clear hb1
          go_wp2_with fail
          go_ret
          exact ⟨ret_bool (unhide hNO (unhide HR)).symm, (unhide HBW).trans ((unhide HB1).mono (unhide HBW).size)⟩
        · have HR := hide hr
          rw [hr] at HO
          clear hr
          go_wp2_with fail
          refine (unhide HO _).mono ?_
          rintro e w1 ⟨rfl, hb1⟩
          have HB1 := hide hb1
          clear hb1
          go_wp2_with fail
          go_roundw
          case rel => exact ⟨k + 1, by go_num, unhide HLT, (unhide HBW).trans ((unhide HB1).mono (unhide HBW).size), unhide hSN (unhide HR)⟩
          case measure => have := unhide HLT; simp [lenLeft, intOf]; omega
      · have hk2 : k = os.length := by omega
        subst hk2
        have HR : Hid (codeB os = true) := (unhide HB).2 ⟨unhide HL, hall⟩
        clear hk hlt hBw hall HH
        go_wp2_with fail
        go_ret
        exact ⟨ret_bool (unhide HR).symm, unhide HBW⟩
  · have hlI : (4096 : Int) < (os.length : Int) := by omega
    have HR : Hid (codeB os = false) := by
      show codeB os = false
      cases hcb : codeB os with
      | false => rfl
      | true => exact absurd ((unhide HB).1 hcb).1 hl
    clear hl
    go_enter Try.func81, Try.ntmps81
    go_wp2_with fail
    go_ret
    exact ⟨ret_bool (unhide HR).symm, Below.refl _ _⟩

set_option maxRecDepth 20000 in
set_option maxHeartbeats 1000000 in
theorem isMemory_any (w : World) (v : Value) (zs : List Int) (h : IAt w v zs) : Calls Try.prog 82 #[v] w fun e w' => e = .returned (.bool (memB zs)) ∧ w' = w := by
  obtain ⟨a, cap, rfl, hc⟩ := h
  have HC := hide hc
  have HB := hide (memB_iff zs)
  clear hc
  by_cases hl : zs.length ≤ 4096
  · have hlI : (zs.length : Int) ≤ 4096 := by omega
    have HL := hide hl
    clear hl
    go_enter Try.func82, Try.ntmps82
    go_wp2_with fail
    go_loopw [3] (fun ix wr => ∃ k : Nat, ix = .int .i64 (k : Int) ∧ wr = w ∧ Hid (k ≤ zs.length ∧ ∀ j, j < k → wordOk (zs.getD j 0) = true)) (fun ix _ => lenLeft zs.length ix)
    case atStart => exact ⟨0, rfl, rfl, Nat.zero_le _, fun j hj => absurd hj (Nat.not_lt_zero _)⟩
    case round =>
      rename World => wr
      obtain ⟨k, rfl, rfl, HH⟩ := hrel
      obtain ⟨hk, hall⟩ := unhide HH
      have HALL := hide hall
      by_cases hlt : k < zs.length
      · obtain ⟨b, off, rfl, hcs⟩ := unhide HC (by omega)
        have hop := hcs k hlt
        have hkI : (k : Int) < (zs.length : Int) := by omega
        have HLT := hide hlt
        have hSN : Hid (wordOk (zs.getD k 0) = true → ∀ j, j < k + 1 → wordOk (zs.getD j 0) = true) := fun he j hj => by
          by_cases e : j = k
          · subst e; exact he
          · exact hall j (by omega)
        have hNO : Hid (wordOk (zs.getD k 0) = false → memB zs = false) := fun he => by
          cases hcb : memB zs with
          | false => rfl
          | true => have := ((unhide HB).1 hcb).2 k hlt; rw [he] at this; cases this
        clear hk hlt hall HH hcs
        generalize zs.getD k 0 = z at *
        cases hr : wordOk z
        · have HR := hide hr
          go_wp2_with (go_at_call 117; refine (isWord_any _ _).mono ?_; rintro e w' ⟨rfl, rfl⟩)
          go_ret
          exact ⟨ret_bool (unhide hNO (unhide HR)).symm, rfl⟩
        · have HR := hide hr
          go_wp2_with (go_at_call 117; refine (isWord_any _ _).mono ?_; rintro e w' ⟨rfl, rfl⟩)
          go_roundw
          case rel => exact ⟨k + 1, by go_num, by trivial, unhide HLT, unhide hSN (unhide HR)⟩
          case measure => have := unhide HLT; simp [lenLeft, intOf]; omega
      · have hk2 : k = zs.length := by omega
        subst hk2
        have HR : Hid (memB zs = true) := (unhide HB).2 ⟨unhide HL, hall⟩
        clear hk hlt hall HH
        go_wp2_with fail
        go_ret
        exact ⟨ret_bool (unhide HR).symm, rfl⟩
  · have hlI : (4096 : Int) < (zs.length : Int) := by omega
    have HR : Hid (memB zs = false) := by
      show memB zs = false
      cases hcb : memB zs with
      | false => rfl
      | true => exact absurd ((unhide HB).1 hcb).1 hl
    clear hl
    go_enter Try.func82, Try.ntmps82
    go_wp2_with fail
    go_ret
    exact ⟨ret_bool (unhide HR).symm, rfl⟩

end Mc
end Go.Proofs.Ytohefinejdfhaab
