/-
  machine.isCode, isMemory.
-/
import Derived.Test.YtnkdbcicphnmiaaNd
namespace Go.Proofs.Ytnkdbcicphnmiaa
namespace Mc
open Go.RowKit
attribute [local go_sem ↓] Go.wp_at_zero Go.wp_at_succ

def lenLeft (n : Nat) (v : Value) : Nat := n - (intOf v).toNat

set_option maxRecDepth 20000 in
set_option maxHeartbeats 1000000 in
theorem isCode_any (w : World) (v : Value) (os : List OpI) (h : OAt w v os) : Calls Try.prog 91 #[v] w fun e w' => e = .returned (.bool (codeB os)) ∧ Below w.heap.size w w' := by
  obtain ⟨a, cap, rfl, hc⟩ := h
  have HC := hide hc
  have HB := hide (codeB_iff os)
  clear hc
  by_cases hl : os.length ≤ 4096
  · have hlI : (os.length : Int) ≤ 4096 := by omega
    have HL := hide hl
    clear hl
    go_enter Try.func91, Try.ntmps91
    go_wp2_with fail
    go_loopw [3] (fun ix wr => ∃ k : Nat, ix = .int .i64 (k : Int) ∧ Hid (k ≤ os.length ∧ Below w.heap.size w wr ∧ ∀ j, j < k → opOk (os.getD j op0) (os.length : Int) = true)) (fun ix _ => lenLeft os.length ix)
    case atStart => exact ⟨0, rfl, Nat.zero_le _, Below.refl _ _, fun j hj => absurd hj (Nat.not_lt_zero _)⟩
    case round =>
      rename World => wr
      obtain ⟨k, rfl, HH⟩ := hrel
      obtain ⟨hk, hBw, hall⟩ := unhide HH
      have HBW := hide hBw
      have HALL := hide hall
      by_cases hlt : k < os.length
      · obtain ⟨b, off, rfl, hcs⟩ := unhide HC (by omega)
        have hop := (hcs k hlt).below hBw
        have hkI : (k : Int) < (os.length : Int) := by omega
        have HLT := hide hlt
        have HO := hide (fun w => isOperation_any (os.getD k op0) (os.length : Int) w)
        have hSN : Hid (opOk (os.getD k op0) (os.length : Int) = true → ∀ j, j < k + 1 → opOk (os.getD j op0) (os.length : Int) = true) := fun he j hj => by
          by_cases e : j = k
          · subst e; exact he
          · exact hall j (by omega)
        have hNO : Hid (opOk (os.getD k op0) (os.length : Int) = false → codeB os = false) := fun he => by
          cases hcb : codeB os with
          | false => rfl
          | true => have := ((unhide HB).1 hcb).2 k hlt; rw [he] at this; cases this
        unfold opV at HO
        obtain ⟨c0, c1, c2, c3⟩ := hop
        clear hk hlt hBw hall HH hcs
        generalize os.getD k op0 = o at *
        cases hr : opOk o (os.length : Int)
        · have HR := hide hr
          rw [hr] at HO
          clear hr
          go_wp2_with fail
          refine (unhide HO _).mono ?_
          rintro e w1 ⟨rfl, hb1⟩
          have HB1 := hide hb1
          clear hb1
          go_wp2_with fail
          go_ret
          exact ⟨ret_bool (unhide hNO (unhide HR)).symm, (unhide HBW).trans ((unhide HB1).mono (unhide HBW).size)⟩
        · have HR := hide hr
          rw [hr] at HO
          clear hr
          go_wp2_with fail
          refine (unhide HO _).mono ?_
          rintro e w1 ⟨rfl, hb1⟩
          have HB1 := hide hb1
          clear hb1
          go_wp2_with fail
          go_roundw
          case rel => exact ⟨k + 1, by go_num, unhide HLT, (unhide HBW).trans ((unhide HB1).mono (unhide HBW).size), unhide hSN (unhide HR)⟩
          case measure => have := unhide HLT; simp [lenLeft, intOf]; omega
      · have hk2 : k = os.length := by omega
        subst hk2
        have HR : Hid (codeB os = true) := (unhide HB).2 ⟨unhide HL, hall⟩
        clear hk hlt hBw hall HH
        go_wp2_with fail
        go_ret
        exact ⟨ret_bool (unhide HR).symm, unhide HBW⟩
  · have hlI : (4096 : Int) < (os.length : Int) := by omega
    have HR : Hid (codeB os = false) := by
      show codeB os = false
      cases hcb : codeB os with
      | false => rfl
      | true => exact absurd ((unhide HB).1 hcb).1 hl
    clear hl
    go_enter Try.func91, Try.ntmps91
    go_wp2_with fail
    go_ret
    exact ⟨ret_bool (unhide HR).symm, Below.refl _ _⟩

set_option maxRecDepth 20000 in
set_option maxHeartbeats 1000000 in
theorem isMemory_any (w : World) (v : Value) (zs : List Int) (h : IAt w v zs) : Calls Try.prog 92 #[v] w fun e w' => e = .returned (.bool (memB zs)) ∧ w' = w := by
  obtain ⟨a, cap, rfl, hc⟩ := h
  have HC := hide hc
  have HB := hide (memB_iff zs)
  clear hc
  by_cases hl : zs.length ≤ 4096
  · have hlI : (zs.length : Int) ≤ 4096 := by omega
    have HL := hide hl
    clear hl
    go_enter Try.func92, Try.ntmps92
    go_wp2_with fail
    go_loopw [3] (fun ix wr => ∃ k : Nat, ix = .int .i64 (k : Int) ∧ wr = w ∧ Hid (k ≤ zs.length ∧ ∀ j, j < k → wordOk (zs.getD j 0) = true)) (fun ix _ => lenLeft zs.length ix)
    case atStart => exact ⟨0, rfl, rfl, Nat.zero_le _, fun j hj => absurd hj (Nat.not_lt_zero _)⟩
    case round =>
      rename World => wr
      obtain ⟨k, rfl, rfl, HH⟩ := hrel
      obtain ⟨hk, hall⟩ := unhide HH
      have HALL := hide hall
      by_cases hlt : k < zs.length
      · obtain ⟨b, off, rfl, hcs⟩ := unhide HC (by omega)
        have hop := hcs k hlt
        have hkI : (k : Int) < (zs.length : Int) := by omega
        have HLT := hide hlt
        have hSN : Hid (wordOk (zs.getD k 0) = true → ∀ j, j < k + 1 → wordOk (zs.getD j 0) = true) := fun he j hj => by
          by_cases e : j = k
          · subst e; exact he
          · exact hall j (by omega)
        have hNO : Hid (wordOk (zs.getD k 0) = false → memB zs = false) := fun he => by
          cases hcb : memB zs with
          | false => rfl
          | true => have := ((unhide HB).1 hcb).2 k hlt; rw [he] at this; cases this
        clear hk hlt hall HH hcs
        generalize zs.getD k 0 = z at *
        cases hr : wordOk z
        · have HR := hide hr
          go_wp2_with (go_at_call 113; refine (isWord_any _ _).mono ?_; rintro e w' ⟨rfl, rfl⟩)
          go_ret
          exact ⟨ret_bool (unhide hNO (unhide HR)).symm, rfl⟩
        · have HR := hide hr
          go_wp2_with (go_at_call 113; refine (isWord_any _ _).mono ?_; rintro e w' ⟨rfl, rfl⟩)
          go_roundw
          case rel => exact ⟨k + 1, by go_num, by trivial, unhide HLT, unhide hSN (unhide HR)⟩
          case measure => have := unhide HLT; simp [lenLeft, intOf]; omega
      · have hk2 : k = zs.length := by omega
        subst hk2
        have HR : Hid (memB zs = true) := (unhide HB).2 ⟨unhide HL, hall⟩
        clear hk hlt hall HH
        go_wp2_with fail
        go_ret
        exact ⟨ret_bool (unhide HR).symm, rfl⟩
  · have hlI : (4096 : Int) < (zs.length : Int) := by omega
    have HR : Hid (memB zs = false) := by
      show memB zs = false
      cases hcb : memB zs with
      | false => rfl
      | true => exact absurd ((unhide HB).1 hcb).1 hl
    clear hl
    go_enter Try.func92, Try.ntmps92
    go_wp2_with fail
    go_ret
    exact ⟨ret_bool (unhide HR).symm, rfl⟩

set_option maxRecDepth 20000 in
set_option maxHeartbeats 2000000 in
theorem right_any (o : OpI) (n : Int) (w : World) : Calls Try.prog 94 #[opV o, .int .i64 n] w fun e w' => e = .returned (.bool (opOk o n)) ∧ Below w.heap.size w w' := by
  have h0 := hide (@opOk0 o n)
  have h1 := hide (@opOk1 o n)
  have h6 := hide (@opOk6 o n)
  have h8 := hide (@opOk8 o n)
  have h9 := hide (@opOk9 o n)
  have hwb := hide (show wordOk o.b = (decide (0 ≤ o.b) && decide (o.b ≤ 65535)) from rfl)
  obtain ⟨k, a, b, c⟩ := o
  unfold opV
  simp only at h0 h1 h6 h8 h9 hwb
  generalize opOk ⟨k, a, b, c⟩ n = r at *
  go_enter Try.func94, Try.ntmps94
  cases ha : regOk a <;> cases hb : regOk b <;> cases hc : regOk c
  all_goals
    go_wp2_with (go_at_call 116; refine (register_any _ _).mono ?_; rintro e w' ⟨rfl, rfl⟩)
    all_goals
      go_ret
      refine ⟨ret_bool ?_, (Below.refl _ _).alloc (Nat.le_refl _) _⟩
      try simp only [beq_iff_eq, beq_eq_false_iff_ne, ne_eq] at *
      first
        | (rw [unhide h0 (by omega), ha]; rfl)
        | (rw [unhide h0 (by omega), ha, unhide hwb]; simp; (try omega); done)
        | (rw [unhide h1 (by omega), ha, hb, hc]; rfl)
        | (rw [unhide h6 (by omega), ha, hb]; rfl)
        | (rw [unhide h8 (by omega), ha]; rfl)
        | (rw [unhide h8 (by omega), ha]; simp; (try omega); done)
        | (rw [unhide h9 (by omega)]; done)

end Mc
end Go.Proofs.Ytnkdbcicphnmiaa
