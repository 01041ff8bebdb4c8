/-
  machine.isRegister, isWord, isOperation; veilref.register, right: what operations may stand in code.
-/
import Derived.Test.YtnkdbcicphnmiaaT00
namespace Go.Proofs.Ytnkdbcicphnmiaa
namespace Mc
open Go.RowKit
attribute [local go_sem ↓] Go.wp_at_zero Go.wp_at_succ

def opV (o : OpI) : Value := .agg #[.int .i64 o.k, .int .i64 o.a, .int .i64 o.b, .int .i64 o.c]

set_option maxHeartbeats 400000 in
theorem isRegister_any (n : Int) (w : World) : Calls Try.prog 124 #[.int .i64 n] w fun e w' => e = .returned (.bool (regOk n)) ∧ w' = w := by
  go_enter Try.func124, Try.ntmps124
  go_wp2
  all_goals
    go_ret
    exact ⟨ret_bool (by simp [regOk]; try omega), rfl⟩
set_option maxHeartbeats 400000 in
theorem isWord_any (n : Int) (w : World) : Calls Try.prog 113 #[.int .i64 n] w fun e w' => e = .returned (.bool (wordOk n)) ∧ w' = w := by
  go_enter Try.func113, Try.ntmps113
  go_wp2
  all_goals
    go_ret
    exact ⟨ret_bool (by simp [wordOk]; try omega), rfl⟩
set_option maxHeartbeats 400000 in
theorem register_any (n : Int) (w : World) : Calls Try.prog 116 #[.int .i64 n] w fun e w' => e = .returned (.bool (regOk n)) ∧ w' = w := by
  go_enter Try.func116, Try.ntmps116
  go_wp2
  all_goals
    go_ret
    exact ⟨ret_bool (by simp [regOk]; try omega), rfl⟩

theorem opOk0 {o : OpI} {n : Int} (h : o.k = 0) : opOk o n = (regOk o.a && wordOk o.b) := by unfold opOk; rw [if_pos h]
theorem opOk1 {o : OpI} {n : Int} (h : 1 ≤ o.k ∧ o.k ≤ 5) : opOk o n = (regOk o.a && regOk o.b && regOk o.c) := by unfold opOk; rw [if_neg (by omega), if_pos h]
theorem opOk6 {o : OpI} {n : Int} (h : o.k = 6 ∨ o.k = 7) : opOk o n = (regOk o.a && regOk o.b) := by unfold opOk; rw [if_neg (by omega), if_neg (by omega), if_pos h]
theorem opOk8 {o : OpI} {n : Int} (h : o.k = 8) : opOk o n = (regOk o.a && (decide (0 ≤ o.b) && decide (o.b ≤ n))) := by unfold opOk; rw [if_neg (by omega), if_neg (by omega), if_neg (by omega), if_pos h]
theorem opOk9 {o : OpI} {n : Int} (h : o.k < 0 ∨ 8 < o.k) : opOk o n = false := by unfold opOk; rw [if_neg (by omega), if_neg (by omega), if_neg (by omega), if_neg (by omega)]

set_option maxRecDepth 20000 in
set_option maxHeartbeats 2000000 in
theorem isOperation_any (o : OpI) (n : Int) (w : World) : Calls Try.prog 112 #[opV o, .int .i64 n] w fun e w' => e = .returned (.bool (opOk o n)) ∧ Below w.heap.size w w' := by
  have h0 := hide (@opOk0 o n)
  have h1 := hide (@opOk1 o n)
  have h6 := hide (@opOk6 o n)
  have h8 := hide (@opOk8 o n)
  have h9 := hide (@opOk9 o n)
  obtain ⟨k, a, b, c⟩ := o
  unfold opV
  simp only at h0 h1 h6 h8 h9
  generalize opOk ⟨k, a, b, c⟩ n = r at *
  go_enter Try.func112, Try.ntmps112
  cases ha : regOk a
  · go_wp2_with (go_at_call 124; refine (isRegister_any _ _).mono ?_; rintro e w' ⟨rfl, rfl⟩)
    go_ret
    refine ⟨ret_bool ?_, (Below.refl _ _).alloc (Nat.le_refl _) _⟩
    by_cases g0 : k = 0
    · rw [unhide h0 g0, ha]; rfl
    by_cases g1 : 1 ≤ k ∧ k ≤ 5
    · rw [unhide h1 g1, ha]; rfl
    by_cases g6 : k = 6 ∨ k = 7
    · rw [unhide h6 g6, ha]; rfl
    by_cases g8 : k = 8
    · rw [unhide h8 g8, ha]; rfl
    · rw [unhide h9 (by omega)]
  · go_wp2_with (first
      | (go_at_call 113; refine (isWord_any _ _).mono ?_; rintro e w' ⟨rfl, rfl⟩)
      | (go_at_call 124; refine (isRegister_any _ _).mono ?_; rintro e w' ⟨rfl, rfl⟩))
    all_goals
      go_ret
      refine ⟨ret_bool ?_, (Below.refl _ _).alloc (Nat.le_refl _) _⟩
      try simp only [beq_iff_eq, beq_eq_false_iff_ne, ne_eq] at *
      first
        | (rw [unhide h0 (by omega), ha]; simp; done)
        | (rw [unhide h1 (by omega), ha]; simp; assumption)
        | (rw [unhide h1 (by omega), ha]; simp; (try intros); simp_all; done)
        | (rw [unhide h6 (by omega), ha]; simp; done)
        | (rw [unhide h8 (by omega), ha]; simp; omega)
        | (rw [unhide h9 (by omega)]; done)

end Mc
end Go.Proofs.Ytnkdbcicphnmiaa
