/-
  policies.formulaReader: begin, take.
-/
import Derived.Test.YtnkdbcicphnmiaaT09
namespace Go.Proofs.Ytnkdbcicphnmiaa
namespace Mc
open Go.RowKit
attribute [local go_sem ↓] Go.wp_at_zero Go.wp_at_succ

/-- What is due behind the first byte of a formula. -/
def fbeg (R b : Nat) : Option Nat := if 97 ≤ b ∧ b < 97 + R then some 2 else if b = 33 then some 0 else if 48 ≤ b ∧ b ≤ 57 then some 1 else none
/-- A byte is taken: how many are open, and what is due. -/
def ftake (R o d b : Nat) : Option (Nat × Nat) :=
  if d = 0 then (fbeg R b).map fun d' => (o, d')
  else if d = 1 then (if b = 40 then some (o + 1, 0) else none)
  else if o = 0 then none
  else if b = 41 then some (o - 1, d)
  else (fbeg R b).map fun d' => (o, d')
/-- A reader of formulas in memory. -/
structure FB (w : World) (g R o d : Nat) : Prop where
  heap : w.heap[g]? = some (.cells #[.int .i64 (R : Int), .int .i64 (o : Int), .int .i64 (d : Int)] 159 (0, 0))
section
variable {w : World} {g R o d : Nat}
theorem FB.c0 (h : FB w g R o d) : w.cell? ⟨g, 0, none⟩ = some (.int .i64 (R : Int)) := by rw [cell_of_row _ _ _ _ _ _ h.heap]; rfl
theorem FB.c1 (h : FB w g R o d) : w.cell? ⟨g, 1, none⟩ = some (.int .i64 (o : Int)) := by rw [cell_of_row _ _ _ _ _ _ h.heap]; rfl
theorem FB.c2 (h : FB w g R o d) : w.cell? ⟨g, 2, none⟩ = some (.int .i64 (d : Int)) := by rw [cell_of_row _ _ _ _ _ _ h.heap]; rfl
theorem FB.fz (h : FB w g R o d) (k : Nat) : w.frozen? ⟨g, k, none⟩ = false := frozen_of_row _ _ _ _ _ h.heap
theorem FB.due (h : FB w g R o d) (d' : Nat) : FB (w.setCell ⟨g, 2, none⟩ (.int .i64 (d' : Int))) g R o d' := ⟨by rw [heap_setCell_same _ _ _ _ _ _ h.heap]; rfl⟩
theorem FB.opn (h : FB w g R o d) (o' : Nat) : FB (w.setCell ⟨g, 1, none⟩ (.int .i64 (o' : Int))) g R o' d := ⟨by rw [heap_setCell_same _ _ _ _ _ _ h.heap]; rfl⟩
end
/-- What a step of the reader leaves. -/
def FrmA (w : World) (g R : Nat) (r : Option (Nat × Nat)) (e : Ending) (w' : World) : Prop :=
  match r with
  | some p => e = .returned (.bool true) ∧ Fr [g] w w' ∧ FB w' g R p.1 p.2
  | none => e = .returned (.bool false) ∧ Fr [g] w w'

set_option maxRecDepth 20000 in
set_option maxHeartbeats 1000000 in
theorem begin_any (w : World) (g R o d b : Nat) (h : FB w g R o d) (hR : R ≤ 100) (hb : b < 256) :
    Calls Try.prog 117 #[.pointer (some ⟨g, 0, none⟩), .int .i64 (b : Int)] w (FrmA w g R ((fbeg R b).map fun d' => (o, d'))) := by
  have c0 := h.c0
  have c2 := h.c2
  have f2 := h.fz 2
  have HH := hide h
  have hRI : (R : Int) ≤ 100 := by omega
  have hbI : (b : Int) < 256 := by omega
  unfold fbeg
  by_cases h1 : 97 ≤ b ∧ b < 97 + R
  · rw [if_pos h1]
    have i1 : (97 : Int) ≤ (b : Int) := by omega
    have i2 : (b : Int) < 97 + (R : Int) := by omega
    clear h h1
    go_enter Try.func117, Try.ntmps117
    go_wp2_with fail
    go_ret
    exact ⟨rfl, (Fr.refl [g] w).set (Or.inl (by simp)) _ _, (unhide HH).due 2⟩
  · rw [if_neg h1]
    have hd : (b : Int) < 97 ∨ (97 : Int) ≤ (b : Int) ∧ ¬ (b : Int) < 97 + (R : Int) := by omega
    by_cases h2 : b = 33
    · subst h2
      rw [if_pos rfl]
      clear h h1 hd
      go_enter Try.func117, Try.ntmps117
      go_wp2_with fail
      go_ret
      exact ⟨rfl, (Fr.refl [g] w).set (Or.inl (by simp)) _ _, (unhide HH).due 0⟩
    · rw [if_neg h2]
      have h2I : ¬ (b : Int) = 33 := by omega
      by_cases h3 : 48 ≤ b ∧ b ≤ 57
      · rw [if_pos h3]
        have i1 : (48 : Int) ≤ (b : Int) := by omega
        have i2 : (b : Int) ≤ 57 := by omega
        have i3 : (b : Int) < 97 := by omega
        clear h h1 h2 h3 hd
        go_enter Try.func117, Try.ntmps117
        go_wp2_with fail
        go_ret
        exact ⟨rfl, (Fr.refl [g] w).set (Or.inl (by simp)) _ _, (unhide HH).due 1⟩
      · rw [if_neg h3]
        have h3I : (b : Int) < 48 ∨ (48 : Int) ≤ (b : Int) ∧ ¬ (b : Int) ≤ 57 := by omega
        clear h h1 h2 h3
        have hall : (b : Int) < 48 ∧ (b : Int) < 97 ∨ ((48 : Int) ≤ (b : Int) ∧ ¬ (b : Int) ≤ 57 ∧ (b : Int) < 97) ∨ ((48 : Int) ≤ (b : Int) ∧ ¬ (b : Int) ≤ 57 ∧ (97 : Int) ≤ (b : Int) ∧ ¬ (b : Int) < 97 + (R : Int)) := by omega
        clear hd h3I
        rcases hall with ⟨k1, k2⟩ | ⟨k1, k2, k3⟩ | ⟨k1, k2, k3, k4⟩
        all_goals
          go_enter Try.func117, Try.ntmps117
          go_wp2_with fail
          go_ret
          exact ⟨rfl, Fr.refl [g] w⟩

set_option maxRecDepth 20000 in
set_option maxHeartbeats 1000000 in
theorem ftake_any (w : World) (g R o d b : Nat) (h : FB w g R o d) (hR : R ≤ 100) (hb : b < 256) (ho : o ≤ 1000) (hd : d ≤ 2) :
    Calls Try.prog 97 #[.pointer (some ⟨g, 0, none⟩), .int .i64 (b : Int)] w (FrmA w g R (ftake R o d b)) := by
  have c1 := h.c1
  have c2 := h.c2
  have f1 := h.fz 1
  have f2 := h.fz 2
  have HH := hide h
  have HBG := hide (begin_any w g R o d b h hR hb)
  have hbI : (b : Int) < 256 := by omega
  have hoI : (o : Int) ≤ 1000 := by omega
  unfold ftake
  by_cases h0 : d = 0
  · subst h0
    rw [if_pos rfl]
    clear h
    go_enter Try.func97, Try.ntmps97
    go_wp2_with fail
    refine (unhide HBG).mono ?_
    intro e w1 hr
    cases hx : (fbeg R b).map fun d' => (o, d') with
    | none =>
      rw [hx] at hr
      obtain ⟨rfl, hf⟩ := hr
      have HF := hide hf
      clear hf
      go_wp2_with fail
      go_ret
      rw [hx]
      exact ⟨rfl, unhide HF⟩
    | some p =>
      rw [hx] at hr
      obtain ⟨rfl, hf, hfb⟩ := hr
      have HF := hide hf
      have HFB := hide hfb
      clear hf hfb
      go_wp2_with fail
      go_ret
      rw [hx]
      exact ⟨rfl, unhide HF, unhide HFB⟩
  · rw [if_neg h0]
    by_cases h1 : d = 1
    · subst h1
      rw [if_pos rfl]
      by_cases h40 : b = 40
      · subst h40
        rw [if_pos rfl]
        have hw : IntKind.i64.wrap ((o : Int) + 1) = ((o + 1 : Nat) : Int) := wrap_i64 (o + 1) (by omega)
        clear h h0
        go_enter Try.func97, Try.ntmps97
        go_wp2_with fail
        go_ret
        exact ⟨rfl, ((Fr.refl [g] w).set (Or.inl (by simp)) _ _).set (Or.inl (by simp)) _ _, ((unhide HH).opn (o + 1)).due 0⟩
      · rw [if_neg h40]
        have h40I : ¬ (b : Int) = 40 := by omega
        clear h h0
        go_enter Try.func97, Try.ntmps97
        go_wp2_with fail
        go_ret
        exact ⟨rfl, Fr.refl [g] w⟩
    · rw [if_neg h1]
      have hd2 : d = 2 := by omega
      subst hd2
      by_cases ho0 : o = 0
      · subst ho0
        rw [if_pos rfl]
        clear h h0 h1
        go_enter Try.func97, Try.ntmps97
        go_wp2_with fail
        go_ret
        exact ⟨rfl, Fr.refl [g] w⟩
      · rw [if_neg ho0]
        have ho0I : ¬ (o : Int) = 0 := by omega
        by_cases h41 : b = 41
        · subst h41
          rw [if_pos rfl]
          have e1 : (o : Int) - 1 = ((o - 1 : Nat) : Int) := by omega
          have hw : IntKind.i64.wrap ((o - 1 : Nat) : Int) = ((o - 1 : Nat) : Int) := wrap_i64 (o - 1) (by omega)
          have HQ := hide ((unhide HH).opn (o - 1))
          clear h h0 h1
          generalize o - 1 = q at *
          go_enter Try.func97, Try.ntmps97
          go_wp2_with fail
          go_ret
          exact ⟨rfl, (Fr.refl [g] w).set (Or.inl (by simp)) _ _, unhide HQ⟩
        · rw [if_neg h41]
          have h41I : ¬ (b : Int) = 41 := by omega
          clear h h0 h1
          go_enter Try.func97, Try.ntmps97
          go_wp2_with fail
          refine (unhide HBG).mono ?_
          intro e w1 hr
          cases hx : (fbeg R b).map fun d' => (o, d') with
          | none =>
            rw [hx] at hr
            obtain ⟨rfl, hf⟩ := hr
            have HF := hide hf
            clear hf
            go_wp2_with fail
            go_ret
            rw [hx]
            exact ⟨rfl, unhide HF⟩
          | some p =>
            rw [hx] at hr
            obtain ⟨rfl, hf, hfb⟩ := hr
            have HF := hide hf
            have HFB := hide hfb
            clear hf hfb
            go_wp2_with fail
            go_ret
            rw [hx]
            exact ⟨rfl, unhide HF, unhide HFB⟩

end Mc
end Go.Proofs.Ytnkdbcicphnmiaa
