/-
  The law Matches.
-/
import Derived.Test.YtohefinejdfhaaaWn
import Derived.Test.YtohefinejdfhaaaSe
import Derived.Test.YtohefinejdfhaaaMM
namespace Go.Proofs.Ytohefinejdfhaaa
open Go.RowKit
attribute [local go_sem ↓] Go.wp_at_zero Go.wp_at_succ

theorem rfF_same {p : ByteArray} {n n' : Nat} {r r' : List Rn × Int} (h : rfF n 0 p 0 0 [] = some r) (h' : rfF n' 0 p 0 0 [] = some r') : r = r' := by
  have a := rfF_mono n (max n n') 0 p 0 0 [] r (Nat.le_max_left _ _) h
  have b := rfF_mono n' (max n n') 0 p 0 0 [] r' (Nat.le_max_right _ _) h'
  rw [a] at b
  exact Option.some.inj b

theorem ok_len {p : ByteArray} {y : St} {n : Nat} {rs : List Rn} {k : Int} (h : RefOk p y) (h0 : (readErr p y).1 = 0) (hf : rfF n 0 p 0 0 [] = some (rs, k)) : rs.length ≤ 1000 := by
  have hn : ¬ (y.s.bad = true ∨ y.s.k < p.size) := fun h => by rw [readErr_bad h] at h0; cases h0
  obtain ⟨_, n', r, m, W, h1, h2, _⟩ := h.2 hn
  have := rfF_same h1 hf
  subst this
  exact h2

set_option maxHeartbeats 1000000 in
theorem Matches_of (p s : ByteArray) (w : World) :
    Calls Try.prog 4 #[.string p, .string s] w fun e w' => e = .returned (.bool true) ∧ Below w.heap.size w w' := by
  by_cases hl : p.size ≤ 60 ∧ s.size ≤ 16
  · have HV := hide (VMatch_any w p s hl.1 hl.2)
    have HLP := hide hl
    clear hl
    go_enter Try.func4, Try.ntmps4
    go_wp2_with fail
    refine (unhide HV).mono ?_
    rintro e w1 ⟨y, i, b, hr, rfl, hw1, hne, heq⟩
    have hro := refOk_all p y i (unhide HLP).1 hr
    have HRM : Hid (∀ w1, Calls Try.prog 16 #[.string p, .string s] w1 fun e w' => e = .returned (.tuple #[.bool b, .int .i64 (readErr p y).1]) ∧ Below w1.heap.size w1 w') := by
      intro w1
      by_cases h0 : (readErr p y).1 = 0
      · obtain ⟨n, rs, k, S, f1, f2, f3⟩ := heq h0
        refine (RMatch_any w1 p s y n rs k S (unhide HLP).1 (unhide HLP).2 hro (fun _ => ⟨f1, ok_len hro h0 f1, f2⟩)).mono ?_
        rintro e w2 ⟨b2, rfl, hw2, -, g2⟩
        have : b = b2 := by rw [Bool.eq_iff_iff, f3, g2 h0]
        subst this
        exact ⟨rfl, hw2⟩
      · refine (RMatch_any w1 p s y 0 [] 0 .blank (unhide HLP).1 (unhide HLP).2 hro (fun h => absurd h h0)).mono ?_
        rintro e w2 ⟨b2, rfl, hw2, g1, -⟩
        have : b = b2 := by rw [hne h0, g1 h0]
        subst this
        exact ⟨rfl, hw2⟩
    clear hr hne heq hro HV
    generalize (readErr p y).1 = e1 at *
    go_wp2_with fail
    refine (unhide HRM w1).mono ?_
    rintro e w2 ⟨rfl, hw2⟩
    go_wp2_with (go_at_call 14; refine (num_any _ _).mono ?_; rintro e w' ⟨rfl, rfl⟩)
    all_goals go_ret
    all_goals exact ⟨ret_bool (by simp_all), below_trans' hw1 hw2⟩
  · have hl' : 60 < p.size ∨ 16 < s.size := by omega
    have HA := hide (VMatch_long w p s hl')
    go_enter Try.func4, Try.ntmps4
    go_wp2_with fail
    refine (unhide HA).mono ?_
    rintro e w1 ⟨rfl, hw1⟩
    go_wp2_with fail
    refine (RMatch_long w1 p s hl').mono ?_
    rintro e w2 ⟨rfl, hw2⟩
    go_wp2_with (go_at_call 14; refine (num_any _ _).mono ?_; rintro e w' ⟨rfl, rfl⟩)
    all_goals go_ret
    all_goals exact ⟨rfl, below_trans' hw1 hw2⟩

end Go.Proofs.Ytohefinejdfhaaa
