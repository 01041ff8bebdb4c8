/-
  The automaton: reach, grants.
-/
import Derived.Test.YtohefinejdfhaabVa
namespace Go.Proofs.Ytohefinejdfhaab
open Go.RowKit
attribute [local go_sem ↓] Go.wp_at_zero Go.wp_at_succ

set_option maxHeartbeats 1000000 in
theorem reach_any (w : World) (g : Nat) (p : Part) (x : Nat) (h : AutB w g p) (hp : p.Ok) (hl : p.next.length ≤ 50) (hx : x < top) :
    Calls Try.prog 60 #[.pointer (some ⟨g, 0, none⟩), .int .i64 (x : Int)] w fun e w' => e = .returned (.int .i64 ((reachP p x : Nat) : Int)) ∧ w' = w := by
  obtain ⟨nv, h1, h2⟩ := h
  obtain ⟨na, nc, rfl⟩ := h2.form
  have H2 := hide h2
  have hs := hp.small hl
  have HX := hide hx
  have HN := hide hs.2.2.2
  have HR := hide (fun k => reachN_lt (next := p.next) hp.2.2.2 x k)
  have HL := hide hl
  have hlI : (p.next.length : Int) ≤ 50 := by omega
  have HTOP : Hid (2 ^ p.next.length ≤ top) := Nat.pow_le_pow_right (n := 2) (by omega) (show p.next.length ≤ 60 by omega)
  have y0 : w.cell? ⟨g, 0, none⟩ = some (.slice na p.next.length nc) := by rw [cell_of_row _ _ _ _ _ _ h1, autA_0]
  have HP : Hid (reachP p x = reachN p.next x p.next.length) := rfl
  clear h1 h2 hs hp hl hx
  go_enter Try.func60, Try.ntmps60
  go_wp2
  go_loopw [5, 6] (fun rx ix wr => ∃ k r : Nat, ix = .int .i64 (k : Int) ∧ rx = .int .i64 (r : Int) ∧ k ≤ p.next.length ∧ wr = w ∧ Hid (r = reachN p.next x k)) (fun _ ix _ => p.next.length - (intOf ix).toNat)
  case atStart => exact ⟨0, 0, rfl, rfl, Nat.zero_le _, rfl, rfl⟩
  case round =>
    rename World => wr
    obtain ⟨k, r, rfl, rfl, hk, rfl, HH⟩ := hrel
    by_cases hlt : k < p.next.length
    · obtain ⟨g2, cap, he, hc⟩ := (unhide H2).at hlt
      simp only [Value.slice.injEq, true_and] at he
      obtain ⟨rfl, rfl⟩ := he
      have hlt' : (k : Int) < (p.next.length : Int) := by omega
      have hcall := has_any x k wr (by have := unhide HL; omega) (unhide HX)
      have hn : p.next.getD k 0 < top := by rw [List.getD_eq_getElem?_getD, List.getElem?_eq_getElem hlt]; exact unhide HN _ (List.getElem_mem _)
      have hr : r < top := by rw [unhide HH]; exact Nat.lt_of_lt_of_le (unhide HR k) (unhide HTOP)
      have HE := hide (i64_or_nat r (p.next.getD k 0) hr hn)
      have HSN : Hid (reachN p.next x (k + 1) = if x.testBit k then reachN p.next x k ||| p.next.getD k 0 else reachN p.next x k) := rfl
      clear hn hr
      generalize p.next.getD k 0 = y at *
      by_cases ht : x.testBit k = true
      · rw [ht] at hcall
        have HC := hide hcall
        have HT := hide ht
        clear hcall hlt ht
        go_wp2_with (go_at_call 96; refine (unhide HC).mono ?_; rintro e w' ⟨rfl, rfl⟩)
        go_roundw
        case rel =>
          refine ⟨k + 1, r ||| y, by go_num, ?_, by omega, by trivial, ?_⟩
          · first | rfl | rw [unhide HE]
          · show _ = _
            rw [unhide HSN, if_pos (unhide HT), unhide HH]
        case measure => simp [intOf]; omega
      · have ht' : x.testBit k = false := by simpa using ht
        rw [ht'] at hcall
        have HC := hide hcall
        have HT := hide ht
        clear hcall hlt ht ht'
        go_wp2_with (go_at_call 96; refine (unhide HC).mono ?_; rintro e w' ⟨rfl, rfl⟩)
        go_roundw
        case rel =>
          refine ⟨k + 1, r, by go_num, rfl, by omega, by trivial, ?_⟩
          show _ = _
          rw [unhide HSN, if_neg (unhide HT), unhide HH]
        case measure => simp [intOf]; omega
    · have hk2 : k = p.next.length := by omega
      subst hk2
      go_wp2
      go_ret
      exact ⟨ret_int (by rw [unhide HP, unhide HH]), rfl⟩

theorem grants_any (w : World) (g : Nat) (p : Part) (x : Nat) (h : AutB w g p) (hp : p.Ok) (hl : p.next.length ≤ 50) (hx : x < top) :
    Calls Try.prog 61 #[.pointer (some ⟨g, 0, none⟩), .int .i64 (x : Int)] w fun e w' => e = .returned (.bool (decide (x &&& p.last ≠ 0))) ∧ w' = w := by
  obtain ⟨nv, h1, h2⟩ := h
  have y0 : w.cell? ⟨g, 257, none⟩ = some (.int .i64 (p.last : Int)) := by rw [cell_of_row _ _ _ _ _ _ h1, autA_257]
  have e1 := i64_and_nat x p.last hx (hp.small hl).2.2.1
  clear h1 h2 hp hl hx
  go_enter Try.func61, Try.ntmps61
  go_wp2
  go_ret
  refine ⟨?_, rfl⟩
  generalize x &&& p.last = n
  by_cases h : n = 0
  · subst h; rfl
  · have h1 : ((n : Int) != 0) = true := by simp; omega
    simp [h1, h]

end Go.Proofs.Ytohefinejdfhaab
