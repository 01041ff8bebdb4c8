/-
  The automaton's Match; veil.Match.
-/
import Derived.Test.YtohefinejdfhaabWl
namespace Go.Proofs.Ytohefinejdfhaab
open Go.RowKit
attribute [local go_sem ↓] Go.wp_at_zero Go.wp_at_succ

def runTo (p : Part) (s : List Nat) (k : Nat) : Nat := runN p 1 (s.take k)
theorem runN_snoc (p : Part) : ∀ (w : List Nat) (x b : Nat), runN p x (w ++ [b]) = stepN p (runN p x w) b
  | [], _, _ => rfl
  | a :: w, x, b => by rw [List.cons_append, runN, runN_snoc p w]; rfl
theorem runTo_step (p : Part) (s : List Nat) (k : Nat) (h : k < s.length) : runTo p s (k + 1) = stepN p (runTo p s k) s[k] := by
  unfold runTo
  rw [List.take_add_one, List.getElem?_eq_getElem h]
  exact runN_snoc p _ 1 _
theorem runTo_lt {p : Part} (hp : p.Ok) (hl : p.next.length ≤ 50) (s : List Nat) : ∀ k, runTo p s k < top
  | 0 => by unfold runTo top; simp [runN]
  | k + 1 => by
    by_cases h : k < s.length
    · rw [runTo_step p s k h]
      unfold stepN
      exact Nat.lt_trans (ledN_lt _ _ _ _) (pow_top (by rw [hp.1]; omega))
    · have e : runTo p s (k + 1) = runTo p s k := by unfold runTo; rw [List.take_of_length_le (by omega), List.take_of_length_le (by omega)]
      rw [e]; exact runTo_lt hp hl s k

set_option maxHeartbeats 1000000 in
theorem AMatch_any (w : World) (g : Nat) (p : Part) (s : ByteArray) (h : AutB w g p) (hp : p.Ok) (hl : p.next.length ≤ 50) (hs : s.size ≤ 16) :
    Calls Try.prog 37 #[.pointer (some ⟨g, 0, none⟩), .string s] w fun e w' => (∃ b, e = .returned (.bool b) ∧ (b = true ↔ runN p 1 (bytesN s) &&& p.last ≠ 0)) ∧ Below w.heap.size w w' := by
  have HA := hide h
  have HT := hide (runTo_lt hp hl (bytesN s))
  have HP := hide hp
  have HL := hide hl
  have HS := hide hs
  have hsI : (s.size : Int) ≤ 16 := by omega
  clear hp hl hs h
  go_enter Try.func37, Try.ntmps37
  go_wp2
  go_loopw [5, 6] (fun rx ix wr => ∃ k r : Nat, ix = .int .i64 (k : Int) ∧ rx = .int .i64 (r : Int) ∧ k ≤ s.size ∧ Hid (r = runTo p (bytesN s) k ∧ Below w.heap.size w wr)) (fun _ ix _ => s.size - (intOf ix).toNat)
  case atStart => exact ⟨0, 1, rfl, rfl, Nat.zero_le _, rfl, Below.refl _ _⟩
  case round =>
    rename World => wr
    obtain ⟨k, r, rfl, rfl, hk, HH⟩ := hrel
    have HB := hide ((unhide HA).below (unhide HH).2)
    by_cases hlt : k < s.size
    · have hlt' : (k : Int) < (s.size : Int) := by omega
      have hbt : s[k].toNat < 256 := s[k].toNat_lt
      have hr : r < top := by rw [(unhide HH).1]; exact unhide HT k
      have HC := hide (fun wr' (hb : AutB wr' g p) => reach_any wr' g p r hb (unhide HP) (unhide HL) hr)
      have hl2 : k < (bytesN s).length := by rw [bytesN_len]; exact hlt
      have HSN : Hid (runTo p (bytesN s) (k + 1) = reachP p r &&& fitP p s[k].toNat) := by
        show _ = _
        rw [runTo_step p (bytesN s) k hl2, bytesN_at s k hlt hl2, (unhide HH).1, stepN_fit]
      have e1 := i64_and_nat _ _ (reachP_lt (unhide HP) (unhide HL) r) (fitP_lt (unhide HP) (unhide HL) s[k].toNat)
      obtain ⟨nv, h1, h2⟩ := unhide HB
      have y0 : wr.cell? ⟨g, 1 + s[k].toNat, none⟩ = some (.int .i64 ((fitP p s[k].toNat : Nat) : Int)) := by rw [cell_of_row _ _ _ _ _ _ h1, autA_b _ _ _ hbt]
      have hbI : (s[k].toNat : Int) < 256 := by omega
      clear hr hbt hl2 h1 h2
      go_wp2
      go_region_with (go_at_call 60; refine (unhide HC _ (by exact (unhide HB).drew)).mono ?_; rintro e w2 ⟨rfl, rfl⟩)
      all_goals
        go_wp2
        go_roundw
        case rel => exact ⟨k + 1, _, by go_num, rfl, by omega, (unhide HSN).symm, (unhide HH).2.drew⟩
        case measure => simp [intOf]; omega
    · have hk2 : k = s.size := by omega
      subst hk2
      have hr : r < top := by rw [(unhide HH).1]; exact unhide HT _
      have HG := hide (grants_any wr g p r (unhide HB) (unhide HP) (unhide HL) hr)
      have HR : Hid (r = runN p 1 (bytesN s)) := by
        have := (unhide HH).1
        unfold runTo at this
        rw [← bytesN_len, List.take_length] at this
        exact this
      clear hr
      go_wp2_with fail
      refine (unhide HG).mono ?_
      rintro e w2 ⟨rfl, rfl⟩
      go_wp2
      go_ret
      refine ⟨⟨_, rfl, ?_⟩, (unhide HH).2⟩
      rw [← unhide HR]; simp

end Go.Proofs.Ytohefinejdfhaab
