/-
  The weights of nodes: weightAt, weighNode.
-/
import Derived.Test.YtohefinejdfhaabPat3
import Derived.Test.YtohefinejdfhaabMM
namespace Go.Proofs.Ytohefinejdfhaab
open Go.RowKit

def IntRow (w : World) (g : Nat) (ws : List Int) : Prop := ∀ j : Nat, j < ws.length → w.cell? ⟨g, j, none⟩ = some (.int .i64 (ws.getD j 0))

set_option maxHeartbeats 400000 in
theorem weightAt_any (w : World) (g cap : Nat) (ws : List Int) (i : Int) (h : IntRow w g ws) :
    Calls Try.prog 126 #[.slice (some ⟨g, 0, none⟩) ws.length cap, .int .i64 i] w fun e w' =>
      e = .returned (.int .i64 (wAt ws i)) ∧ w' = w := by
  by_cases h0 : i < 0
  · have e1 : wAt ws i = 0 := by unfold wAt; rw [if_pos (Or.inl h0)]
    rw [e1]
    clear e1
    go_enter Try.func126, Try.ntmps126
    go_wp2
    go_ret
    exact ⟨rfl, rfl⟩
  · by_cases h1 : (ws.length : Int) ≤ i
    · have e1 : wAt ws i = 0 := by unfold wAt; rw [if_pos (Or.inr h1)]
      rw [e1]
      clear e1
      go_enter Try.func126, Try.ntmps126
      go_wp2
      go_ret
      exact ⟨rfl, rfl⟩
    · have e1 : wAt ws i = ws.getD i.toNat 0 := by unfold wAt; rw [if_neg (by omega)]
      rw [e1]
      obtain ⟨j, rfl⟩ := Int.eq_ofNat_of_zero_le (by omega : 0 ≤ i)
      have hc := h j (by omega)
      rw [Int.toNat_natCast]
      generalize ws.getD j 0 = v at *
      have hj : (j : Int) < (ws.length : Int) := by omega
      clear e1 h h0
      go_enter Try.func126, Try.ntmps126
      go_wp2
      go_ret
      exact ⟨rfl, rfl⟩

theorem IntRow.alloc {w : World} {g : Nat} {ws : List Int} (h : IntRow w g ws) (o : Obj) : IntRow (w.alloc o) g ws := by
  intro j hj
  have h1 := h j hj
  have hlt := block_lt_of_cell h1
  rw [World.cell?_of_block (w := w) (Below.heap_alloc w o g hlt)]
  exact h1
theorem IntRow.drewN {w : World} {g : Nat} {ws : List Int} (h : IntRow w g ws) (n : Nat) : IntRow (w.drewN n) g ws := h

theorem clamp1 {w : Int} (h : w < 1) : (1 : Int) = clampW w := by unfold clampW; rw [if_pos h]
theorem clamp2 {w : Int} (_h1 : 1 ≤ w) (h : 13 < w) : (13 : Int) = clampW w := by unfold clampW; rw [if_neg (by omega), if_pos h]
theorem clamp3 {w : Int} (h1 : 1 ≤ w) (h : w ≤ 13) : w = clampW w := by unfold clampW; rw [if_neg (by omega), if_neg (by omega)]

set_option maxHeartbeats 1000000 in
theorem weighNode_any (w : World) (g cap : Nat) (ws : List Int) (k l r lo hi st : Int) (h : IntRow w g ws) (hb : ∀ v ∈ ws, 1 ≤ v ∧ v ≤ 13) (h0 : 0 ≤ hi) (h9 : hi ≤ 9) :
    Calls Try.prog 90 #[.agg #[.int .i64 k, .int .i64 l, .int .i64 r, .int .i64 lo, .int .i64 hi, .int .i64 st], .slice (some ⟨g, 0, none⟩) ws.length cap] w fun e w' =>
      e = .returned (.int .i64 (weighNd ws ⟨k, l, r, lo, hi, st⟩)) ∧ Below w.heap.size w w' := by
  have HI := hide (h.alloc (Obj.cells #[.int .i64 k, .int .i64 l, .int .i64 r, .int .i64 lo, .int .i64 hi, .int .i64 st] 157))
  have bl := wAt_bd hb l
  have br := wAt_bd hb r
  have B0 : Below w.heap.size w (w.alloc (Obj.cells #[.int .i64 k, .int .i64 l, .int .i64 r, .int .i64 lo, .int .i64 hi, .int .i64 st] 157)) := (Below.refl _ _).alloc (Nat.le_refl _) _
  have HB := hide B0
  have HWL := hide (fun n => weightAt_any ((w.alloc (Obj.cells #[.int .i64 k, .int .i64 l, .int .i64 r, .int .i64 lo, .int .i64 hi, .int .i64 st] 157)).drewN n) g cap ws l ((unhide HI).drewN n))
  have HWR := hide (fun n => weightAt_any ((w.alloc (Obj.cells #[.int .i64 k, .int .i64 l, .int .i64 r, .int .i64 lo, .int .i64 hi, .int .i64 st] 157)).drewN n) g cap ws r ((unhide HI).drewN n))
  have e0 : weighNd ws ⟨k, l, r, lo, hi, st⟩ = clampW (if (k == 2 || k == 3) = true then wAt ws l + wAt ws r else if (k == 4 || k == 5 || k == 6) = true then wAt ws l else if (k == 7) = true then wAt ws l * hi else 1) := rfl
  rw [e0]
  clear B0 h hb HI e0
  generalize wAt ws l = a at *
  generalize wAt ws r = c at *
  by_cases c2 : (k == 2) = true
  · rw [if_pos (by simp [c2])]
    go_enter Try.func90, Try.ntmps90
    go_wp2
    go_quiet ((first
      | (go_at_call_of 126 (Value.int IntKind.i64 l); exact Calls.quiet_of_same (unhide HWL _))
      | (go_at_call_of 126 (Value.int IntKind.i64 r); exact Calls.quiet_of_same (unhide HWR _))))
    go_wp2
    all_goals (go_ret; exact ⟨ret_int (by first | exact clamp1 ‹_› | exact clamp2 ‹_› ‹_› | exact clamp3 ‹_› ‹_›), below_drewN (unhide HB) _⟩)
  · have c2' : (k == 2) = false := by simpa using c2
    clear c2
    by_cases c3 : (k == 3) = true
    · rw [if_pos (by simp [c3])]
      go_enter Try.func90, Try.ntmps90
      go_wp2
      go_quiet ((first
      | (go_at_call_of 126 (Value.int IntKind.i64 l); exact Calls.quiet_of_same (unhide HWL _))
      | (go_at_call_of 126 (Value.int IntKind.i64 r); exact Calls.quiet_of_same (unhide HWR _))))
      go_wp2
      all_goals (go_ret; exact ⟨ret_int (by first | exact clamp1 ‹_› | exact clamp2 ‹_› ‹_› | exact clamp3 ‹_› ‹_›), below_drewN (unhide HB) _⟩)
    · have c3' : (k == 3) = false := by simpa using c3
      clear c3
      rw [if_neg (by simp [c2', c3'])]
      have HW0 := hide (unhide HWL 0)
      by_cases c4 : (k == 4) = true
      · rw [if_pos (by simp [c4])]
        go_enter Try.func90, Try.ntmps90
        go_wp2_with (go_at_call 126; refine (unhide HW0).mono ?_; rintro e w' ⟨rfl, rfl⟩)
        all_goals (go_ret; exact ⟨ret_int (by first | exact clamp1 ‹_› | exact clamp2 ‹_› ‹_› | exact clamp3 ‹_› ‹_›), below_drewN (unhide HB) _⟩)
      · have c4' : (k == 4) = false := by simpa using c4
        clear c4
        by_cases c5 : (k == 5) = true
        · rw [if_pos (by simp [c5])]
          go_enter Try.func90, Try.ntmps90
          go_wp2_with (go_at_call 126; refine (unhide HW0).mono ?_; rintro e w' ⟨rfl, rfl⟩)
          all_goals (go_ret; exact ⟨ret_int (by first | exact clamp1 ‹_› | exact clamp2 ‹_› ‹_› | exact clamp3 ‹_› ‹_›), below_drewN (unhide HB) _⟩)
        · have c5' : (k == 5) = false := by simpa using c5
          clear c5
          by_cases c6 : (k == 6) = true
          · rw [if_pos (by simp [c6])]
            go_enter Try.func90, Try.ntmps90
            go_wp2_with (go_at_call 126; refine (unhide HW0).mono ?_; rintro e w' ⟨rfl, rfl⟩)
            all_goals (go_ret; exact ⟨ret_int (by first | exact clamp1 ‹_› | exact clamp2 ‹_› ‹_› | exact clamp3 ‹_› ‹_›), below_drewN (unhide HB) _⟩)
          · have c6' : (k == 6) = false := by simpa using c6
            clear c6
            rw [if_neg (by simp [c4', c5', c6'])]
            by_cases c7 : (k == 7) = true
            · rw [if_pos c7]
              have m0 : 0 ≤ a * hi := Int.mul_nonneg bl.1 h0
              have m1 : a * hi ≤ 117 := Int.le_trans (Int.mul_le_mul_of_nonneg_right bl.2 h0) (by omega)
              go_enter Try.func90, Try.ntmps90
              go_wp2
              go_quiet ((first
      | (go_at_call_of 126 (Value.int IntKind.i64 l); exact Calls.quiet_of_same (unhide HWL _))
      | (go_at_call_of 126 (Value.int IntKind.i64 r); exact Calls.quiet_of_same (unhide HWR _))))
              go_wp2
              all_goals (go_ret; exact ⟨ret_int (by first | exact clamp1 ‹_› | exact clamp2 ‹_› ‹_› | exact clamp3 ‹_› ‹_›), below_drewN (unhide HB) _⟩)
            · have c7' : (k == 7) = false := by simpa using c7
              clear c7
              rw [if_neg (by simp [c7'])]
              go_enter Try.func90, Try.ntmps90
              go_wp2
              go_ret
              exact ⟨ret_int (by decide), unhide HB⟩

end Go.Proofs.Ytohefinejdfhaab
