/-
  veilkeep.First, veilkeep.Told.
-/
import Derived.Test.YtlafngfoejngaaaJn
namespace Go.Proofs.Ytlafngfoejngaaa
namespace Mc
open Go.RowKit

theorem bel_up3 {w a b : World} (h : Below w.heap.size w a) (k : Below a.heap.size a b) : Below w.heap.size w b := h.trans (k.mono h.size)
section
attribute [local go_sem ↓] Go.wp_at_zero Go.wp_at_succ zvPl
attribute [local go_sem] aggcells zcPl_size zcPl_ne
set_option maxRecDepth 20000 in
set_option maxHeartbeats 4000000 in
theorem First_any (w : World) (raw : ByteArray) (n k : Int) (t : ByteArray) (hr : raw.size ≤ 9223372036854775807) (n1 : -9223372036854775808 ≤ n) (n2 : n ≤ 9223372036854775807) (k1 : -9223372036854775808 ≤ k) (k2 : k ≤ 9223372036854775807) (ht : t.size ≤ 9223372036854775807) :
    Calls Try.prog 5 #[.string raw, .int .i64 n, .int .i64 k, .string t] w fun e w' => e = .returned (.bool true) ∧ Below w.heap.size w w' := by
  have hN : pickN n 17 ≤ 16 := by have := pickN_lt n (n := 17) (by decide); omega
  have hF : pickN k 10 < 10 := pickN_lt k (by decide)
  have HPL : Hid (∀ W, Calls Try.prog 12 #[.string raw, .int .i64 n, .int .i64 k] W fun e w' => e = .returned (.agg (planC ((pickN n 17 : Nat) : Int) ((pickN k 10 : Nat) : Int) (kCells (kT raw 0)) (kCells (kT raw 5)))) ∧ Below W.heap.size W w') := fun W => kplan_any W raw n k hr n1 n2 k1 k2
  have hA := kT_kok raw 0
  have hB := kT_kok raw 5
  have HTX := hide (fun W => kptext_any W (pickN n 17) (pickN k 10) hN hF (kT raw 0) (kT raw 5) hA hB)
  have HST := hide (fun W => kshort_any W t (pickN n 17) ht (by omega))
  have htl := kshortS_le t (pickN n 17)
  have HTL := hide htl
  have HGR : Hid (∀ W s, s.size ≤ 16 → Calls Try.prog 15 #[.agg (planC ((pickN n 17 : Nat) : Int) ((pickN k 10 : Nat) : Int) (kCells (kT raw 0)) (kCells (kT raw 5))), .string s] W fun e w' => e = .returned (.bool (pSay (pickN k 10) (kT raw 0) (kT raw 5) (btsN s))) ∧ Below W.heap.size W w') := fun W s hs => kgrants_any W ((pickN n 17 : Nat) : Int) (pickN k 10) hF (kT raw 0) (kT raw 5) hA hB s (by omega)
  have HWI := hide (fun W => plan_wit (N := pickN n 17) (k := pickN k 10) hN hF hA hB W)
  have HSZ : Hid ((planC ((pickN n 17 : Nat) : Int) ((pickN k 10 : Nat) : Int) (kCells (kT raw 0)) (kCells (kT raw 5))).size = 550) := planC_size _ _ (kCells_size _) (kCells_size _)
  have HON : Hid ((planC ((pickN n 17 : Nat) : Int) ((pickN k 10 : Nat) : Int) (kCells (kT raw 0)) (kCells (kT raw 5))).all (·.oneCell') = true) := planC_one _ _ (kCells_one _) (kCells_one _)
  have HC0 := hide (planC_0 ((pickN n 17 : Nat) : Int) ((pickN k 10 : Nat) : Int) (kCells (kT raw 0)) (kCells (kT raw 5)))
  have HN := hide hN
  have hNI : ((pickN n 17 : Nat) : Int) ≤ 16 := by omega
  clear hr n1 n2 k1 k2 ht hN hF hA hB htl
  generalize pSay (pickN k 10) (kT raw 0) (kT raw 5) = P at *
  generalize planX (pickN n 17) (pickN k 10) (kT raw 0) (kT raw 5) = x at *
  generalize kshortS t (pickN n 17) = t1 at *
  generalize planC ((pickN n 17 : Nat) : Int) ((pickN k 10 : Nat) : Int) (kCells (kT raw 0)) (kCells (kT raw 5)) = cs at *
  generalize pickN n 17 = N at *
  go_enter Try.func5, Try.ntmps5
  go_wp2_with fail
  refine (unhide HPL _).mono ?_
  rintro e w1 ⟨rfl, hb1⟩
  have HIM : Hid ((w1.alloc (.cells cs 39)).heap[w1.heap.size]? = some (.cells cs 39 (0, 0))) := heap_alloc_new _ _
  have HB2 : Hid (Below w.heap.size w (w1.alloc (.cells cs 39))) := hb1.alloc hb1.size _
  have c0 : (w1.alloc (.cells cs 39)).cell? ⟨w1.heap.size, 0, none⟩ = some (.int .i64 (N : Int)) := by rw [cell_of_row _ _ _ _ _ _ (unhide HIM)]; exact unhide HC0
  clear hb1 HPL
  go_wp2_with (refine store_row rfl 39 _ _ rfl rfl w1.heap.size cs rfl rfl 39 _ (heap_alloc_new _ _) (by rw [unhide HSZ]; exact infoP) (by rw [zcPl_size]; exact (unhide HSZ).symm) (unhide HON) ?_; rw [setRow_alloc1])
  generalize w1.alloc (.cells cs 39) = w2 at *
  generalize w1.heap.size = gp at *
  refine (unhide HST _).mono ?_
  rintro e w' ⟨rfl, hww⟩
  obtain rfl : w2 = w' := hww.symm
  clear hww c0 HST
  go_wp2_with (refine wpList_load_row rfl 39 _ rfl gp rfl 39 _ (0, 0) _ (unhide HIM) Try.underlying39 rfl (by rw [unhide HSZ]; exact infoP) ?_)
  refine (unhide HTX _).mono ?_
  rintro e w3 ⟨rfl, hb3⟩
  have HF3 := hide hb3
  have HB3 := hide (bel_up3 (unhide HB2) hb3)
  clear hb3 HTX HB2
  go_wp2_with fail
  refine (unhide HWI _).mono ?_
  rintro e w4 ⟨hb4, hans⟩
  have HF4 := hide (bel_up3 (unhide HF3) hb4)
  have HB4 := hide (bel_up3 (unhide HB3) hb4)
  have HI4 : Hid (w4.heap[gp]? = some (.cells cs 39 (0, 0))) := (Fr.ofBelow (unhide HF4)).at (unhide HIM) (by simp)
  have HGT := hide (fun W => unhide HGR W t1 (by have := unhide HTL; have := unhide HN; omega))
  clear hb4 HF3 HB3 HWI
  rcases hans with ⟨u, hu, hl, hp, hmin, rfl⟩ | ⟨hno, rfl⟩
  · have HSL : Hid (P (btsN t1) = false ∨ befN (btsN t1) (btsN (mkV u)) = false) := by
      cases hh : P (btsN t1)
      · exact .inl rfl
      · exact .inr (decide_eq_false (by have := hmin _ (btsN_byt t1) hh; rw [btsN_mkV hu]; omega))
    have HGU : Hid (∀ W, Calls Try.prog 15 #[.agg cs, .string (mkV u)] W fun e w' => e = .returned (.bool true) ∧ Below W.heap.size W w') := fun W => by
      have := unhide HGR W (mkV u) (by rw [mkV_size]; have := unhide HN; omega)
      rw [btsN_mkV hu, hp] at this
      exact this
    have HBE := hide (fun W => kbefore_any W t1 (mkV u) (by have := unhide HTL; have := unhide HN; omega) (by rw [mkV_size]; have := unhide HN; omega))
    have hzI : ((mkV u).size : Int) ≤ (N : Int) := by rw [mkV_size]; omega
    clear hu hl hp hmin HGR
    generalize P (btsN t1) = sm at *
    generalize befN (btsN t1) (btsN (mkV u)) = ls at *
    generalize mkV u = su at *
    go_wp2_with (refine wpList_load_row rfl 39 _ rfl gp rfl 39 _ (0, 0) _ (unhide HI4) Try.underlying39 rfl (by rw [unhide HSZ]; exact infoP) ?_)
    refine (unhide HGT _).mono ?_
    rintro e w5 ⟨rfl, hb5⟩
    have HB5 := hide (bel_up3 (unhide HB4) hb5)
    have HI5 : Hid (w5.heap[gp]? = some (.cells cs 39 (0, 0))) := (Fr.ofBelow hb5).at (unhide HI4) (by simp)
    clear hb5 HB4 HF4 HGT HI4
    go_wp2_with (refine wpList_load_row rfl 39 _ rfl gp rfl 39 _ (0, 0) _ (unhide HI5) Try.underlying39 rfl (by rw [unhide HSZ]; exact infoP) ?_)
    refine (unhide HGU _).mono ?_
    rintro e w6 ⟨rfl, hb6⟩
    have HB6 := hide (bel_up3 (unhide HB5) hb6)
    have HI6 : Hid (w6.heap[gp]? = some (.cells cs 39 (0, 0))) := (Fr.ofBelow hb6).at (unhide HI5) (by simp)
    have c6 : w6.cell? ⟨gp, 0, none⟩ = some (.int .i64 (N : Int)) := by rw [cell_of_row _ _ _ _ _ _ (unhide HI6)]; exact unhide HC0
    have hg6 : gp < w6.heap.size := (Array.getElem?_eq_some_iff.1 (unhide HI6)).1
    clear hb6 HB5 HGU HI5
    go_wp2_with fail
    refine (unhide HBE _).mono ?_
    rintro e w7 ⟨rfl, hww⟩
    obtain rfl : w6 = w7 := hww.symm
    clear hww HBE
    rcases unhide HSL with h | h
    · subst h
      clear HSL
      cases ls
      all_goals
        go_wp2_with fail
        go_ret
        exact ⟨rfl, unhide HB6⟩
    · subst h
      clear HSL
      cases sm
      all_goals
        go_wp2_with fail
        go_ret
        exact ⟨rfl, unhide HB6⟩
  · have hsm : P (btsN t1) = false := hno _ (btsN_byt t1) (by rw [btsN_len]; exact unhide HTL)
    rw [hsm] at HGT
    clear hno hsm HGR
    go_wp2_with (refine wpList_load_row rfl 39 _ rfl gp rfl 39 _ (0, 0) _ (unhide HI4) Try.underlying39 rfl (by rw [unhide HSZ]; exact infoP) ?_)
    refine (unhide HGT _).mono ?_
    rintro e w5 ⟨rfl, hb5⟩
    have HB5 := hide (bel_up3 (unhide HB4) hb5)
    clear hb5 HB4 HF4 HGT HI4
    go_wp2_with fail
    go_ret
    exact ⟨rfl, unhide HB5⟩
end

end Mc
end Go.Proofs.Ytlafngfoejngaaa
