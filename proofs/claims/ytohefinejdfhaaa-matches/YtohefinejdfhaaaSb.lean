/-
  The document's answer: then.
-/
import Derived.Test.YtohefinejdfhaaaSa
namespace Go.Proofs.Ytohefinejdfhaaa
open Go.RowKit
attribute [local go_sem ↓] Go.wp_at_zero Go.wp_at_succ

theorem bit_test (x k : Nat) (hx : x < top) : (bits .and .i64 ((x : Int) / 2 ^ k) 1 == 1) = x.testBit k := by
  have e1 : (x : Int) / 2 ^ k = ((x / 2 ^ k : Nat) : Int) := by simp
  have e2 := i64_and_nat (x / 2 ^ k) 1 (Nat.lt_of_le_of_lt (Nat.div_le_self _ _) hx) (by decide)
  rw [e1, show (1 : Int) = ((1 : Nat) : Int) from rfl, e2, Nat.and_one_is_mod, Nat.testBit_eq_decide_div_mod_eq]
  by_cases h : x / 2 ^ k % 2 = 1
  · rw [h]; rfl
  · have h0 : x / 2 ^ k % 2 = 0 := by omega
    rw [h0]; rfl

/-- Rows below i are done, row i up to d. -/
def thenTo (a b : Nat → Nat) (n i d : Nat) : Nat → Nat := fun j => if j < i then thenN a b n j else if j = i then thenK a b i d else 0
theorem thenTo_at (a b : Nat → Nat) (n i d : Nat) : thenTo a b n i d i = thenK a b i d := by unfold thenTo; rw [if_neg (by omega), if_pos rfl]
theorem thenTo_yes {a b : Nat → Nat} {n i k : Nat} (hik : i ≤ k) (ht : (a i).testBit k = true) (j : Nat) : (if j = i then (thenK a b i (k - i) ||| b k) else thenTo a b n i (k - i) j) = thenTo a b n i (k + 1 - i) j := by
  have e : k + 1 - i = (k - i) + 1 := by omega
  have e2 : i + (k - i) = k := by omega
  unfold thenTo
  by_cases hj : j = i
  · subst hj
    rw [if_pos rfl, if_neg (by omega), if_pos rfl, e, thenK, e2, if_pos ht]
  · rw [if_neg hj, if_neg hj, if_neg hj]
theorem thenTo_no {a b : Nat → Nat} {n i k : Nat} (hik : i ≤ k) (ht : (a i).testBit k = false) (j : Nat) : thenTo a b n i (k - i) j = thenTo a b n i (k + 1 - i) j := by
  have e : k + 1 - i = (k - i) + 1 := by omega
  have e2 : i + (k - i) = k := by omega
  unfold thenTo
  by_cases hj : j = i
  · subst hj
    rw [if_neg (by omega), if_pos rfl, if_neg (by omega), if_pos rfl, e, thenK, e2, if_neg (by rw [ht]; simp)]
  · rw [if_neg hj, if_neg hj]
theorem thenTo_done {a b : Nat → Nat} {n i : Nat} (hi : i ≤ n) (j : Nat) : thenTo a b n i (n + 1 - i) j = thenTo a b n (i + 1) 0 j := by
  unfold thenTo
  by_cases hj : j < i
  · rw [if_pos hj, if_pos (by omega)]
  · by_cases hj2 : j = i
    · subst hj2
      rw [if_neg hj, if_pos rfl, if_pos (by omega)]
      unfold thenN
      rw [if_pos hi]
    · rw [if_neg hj, if_neg hj2, if_neg (by omega)]
      by_cases hj3 : j = i + 1
      · rw [if_pos hj3]; rfl
      · rw [if_neg hj3]
theorem thenTo_all (a b : Nat → Nat) (n : Nat) : spanA (thenTo a b n (n + 1) 0) = spanA (thenN a b n) := by
  apply spanA_congr
  intro j _
  unfold thenTo
  by_cases hj : j < n + 1
  · rw [if_pos hj]
  · rw [if_neg hj]
    have : thenN a b n j = 0 := by unfold thenN; rw [if_neg (by omega)]
    rw [this]
    by_cases hj3 : j = n + 1
    · rw [if_pos hj3]; rfl
    · rw [if_neg hj3]

/-- In the midst of then. -/
structure Th (w wr : World) (a b x : Nat → Nat) : Prop where
  below : Below w.heap.size w wr
  b0 : SpB wr w.heap.size a
  b1 : SpB wr (w.heap.size + 1) b
  b2 : SpB wr (w.heap.size + 2) (fun _ => 0)
  b3 : SpB wr (w.heap.size + 3) x
theorem Th.start (w : World) (a b : Nat → Nat) : Th w ((((w.alloc (.cells (spanA a) 78)).alloc (.cells (spanA b) 78)).alloc (.cells zeroSpan 78)).alloc (.cells zeroSpan 78)) a b (fun _ => 0) := by
  have s1 : (w.alloc (.cells (spanA a) 78)).heap.size = w.heap.size + 1 := by simp
  have s2 : ((w.alloc (.cells (spanA a) 78)).alloc (.cells (spanA b) 78)).heap.size = w.heap.size + 1 + 1 := by simp
  have s3 : (((w.alloc (.cells (spanA a) 78)).alloc (.cells (spanA b) 78)).alloc (.cells zeroSpan 78)).heap.size = w.heap.size + 1 + 1 + 1 := by simp
  refine ⟨((((Below.refl _ _).alloc (Nat.le_refl _) _).alloc (by simp) _).alloc (by simp; omega) _).alloc (by simp; omega) _, ?_, ?_, ?_, ?_⟩
  · unfold SpB; rw [Below.heap_alloc _ _ _ (by omega)]; exact heap3_0 w _ _ _
  · unfold SpB; rw [Below.heap_alloc _ _ _ (by omega)]; exact heap3_1 w _ _ _
  · refine SpB.zero ?_; rw [Below.heap_alloc _ _ _ (by omega)]; exact heap3_2 w _ _ _
  · refine SpB.zero ?_
    have : w.heap.size + 3 = (((w.alloc (.cells (spanA a) 78)).alloc (.cells (spanA b) 78)).alloc (.cells zeroSpan 78)).heap.size := by omega
    rw [this]; exact heap_alloc_new _ _
theorem Th.congr {w wr : World} {a b x y : Nat → Nat} (h : Th w wr a b x) (hy : ∀ j, x j = y j) : Th w wr a b y := ⟨h.below, h.b0, h.b1, h.b2, h.b3.congr (fun j _ => hy j)⟩
theorem Th.set {w wr : World} {a b x y : Nat → Nat} (h : Th w wr a b x) (k v : Nat) (hy : ∀ j, (if j = k then v else x j) = y j) : Th w (wr.drew.setCell ⟨w.heap.size + 3, k, none⟩ (.int .i64 (v : Int))) a b y :=
  ⟨h.below.drew.setCell (by simp) _, SpB.other h.b0 (by omega) _ _, SpB.other h.b1 (by omega) _ _, SpB.other h.b2 (by omega) _ _, SpB.set h.b3 k v (fun j _ => hy j)⟩

theorem low_top {a : Nat → Nat} (h : Low a) (i : Nat) : a i < top := by have := h i; unfold top; omega

set_option maxHeartbeats 1000000 in
theorem then_any (w : World) (a b : Nat → Nat) (n : Nat) (ha : Low a) (hb : Low b) (hn : n ≤ 16) :
    Calls Try.prog 74 #[.agg (spanA a), .agg (spanA b), .int .i64 (n : Int)] w fun e w' => e = .returned (.agg (spanA (thenN a b n))) ∧ Below w.heap.size w w' := by
  have HA := hide ha
  have HB0 := hide hb
  have hnI : (n : Int) ≤ 16 := by omega
  have HT0 := hide (Th.start w a b)
  clear ha hb
  go_enter Try.func74, Try.ntmps74
  go_wp2
  go_loopw [8] (fun i wr => ∃ k : Nat, k ≤ n + 1 ∧ i = .int .i64 k ∧ Hid (Th w wr a b (thenTo a b n k 0))) (fun i _ => left17 i)
  case atStart => exact ⟨0, by omega, rfl, (unhide HT0).congr (fun j => by unfold thenTo; rw [if_neg (by omega)]; split <;> rfl)⟩
  case round =>
    rename_i wr
    obtain ⟨i, hi, rfl, HH⟩ := hrel
    by_cases hlt : i ≤ n
    · have hlt' : (i : Int) ≤ (n : Int) := by omega
      have HLT := hide hlt
      clear hlt hi
      go_wp2
      go_loopw [9] (fun ix wr => ∃ k : Nat, i ≤ k ∧ k ≤ n + 1 ∧ ix = .int .i64 (k : Int) ∧ Hid (Th w wr a b (thenTo a b n i (k - i)))) (fun ix _ => left17 ix)
      case atStart => exact ⟨i, Nat.le_refl _, by have := unhide HLT; omega, rfl, by rw [Nat.sub_self]; exact unhide HH⟩
      case round =>
        rename World => w2
        obtain ⟨k, hik, hkn, rfl, HD⟩ := hrel
        by_cases hlt2 : k ≤ n
        · have hc := (unhide HD).b0.cell (k := i) (by omega)
          have hd := (unhide HD).b1.cell (k := k) (by omega)
          have hx := (unhide HD).b3.cell (k := i) (by omega)
          have hf := (unhide HD).b3.free i
          rw [thenTo_at] at hx
          have hk' : (k : Int) ≤ (n : Int) := by omega
          have hb1 := bit_test (a i) k (low_top (unhide HA) i)
          have HE := hide (i64_or_nat (thenK a b i (k - i)) (b k) (by have := low_thenK (a := a) (unhide HB0) i (k - i); unfold top; omega) (low_top (unhide HB0) k))
          have HL2 := hide hlt2
          have HIK := hide hik
          clear hlt2 hkn hik
          generalize hy : thenK a b i (k - i) = y at *
          have HY := hide hy
          clear hy
          by_cases ht : (a i).testBit k = true
          · have HT := hide ht
            rw [ht] at hb1
            clear ht
            go_wp2
            go_region
            all_goals
              go_wp2
              go_roundw
              case rel =>
                refine ⟨k + 1, by have := unhide HIK; omega, by have := unhide HL2; omega, by go_num, ?_⟩
                rw [unhide HE]
                refine (unhide HD).set i _ fun j => ?_
                rw [← unhide HY]
                exact thenTo_yes (unhide HIK) (unhide HT) j
              case measure => have := unhide HL2; simp [left17, intOf]; omega
          · have ht' : (a i).testBit k = false := by simpa using ht
            have HT := hide ht'
            rw [ht'] at hb1
            clear ht ht'
            go_wp2
            go_roundw
            case rel => exact ⟨k + 1, by have := unhide HIK; omega, by have := unhide HL2; omega, by go_num, (unhide HD).congr (thenTo_no (unhide HIK) (unhide HT))⟩
            case measure => have := unhide HL2; simp [left17, intOf]; omega
        · have hk2 : k = n + 1 := by omega
          subst hk2
          go_wp2
          go_roundw
          case rel => exact ⟨i + 1, by have := unhide HLT; omega, by go_num, (unhide HD).congr (thenTo_done (unhide HLT))⟩
          case measure => have := unhide HLT; simp [left17, intOf]; omega
    · have hk2 : i = n + 1 := by omega
      subst hk2
      go_wp2_with (first
        | refine wpList_load_row rfl 78 _ rfl (w.heap.size + 3) rfl 78 _ (0, 0) _ (unhide HH).b3 Try.underlying78 rfl (by rw [size_spanA]; exact info63) ?_
        | refine wpList_store_row rfl 78 _ _ rfl (w.heap.size + 2) _ rfl rfl 78 _ (unhide HH).b2 (by rw [size_spanA]; exact info63) (by rw [size_spanA, size_spanA]) (spanA_one _) ?_)
      exact bodyPost_ret (v := .agg (spanA (thenTo a b n (n + 1) 0)))
        (results_cell_row (p := 6) (ty := 78) rfl _ _ (w.heap.size + 2) 78 _ (0, 0) _ rfl ((unhide HH).b2.row _) Try.underlying78 rfl (by rw [size_spanA]; exact info63))
        rfl ⟨by rw [thenTo_all], below_setRow (unhide HH).below (by omega) _⟩

end Go.Proofs.Ytohefinejdfhaaa
