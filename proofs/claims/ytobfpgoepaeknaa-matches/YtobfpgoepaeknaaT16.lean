/-
  The document's answer: which parts of a string match: rows of 17 numbers, by value; same, either.
  The document's answer: then.
-/
import Derived.Test.YtobfpgoepaeknaaT08
import Derived.Test.YtobfpgoepaeknaaT15
namespace Go.Proofs.Ytobfpgoepaeknaa
open Go.RowKit
attribute [local go_sem ↓] Go.wp_at_zero Go.wp_at_succ

/-- The 17 cells of a span. -/
def spanA (x : Nat → Nat) : Array Value := Array.ofFn (n := 17) fun i => .int .i64 ((x i.val : Nat) : Int)
theorem size_spanA (f : Nat → Nat) : (spanA f).size = 17 := by simp [spanA]
theorem get_spanA (f : Nat → Nat) (k : Nat) (h : k < 17) : (spanA f)[k]? = some (.int .i64 ((f k : Nat) : Int)) := by simp [spanA, h]
theorem spanA_congr {f g : Nat → Nat} (h : ∀ j, j < 17 → f j = g j) : spanA f = spanA g := by
  unfold spanA
  congr 1
  funext i
  rw [h i.val i.isLt]
theorem spanA_one (f : Nat → Nat) : (spanA f).all (·.oneCell') = true := by
  rw [Array.all_eq_true]
  intro i hi
  simp [spanA, Value.oneCell']
theorem spanA_set (f : Nat → Nat) (k : Nat) (v : Nat) : (spanA f).setIfInBounds k (.int .i64 (v : Int)) = spanA (fun j => if j = k then v else f j) := by
  apply Array.ext_getElem?
  intro i
  rw [Array.getElem?_setIfInBounds]
  by_cases hi : i < 17
  · rw [get_spanA (fun j => if j = k then v else f j) i hi]
    by_cases hk : k = i
    · subst hk; simp [size_spanA, hi]
    · rw [if_neg hk, get_spanA f i hi]; simp [show ¬ i = k from fun e => hk e.symm]
  · have h1 : (spanA f)[i]? = none := by rw [Array.getElem?_eq_none]; simp [size_spanA]; omega
    have h2 : (spanA (fun j => if j = k then v else f j))[i]? = none := by rw [Array.getElem?_eq_none]; simp [size_spanA]; omega
    rw [h1, h2]
    split
    · rw [if_neg (by simp [size_spanA]; omega)]
    · rfl
def zeroSpan : Array Value := #[.int .i64 0, .int .i64 0, .int .i64 0, .int .i64 0, .int .i64 0, .int .i64 0, .int .i64 0, .int .i64 0, .int .i64 0, .int .i64 0, .int .i64 0, .int .i64 0, .int .i64 0, .int .i64 0, .int .i64 0, .int .i64 0, .int .i64 0]
theorem zero63 : zeroSpan = spanA (fun _ => 0) := by kernel_rfl
theorem info63 : (Try.prog.info? 64).map (·.size) = some 17 := by kernel_rfl

/-- A span in a block. -/
def SpB (w : World) (b : Nat) (x : Nat → Nat) : Prop := w.heap[b]? = some (.cells (spanA x) 64 (0, 0))
theorem SpB.cell {w : World} {b : Nat} {x : Nat → Nat} (h : SpB w b x) {k : Nat} (hk : k < 17) : w.cell? ⟨b, k, none⟩ = some (.int .i64 ((x k : Nat) : Int)) := by
  rw [cell_of_row _ _ _ _ _ _ h, get_spanA _ _ hk]
theorem SpB.free {w : World} {b : Nat} {x : Nat → Nat} (h : SpB w b x) (k : Nat) : w.frozen? ⟨b, k, none⟩ = false := frozen_of_row _ _ _ _ _ h
theorem SpB.lt {w : World} {b : Nat} {x : Nat → Nat} (h : SpB w b x) : b < w.heap.size := (Array.getElem?_eq_some_iff.1 h).1
theorem SpB.set {w : World} {b : Nat} {x : Nat → Nat} (h : SpB w b x) (k v : Nat) {y : Nat → Nat} (hy : ∀ j, j < 17 → (if j = k then v else x j) = y j) : SpB (w.setCell ⟨b, k, none⟩ (.int .i64 (v : Int))) b y := by
  unfold SpB
  rw [heap_setCell_same _ _ _ _ _ _ h, spanA_set, spanA_congr hy]
theorem SpB.other {w : World} {b c : Nat} {x : Nat → Nat} (h : SpB w b x) (hc : b ≠ c) (k : Nat) (v : Value) : SpB (w.setCell ⟨c, k, none⟩ v) b x := by
  unfold SpB
  rw [heap_setCell_other _ _ _ _ (by simpa using hc)]; exact h
theorem SpB.below {w w' : World} {b : Nat} {x : Nat → Nat} (h : SpB w b x) (hb : Below w.heap.size w w') : SpB w' b x := (hb.block _ h.lt).trans h
theorem SpB.congr {w : World} {b : Nat} {x y : Nat → Nat} (h : SpB w b x) (hy : ∀ j, j < 17 → x j = y j) : SpB w b y := by
  unfold SpB; rw [← spanA_congr hy]; exact h
theorem SpB.zero {w : World} {b : Nat} (h : w.heap[b]? = some (.cells zeroSpan 64 (0, 0))) : SpB w b (fun _ => 0) := by
  unfold SpB; rw [← zero63]; exact h
theorem SpB.row {w : World} {b : Nat} {x : Nat → Nat} (h : SpB w b x) (y : Nat → Nat) : SpB (w.setRow b (spanA y)) b y := setRow_heap _ _ _ _ _ _ h
theorem SpB.rowOther {w : World} {b c : Nat} {x : Nat → Nat} (h : SpB w b x) (hc : b ≠ c) (cs : Array Value) : SpB (w.setRow c cs) b x := (setRow_other _ _ _ _ hc).trans h

def sameTo (k : Nat) : Nat → Nat := fun i => if i < k then 2 ^ i else 0
theorem sameTo_step (k j : Nat) : (if j = k then 2 ^ k else sameTo k j) = sameTo (k + 1) j := by
  unfold sameTo
  by_cases hj : j = k
  · subst hj; simp
  · rw [if_neg hj]; by_cases h2 : j < k
    · rw [if_pos h2, if_pos (by omega)]
    · rw [if_neg h2, if_neg (by omega)]
theorem sameTo_all (n : Nat) : spanA (sameTo (n + 1)) = spanA (sameN n) := by
  apply spanA_congr; intro j _; unfold sameTo sameN
  by_cases hj : j ≤ n
  · rw [if_pos hj, if_pos (by omega)]
  · rw [if_neg hj, if_neg (by omega)]
def left17 (i : Value) : Nat := 17 - (intOf i).toNat

set_option maxHeartbeats 400000 in
theorem same_any (w : World) (n : Nat) (hn : n ≤ 16) :
    Calls Try.prog 48 #[.int .i64 (n : Int)] w fun e w' => e = .returned (.agg (spanA (sameN n))) ∧ Below w.heap.size w w' := by
  have hnI : (n : Int) ≤ 16 := by omega
  go_enter Try.func48, Try.ntmps48
  go_wp2
  go_loopw [4] (fun i wr => ∃ k : Nat, k ≤ n + 1 ∧ i = .int .i64 k ∧ Below w.heap.size w wr ∧ SpB wr w.heap.size (fun _ => 0) ∧ SpB wr (w.heap.size + 1) (sameTo k)) (fun i _ => left17 i)
  case atStart => exact ⟨0, by omega, rfl, (((Below.refl _ _).alloc (Nat.le_refl _) _).alloc (by simp) _), SpB.zero (heap_alloc2_old _ _ _), SpB.congr (SpB.zero (heap_alloc2_new _ _ _)) (fun j _ => by simp [sameTo])⟩
  case round =>
    rename_i wr
    obtain ⟨k, hk, rfl, hb, hz, hs⟩ := hrel
    have HB := hide hb
    have HS := hide hs
    have HZ := hide hz
    by_cases hlt : k ≤ n
    · have hf := hs.free k
      have hc := hs.cell (k := k) (by omega)
      have hlt' : (k : Int) ≤ (n : Int) := by omega
      have HL := hide hlt
      have HP := hide (wrap64_nat (2 ^ k) (pow_top (by omega)))
      clear hb hs hz hk hlt
      go_wp2
      go_roundw
      case rel =>
        refine ⟨k + 1, by have := unhide HL; omega, by go_num, (unhide HB).setCell (by simp) _, (unhide HZ).other (by simp) _ _, ?_⟩
        have e : wrap64 ((2 : Int) ^ k) = ((2 ^ k : Nat) : Int) := by rw [← unhide HP]; simp
        rw [e]
        exact (unhide HS).set k (2 ^ k) (fun j _ => sameTo_step k j)
      case measure => have := unhide HL; simp [left17, intOf]; omega
    · have hk2 : k = n + 1 := by omega
      subst hk2
      clear hb hs hz
      go_wp2_with (first
        | refine wpList_load_row rfl 64 _ rfl (w.heap.size + 1) rfl 64 _ (0, 0) _ (unhide HS) Try.underlying64 rfl (by rw [size_spanA]; exact info63) ?_
        | refine wpList_store_row rfl 64 _ _ rfl w.heap.size _ rfl rfl 64 _ (unhide HZ) (by rw [size_spanA]; exact info63) (by rw [size_spanA, size_spanA]) (spanA_one _) ?_)
      exact bodyPost_ret (v := .agg (spanA (sameTo (n + 1))))
        (results_cell_row (p := 2) (ty := 64) rfl _ _ w.heap.size 64 _ (0, 0) _ rfl ((unhide HZ).row _) Try.underlying64 rfl (by rw [size_spanA]; exact info63))
        rfl ⟨by rw [sameTo_all], below_setRow (unhide HB) (by omega) _⟩

def eitherTo (a b : Nat → Nat) (k : Nat) : Nat → Nat := fun i => if i < k then a i ||| b i else a i
theorem eitherTo_step (a b : Nat → Nat) (k j : Nat) : (if j = k then a k ||| b k else eitherTo a b k j) = eitherTo a b (k + 1) j := by
  unfold eitherTo
  by_cases hj : j = k
  · subst hj; simp
  · rw [if_neg hj]; by_cases h2 : j < k
    · rw [if_pos h2, if_pos (by omega)]
    · rw [if_neg h2, if_neg (by omega)]

theorem eitherTo_all (a b : Nat → Nat) : spanA (eitherTo a b 17) = spanA (eitherN a b) := by
  apply spanA_congr; intro j hj; unfold eitherTo eitherN; rw [if_pos hj]

set_option maxHeartbeats 400000 in
theorem either_any (w : World) (a b : Nat → Nat) (ha : Low a) (hb : Low b) :
    Calls Try.prog 50 #[.agg (spanA a), .agg (spanA b)] w fun e w' => e = .returned (.agg (spanA (eitherN a b))) ∧ Below w.heap.size w w' := by
  have HA := hide ha
  have HB0 := hide hb
  clear ha hb
  go_enter Try.func50, Try.ntmps50
  go_wp2
  go_loopw [5] (fun i wr => ∃ k : Nat, k ≤ 17 ∧ i = .int .i64 k ∧ Below w.heap.size w wr ∧ SpB wr w.heap.size (eitherTo a b k) ∧ SpB wr (w.heap.size + 1) b ∧ SpB wr (w.heap.size + 2) (fun _ => 0)) (fun i _ => left17 i)
  case atStart => exact ⟨0, by omega, rfl, (((Below.refl _ _).alloc (Nat.le_refl _) _).alloc (by simp) _).alloc (by simp; omega) _, SpB.congr (heap3_0 _ _ _ _) (fun j _ => by simp [eitherTo]), heap3_1 _ _ _ _, SpB.zero (heap3_2 _ _ _ _)⟩
  case round =>
    rename_i wr
    obtain ⟨k, hk, rfl, hb, ha, hs, hz⟩ := hrel
    have HB := hide hb
    have HS := hide hs
    have HZ := hide hz
    have HAA := hide ha
    by_cases hlt : k < 17
    · have hf := ha.free k
      have hc := ha.cell hlt
      have hd := hs.cell hlt
      have e0 : eitherTo a b k k = a k := by simp [eitherTo]
      rw [e0] at hc
      have hlt' : (k : Int) < 17 := by omega
      have HL := hide hlt
      have e1 := i64_or_nat (a k) (b k) (by have := unhide HA k; unfold top; omega) (by have := unhide HB0 k; unfold top; omega)
      have HE := hide e1
      clear hb hs hz hk hlt ha e0 e1
      go_wp2
      go_region
      all_goals
        go_wp2
        go_roundw
        case rel =>
          refine ⟨k + 1, by have := unhide HL; omega, by go_num, ((unhide HB).drew).setCell (by simp) _, ?_, SpB.other (unhide HS) (by simp) _ _, SpB.other (unhide HZ) (by simp) _ _⟩
          rw [unhide HE]
          exact SpB.set (unhide HAA) k _ (fun j _ => eitherTo_step a b k j)
        case measure => have := unhide HL; simp [left17, intOf]; omega
    · have hk2 : k = 17 := by omega
      subst hk2
      clear hb hs hz
      go_wp2_with (first
        | refine wpList_load_row rfl 64 _ rfl w.heap.size rfl 64 _ (0, 0) _ (unhide HAA) Try.underlying64 rfl (by rw [size_spanA]; exact info63) ?_
        | refine wpList_store_row rfl 64 _ _ rfl (w.heap.size + 2) _ rfl rfl 64 _ (unhide HZ) (by rw [size_spanA]; exact info63) (by rw [size_spanA, size_spanA]) (spanA_one _) ?_)
      exact bodyPost_ret (v := .agg (spanA (eitherTo a b 17)))
        (results_cell_row (p := 4) (ty := 64) rfl _ _ (w.heap.size + 2) 64 _ (0, 0) _ rfl ((unhide HZ).row _) Try.underlying64 rfl (by rw [size_spanA]; exact info63))
        rfl ⟨by rw [eitherTo_all], below_setRow (unhide HB) (by omega) _⟩

end Go.Proofs.Ytobfpgoepaeknaa
namespace Go.Proofs.Ytobfpgoepaeknaa
open Go.RowKit
attribute [local go_sem ↓] Go.wp_at_zero Go.wp_at_succ

theorem bit_test (x k : Nat) (hx : x < top) : (bits .and .i64 ((x : Int) / 2 ^ k) 1 == 1) = x.testBit k := by
  have e1 : (x : Int) / 2 ^ k = ((x / 2 ^ k : Nat) : Int) := by simp
  have e2 := i64_and_nat (x / 2 ^ k) 1 (Nat.lt_of_le_of_lt (Nat.div_le_self _ _) hx) (by decide)
  rw [e1, show (1 : Int) = ((1 : Nat) : Int) from rfl, e2, Nat.and_one_is_mod, Nat.testBit_eq_decide_div_mod_eq]
  by_cases h : x / 2 ^ k % 2 = 1
  · rw [h]; rfl
  · have h0 : x / 2 ^ k % 2 = 0 := by omega
    rw [h0]; rfl

/-- Rows below i are done, row i up to d. -/
def thenTo (a b : Nat → Nat) (n i d : Nat) : Nat → Nat := fun j => if j < i then thenN a b n j else if j = i then thenK a b i d else 0
theorem thenTo_at (a b : Nat → Nat) (n i d : Nat) : thenTo a b n i d i = thenK a b i d := by unfold thenTo; rw [if_neg (by omega), if_pos rfl]
theorem thenTo_yes {a b : Nat → Nat} {n i k : Nat} (hik : i ≤ k) (ht : (a i).testBit k = true) (j : Nat) : (if j = i then (thenK a b i (k - i) ||| b k) else thenTo a b n i (k - i) j) = thenTo a b n i (k + 1 - i) j := by
  have e : k + 1 - i = (k - i) + 1 := by omega
  have e2 : i + (k - i) = k := by omega
  unfold thenTo
  by_cases hj : j = i
  · subst hj
    rw [if_pos rfl, if_neg (by omega), if_pos rfl, e, thenK, e2, if_pos ht]
  · rw [if_neg hj, if_neg hj, if_neg hj]
theorem thenTo_no {a b : Nat → Nat} {n i k : Nat} (hik : i ≤ k) (ht : (a i).testBit k = false) (j : Nat) : thenTo a b n i (k - i) j = thenTo a b n i (k + 1 - i) j := by
  have e : k + 1 - i = (k - i) + 1 := by omega
  have e2 : i + (k - i) = k := by omega
  unfold thenTo
  by_cases hj : j = i
  · subst hj
    rw [if_neg (by omega), if_pos rfl, if_neg (by omega), if_pos rfl, e, thenK, e2, if_neg (by rw [ht]; simp)]
  · rw [if_neg hj, if_neg hj]
theorem thenTo_done {a b : Nat → Nat} {n i : Nat} (hi : i ≤ n) (j : Nat) : thenTo a b n i (n + 1 - i) j = thenTo a b n (i + 1) 0 j := by
  unfold thenTo
  by_cases hj : j < i
  · rw [if_pos hj, if_pos (by omega)]
  · by_cases hj2 : j = i
    · subst hj2
      rw [if_neg hj, if_pos rfl, if_pos (by omega)]
      unfold thenN
      rw [if_pos hi]
    · rw [if_neg hj, if_neg hj2, if_neg (by omega)]
      by_cases hj3 : j = i + 1
      · rw [if_pos hj3]; rfl
      · rw [if_neg hj3]
theorem thenTo_all (a b : Nat → Nat) (n : Nat) : spanA (thenTo a b n (n + 1) 0) = spanA (thenN a b n) := by
  apply spanA_congr
  intro j _
  unfold thenTo
  by_cases hj : j < n + 1
  · rw [if_pos hj]
  · rw [if_neg hj]
    have : thenN a b n j = 0 := by unfold thenN; rw [if_neg (by omega)]
    rw [this]
    by_cases hj3 : j = n + 1
    · rw [if_pos hj3]; rfl
    · rw [if_neg hj3]

/-- In the midst of then. -/
structure Th (w wr : World) (a b x : Nat → Nat) : Prop where
  below : Below w.heap.size w wr
  b0 : SpB wr w.heap.size a
  b1 : SpB wr (w.heap.size + 1) b
  b2 : SpB wr (w.heap.size + 2) (fun _ => 0)
  b3 : SpB wr (w.heap.size + 3) x
theorem Th.start (w : World) (a b : Nat → Nat) : Th w ((((w.alloc (.cells (spanA a) 64)).alloc (.cells (spanA b) 64)).alloc (.cells zeroSpan 64)).alloc (.cells zeroSpan 64)) a b (fun _ => 0) := by
  have s1 : (w.alloc (.cells (spanA a) 64)).heap.size = w.heap.size + 1 := by simp
  have s2 : ((w.alloc (.cells (spanA a) 64)).alloc (.cells (spanA b) 64)).heap.size = w.heap.size + 1 + 1 := by simp
  have s3 : (((w.alloc (.cells (spanA a) 64)).alloc (.cells (spanA b) 64)).alloc (.cells zeroSpan 64)).heap.size = w.heap.size + 1 + 1 + 1 := by simp
  refine ⟨((((Below.refl _ _).alloc (Nat.le_refl _) _).alloc (by simp) _).alloc (by simp; omega) _).alloc (by simp; omega) _, ?_, ?_, ?_, ?_⟩
  · unfold SpB; rw [Below.heap_alloc _ _ _ (by omega)]; exact heap3_0 w _ _ _
  · unfold SpB; rw [Below.heap_alloc _ _ _ (by omega)]; exact heap3_1 w _ _ _
  · refine SpB.zero ?_; rw [Below.heap_alloc _ _ _ (by omega)]; exact heap3_2 w _ _ _
  · refine SpB.zero ?_
    have : w.heap.size + 3 = (((w.alloc (.cells (spanA a) 64)).alloc (.cells (spanA b) 64)).alloc (.cells zeroSpan 64)).heap.size := by omega
    rw [this]; exact heap_alloc_new _ _
theorem Th.congr {w wr : World} {a b x y : Nat → Nat} (h : Th w wr a b x) (hy : ∀ j, x j = y j) : Th w wr a b y := ⟨h.below, h.b0, h.b1, h.b2, h.b3.congr (fun j _ => hy j)⟩
theorem Th.set {w wr : World} {a b x y : Nat → Nat} (h : Th w wr a b x) (k v : Nat) (hy : ∀ j, (if j = k then v else x j) = y j) : Th w (wr.drew.setCell ⟨w.heap.size + 3, k, none⟩ (.int .i64 (v : Int))) a b y :=
  ⟨h.below.drew.setCell (by simp) _, SpB.other h.b0 (by omega) _ _, SpB.other h.b1 (by omega) _ _, SpB.other h.b2 (by omega) _ _, SpB.set h.b3 k v (fun j _ => hy j)⟩

theorem low_top {a : Nat → Nat} (h : Low a) (i : Nat) : a i < top := by have := h i; unfold top; omega

set_option maxHeartbeats 1000000 in
theorem then_any (w : World) (a b : Nat → Nat) (n : Nat) (ha : Low a) (hb : Low b) (hn : n ≤ 16) :
    Calls Try.prog 49 #[.agg (spanA a), .agg (spanA b), .int .i64 (n : Int)] w fun e w' => e = .returned (.agg (spanA (thenN a b n))) ∧ Below w.heap.size w w' := by
  have HA := hide ha
  have HB0 := hide hb
  have hnI : (n : Int) ≤ 16 := by omega
  have HT0 := hide (Th.start w a b)
  clear ha hb
  go_enter Try.func49, Try.ntmps49
  go_wp2
  go_loopw [8] (fun i wr => ∃ k : Nat, k ≤ n + 1 ∧ i = .int .i64 k ∧ Hid (Th w wr a b (thenTo a b n k 0))) (fun i _ => left17 i)
  case atStart => exact ⟨0, by omega, rfl, (unhide HT0).congr (fun j => by unfold thenTo; rw [if_neg (by omega)]; split <;> rfl)⟩
  case round =>
    rename_i wr
    obtain ⟨i, hi, rfl, HH⟩ := hrel
    by_cases hlt : i ≤ n
    · have hlt' : (i : Int) ≤ (n : Int) := by omega
      have HLT := hide hlt
      clear hlt hi
      go_wp2
      go_loopw [9] (fun ix wr => ∃ k : Nat, i ≤ k ∧ k ≤ n + 1 ∧ ix = .int .i64 (k : Int) ∧ Hid (Th w wr a b (thenTo a b n i (k - i)))) (fun ix _ => left17 ix)
      case atStart => exact ⟨i, Nat.le_refl _, by have := unhide HLT; omega, rfl, by rw [Nat.sub_self]; exact unhide HH⟩
      case round =>
        rename World => w2
        obtain ⟨k, hik, hkn, rfl, HD⟩ := hrel
        by_cases hlt2 : k ≤ n
        · have hc := (unhide HD).b0.cell (k := i) (by omega)
          have hd := (unhide HD).b1.cell (k := k) (by omega)
          have hx := (unhide HD).b3.cell (k := i) (by omega)
          have hf := (unhide HD).b3.free i
          rw [thenTo_at] at hx
          have hk' : (k : Int) ≤ (n : Int) := by omega
          have hb1 := bit_test (a i) k (low_top (unhide HA) i)
          have HE := hide (i64_or_nat (thenK a b i (k - i)) (b k) (by have := low_thenK (a := a) (unhide HB0) i (k - i); unfold top; omega) (low_top (unhide HB0) k))
          have HL2 := hide hlt2
          have HIK := hide hik
          clear hlt2 hkn hik
          generalize hy : thenK a b i (k - i) = y at *
          have HY := hide hy
          clear hy
          by_cases ht : (a i).testBit k = true
          · have HT := hide ht
            rw [ht] at hb1
            clear ht
            go_wp2
            go_region
            all_goals
              go_wp2
              go_roundw
              case rel =>
                refine ⟨k + 1, by have := unhide HIK; omega, by have := unhide HL2; omega, by go_num, ?_⟩
                rw [unhide HE]
                refine (unhide HD).set i _ fun j => ?_
                rw [← unhide HY]
                exact thenTo_yes (unhide HIK) (unhide HT) j
              case measure => have := unhide HL2; simp [left17, intOf]; omega
          · have ht' : (a i).testBit k = false := by simpa using ht
            have HT := hide ht'
            rw [ht'] at hb1
            clear ht ht'
            go_wp2
            go_roundw
            case rel => exact ⟨k + 1, by have := unhide HIK; omega, by have := unhide HL2; omega, by go_num, (unhide HD).congr (thenTo_no (unhide HIK) (unhide HT))⟩
            case measure => have := unhide HL2; simp [left17, intOf]; omega
        · have hk2 : k = n + 1 := by omega
          subst hk2
          go_wp2
          go_roundw
          case rel => exact ⟨i + 1, by have := unhide HLT; omega, by go_num, (unhide HD).congr (thenTo_done (unhide HLT))⟩
          case measure => have := unhide HLT; simp [left17, intOf]; omega
    · have hk2 : i = n + 1 := by omega
      subst hk2
      go_wp2_with (first
        | refine wpList_load_row rfl 64 _ rfl (w.heap.size + 3) rfl 64 _ (0, 0) _ (unhide HH).b3 Try.underlying64 rfl (by rw [size_spanA]; exact info63) ?_
        | refine wpList_store_row rfl 64 _ _ rfl (w.heap.size + 2) _ rfl rfl 64 _ (unhide HH).b2 (by rw [size_spanA]; exact info63) (by rw [size_spanA, size_spanA]) (spanA_one _) ?_)
      exact bodyPost_ret (v := .agg (spanA (thenTo a b n (n + 1) 0)))
        (results_cell_row (p := 6) (ty := 64) rfl _ _ (w.heap.size + 2) 64 _ (0, 0) _ rfl ((unhide HH).b2.row _) Try.underlying64 rfl (by rw [size_spanA]; exact info63))
        rfl ⟨by rw [thenTo_all], below_setRow (unhide HH).below (by omega) _⟩

end Go.Proofs.Ytobfpgoepaeknaa
