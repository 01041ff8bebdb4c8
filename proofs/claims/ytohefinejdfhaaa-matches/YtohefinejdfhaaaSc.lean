/-
  The document's answer: often.
-/
import Derived.Test.YtohefinejdfhaaaSb
namespace Go.Proofs.Ytohefinejdfhaaa
open Go.RowKit
attribute [local go_sem ↓] Go.wp_at_zero Go.wp_at_succ

/-- In the midst of often. -/
structure Of (w wr : World) (g : Nat) (a x p : Nat → Nat) : Prop where
  below : Below w.heap.size w wr
  b0 : SpB wr w.heap.size a
  b1 : SpB wr (w.heap.size + 1) (fun _ => 0)
  b2 : SpB wr (w.heap.size + 2) x
  b3 : SpB wr g p
  hg : w.heap.size + 2 < g
theorem Of.next {w wr w1 : World} {g : Nat} {a x p : Nat → Nat} (h : Of w wr g a x p) (hb : Below wr.heap.size wr w1) : Of w w1 g a x p :=
  ⟨h.below.trans (hb.mono h.below.size), h.b0.below hb, h.b1.below hb, h.b2.below hb, h.b3.below hb, h.hg⟩
theorem Of.putX {w wr : World} {g : Nat} {a x p : Nat → Nat} (h : Of w wr g a x p) (y : Nat → Nat) : Of w (wr.setRow (w.heap.size + 2) (spanA y)) g a y p :=
  ⟨below_setRow h.below (by omega) _, h.b0.rowOther (by omega) _, h.b1.rowOther (by omega) _, h.b2.row _, h.b3.rowOther (by have := h.hg; omega) _, h.hg⟩
theorem Of.putP {w wr : World} {g : Nat} {a x p : Nat → Nat} (h : Of w wr g a x p) (y : Nat → Nat) : Of w (wr.setRow g (spanA y)) g a x y :=
  ⟨below_setRow h.below (by have := h.hg; omega) _, h.b0.rowOther (by have := h.hg; omega) _, h.b1.rowOther (by have := h.hg; omega) _, h.b2.rowOther (by have := h.hg; omega) _, h.b3.row _, h.hg⟩

def left20 (i : Value) : Nat := 20 - (intOf i).toNat

set_option maxHeartbeats 1000000 in
theorem often_any (w : World) (a : Nat → Nat) (low high n : Nat) (ha : Low a) (hh : high ≤ 17) (hl : low ≤ 17) (hn : n ≤ 16) :
    Calls Try.prog 76 #[.agg (spanA a), .int .i64 (low : Int), .int .i64 (high : Int), .int .i64 (n : Int)] w fun e w' => e = .returned (.agg (spanA (oftN a low n (high + 1)))) ∧ Below w.heap.size w w' := by
  have HA := hide ha
  have hnI : (n : Int) ≤ 16 := by omega
  have hhI : (high : Int) ≤ 17 := by omega
  have hlI : (low : Int) ≤ 17 := by omega
  have HN := hide hn
  have HS0 := hide (same_any (((w.alloc (.cells (spanA a) 78)).alloc (.cells zeroSpan 78)).alloc (.cells zeroSpan 78)) n hn)
  have h3 : Below w.heap.size w (((w.alloc (.cells (spanA a) 78)).alloc (.cells zeroSpan 78)).alloc (.cells zeroSpan 78)) ∧ SpB (((w.alloc (.cells (spanA a) 78)).alloc (.cells zeroSpan 78)).alloc (.cells zeroSpan 78)) w.heap.size a ∧ SpB (((w.alloc (.cells (spanA a) 78)).alloc (.cells zeroSpan 78)).alloc (.cells zeroSpan 78)) (w.heap.size + 1) (fun _ => 0) ∧ SpB (((w.alloc (.cells (spanA a) 78)).alloc (.cells zeroSpan 78)).alloc (.cells zeroSpan 78)) (w.heap.size + 2) (fun _ => 0) :=
    ⟨(((Below.refl _ _).alloc (Nat.le_refl _) _).alloc (by simp) _).alloc (by simp; omega) _, heap3_0 _ _ _ _, SpB.zero (heap3_1 _ _ _ _), SpB.zero (heap3_2 _ _ _ _)⟩
  have H3 := hide h3
  clear ha hh hn hl h3
  go_enter Try.func76, Try.ntmps76
  go_wp2_with fail
  refine (unhide HS0).mono ?_
  rintro e w1 ⟨rfl, hw1⟩
  have q1 := (unhide H3).2.1.below hw1
  have q2 := (unhide H3).2.2.1.below hw1
  have q3 := (unhide H3).2.2.2.below hw1
  have hlt := q3.lt
  have hbw : Below w.heap.size w w1 := (unhide H3).1.trans (hw1.mono (unhide H3).1.size)
  have hb1 : Below w1.heap.size w1 (w1.alloc (.cells zeroSpan 78)) := (Below.refl _ _).alloc (Nat.le_refl _) _
  have hO : Of w (w1.alloc (.cells zeroSpan 78)) w1.heap.size a (fun _ => 0) (fun _ => 0) :=
    ⟨hbw.alloc hbw.size _, q1.below hb1, q2.below hb1, q3.below hb1, SpB.zero (heap_alloc_new _ _), hlt⟩
  have HO := hide hO
  clear hw1 q1 q2 q3 hlt hbw hb1 hO HS0 H3
  go_wp2_with (refine wpList_store_row0 rfl 78 _ _ rfl rfl w1.heap.size (spanA (sameN n)) rfl rfl 78 _ (unhide HO).b3 (by rw [size_spanA]; exact info63) (by rw [size_spanA, size_spanA]) (spanA_one _) ?_)
  have HO1 := hide ((unhide HO).putP (sameN n))
  clear HO
  generalize w1.heap.size = g at *
  go_loopw [11] (fun i wr => ∃ k : Nat, k ≤ high + 1 ∧ i = .int .i64 k ∧ Hid (Of w wr g a (oftN a low n k) (powN a n k))) (fun i _ => left20 i)
  case atStart => exact ⟨0, by omega, rfl, by exact unhide HO1⟩
  case round =>
    rename World => wr
    obtain ⟨k, hk, rfl, HH⟩ := hrel
    by_cases hlt : k ≤ high
    · have hlt' : (k : Int) ≤ (high : Int) := by omega
      have HLT := hide hlt
      have HSX : Hid (oftN a low n (k + 1) = if low ≤ k then eitherN (oftN a low n k) (powN a n k) else oftN a low n k) := rfl
      have HSP : Hid (powN a n (k + 1) = thenN (powN a n k) a n) := rfl
      have HLX := hide (low_oft (unhide HA) low (unhide HN) k)
      have HLP := hide (low_pow (unhide HA) (unhide HN) k)
      generalize hX : oftN a low n k = X at *
      generalize hP : powN a n k = P at *
      clear hX hP hlt hk
      by_cases hlo : low ≤ k
      · rw [if_pos hlo] at HSX
        have hlo' : (low : Int) ≤ (k : Int) := by omega
        clear hlo
        go_wp2_with (first
          | refine wpList_load_row rfl 78 _ rfl (w.heap.size + 2) rfl 78 _ (0, 0) _ (unhide HH).b2 Try.underlying78 rfl (by rw [size_spanA]; exact info63) ?_
          | refine wpList_load_row rfl 78 _ rfl g rfl 78 _ (0, 0) _ (unhide HH).b3 Try.underlying78 rfl (by rw [size_spanA]; exact info63) ?_)
        refine (either_any _ X P (unhide HLX) (unhide HLP)).mono ?_
        rintro e w3 ⟨rfl, hw3⟩
        have HH3 := hide ((unhide HH).next hw3)
        have HH4 := hide ((unhide HH3).putX (eitherN X P))
        clear hw3
        go_wp2_with (first
          | refine wpList_store_row0 rfl 78 _ _ rfl rfl (w.heap.size + 2) (spanA (eitherN X P)) rfl rfl 78 _ (unhide HH3).b2 (by rw [size_spanA]; exact info63) (by rw [size_spanA, size_spanA]) (spanA_one _) ?_
          | refine wpList_load_row rfl 78 _ rfl g rfl 78 _ (0, 0) _ (unhide HH4).b3 Try.underlying78 rfl (by rw [size_spanA]; exact info63) ?_
          | refine wpList_load_row rfl 78 _ rfl w.heap.size rfl 78 _ (0, 0) _ (unhide HH4).b0 Try.underlying78 rfl (by rw [size_spanA]; exact info63) ?_)
        refine (then_any _ P a n (unhide HLP) (unhide HA) (unhide HN)).mono ?_
        rintro e w4 ⟨rfl, hw4⟩
        have HH5 := hide ((unhide HH4).next hw4)
        clear hw4
        go_wp2_with (refine wpList_store_row0 rfl 78 _ _ rfl rfl g (spanA (thenN P a n)) rfl rfl 78 _ (unhide HH5).b3 (by rw [size_spanA]; exact info63) (by rw [size_spanA, size_spanA]) (spanA_one _) ?_)
        go_roundw
        case rel => exact ⟨k + 1, by have := unhide HLT; omega, by go_num, by rw [unhide HSX, unhide HSP]; exact (unhide HH5).putP _⟩
        case measure => have := unhide HLT; simp [left20, intOf]; omega
      · rw [if_neg hlo] at HSX
        have hlo' : (k : Int) < (low : Int) := by omega
        clear hlo
        go_wp2_with (first
          | refine wpList_load_row rfl 78 _ rfl g rfl 78 _ (0, 0) _ (unhide HH).b3 Try.underlying78 rfl (by rw [size_spanA]; exact info63) ?_
          | refine wpList_load_row rfl 78 _ rfl w.heap.size rfl 78 _ (0, 0) _ (unhide HH).b0 Try.underlying78 rfl (by rw [size_spanA]; exact info63) ?_)
        refine (then_any _ P a n (unhide HLP) (unhide HA) (unhide HN)).mono ?_
        rintro e w4 ⟨rfl, hw4⟩
        have HH5 := hide ((unhide HH).next hw4)
        clear hw4
        go_wp2_with (refine wpList_store_row0 rfl 78 _ _ rfl rfl g (spanA (thenN P a n)) rfl rfl 78 _ (unhide HH5).b3 (by rw [size_spanA]; exact info63) (by rw [size_spanA, size_spanA]) (spanA_one _) ?_)
        go_roundw
        case rel => exact ⟨k + 1, by have := unhide HLT; omega, by go_num, by rw [unhide HSX, unhide HSP]; exact (unhide HH5).putP _⟩
        case measure => have := unhide HLT; simp [left20, intOf]; omega
    · have hk2 : k = high + 1 := by omega
      subst hk2
      go_wp2_with (first
        | refine wpList_load_row rfl 78 _ rfl (w.heap.size + 2) rfl 78 _ (0, 0) _ (unhide HH).b2 Try.underlying78 rfl (by rw [size_spanA]; exact info63) ?_
        | refine wpList_store_row rfl 78 _ _ rfl (w.heap.size + 1) _ rfl rfl 78 _ (unhide HH).b1 (by rw [size_spanA]; exact info63) (by rw [size_spanA, size_spanA]) (spanA_one _) ?_)
      exact bodyPost_ret (v := .agg (spanA (oftN a low n (high + 1))))
        (results_cell_row (p := 8) (ty := 78) rfl _ _ (w.heap.size + 1) 78 _ (0, 0) _ rfl ((unhide HH).b1.row _) Try.underlying78 rfl (by rw [size_spanA]; exact info63))
        rfl ⟨rfl, below_setRow (unhide HH).below (by omega) _⟩

end Go.Proofs.Ytohefinejdfhaaa
