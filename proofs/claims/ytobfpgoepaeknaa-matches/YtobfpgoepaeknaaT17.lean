/-
  The document's answer: often.
  The document's answer: items of a set.
-/
import Derived.Test.YtobfpgoepaeknaaT16
import Derived.Test.YtobfpgoepaeknaaT15
namespace Go.Proofs.Ytobfpgoepaeknaa
open Go.RowKit
attribute [local go_sem ↓] Go.wp_at_zero Go.wp_at_succ

/-- In the midst of often. -/
structure Of (w wr : World) (g : Nat) (a x p : Nat → Nat) : Prop where
  below : Below w.heap.size w wr
  b0 : SpB wr w.heap.size a
  b1 : SpB wr (w.heap.size + 1) (fun _ => 0)
  b2 : SpB wr (w.heap.size + 2) x
  b3 : SpB wr g p
  hg : w.heap.size + 2 < g
theorem Of.next {w wr w1 : World} {g : Nat} {a x p : Nat → Nat} (h : Of w wr g a x p) (hb : Below wr.heap.size wr w1) : Of w w1 g a x p :=
  ⟨h.below.trans (hb.mono h.below.size), h.b0.below hb, h.b1.below hb, h.b2.below hb, h.b3.below hb, h.hg⟩
theorem Of.putX {w wr : World} {g : Nat} {a x p : Nat → Nat} (h : Of w wr g a x p) (y : Nat → Nat) : Of w (wr.setRow (w.heap.size + 2) (spanA y)) g a y p :=
  ⟨below_setRow h.below (by omega) _, h.b0.rowOther (by omega) _, h.b1.rowOther (by omega) _, h.b2.row _, h.b3.rowOther (by have := h.hg; omega) _, h.hg⟩
theorem Of.putP {w wr : World} {g : Nat} {a x p : Nat → Nat} (h : Of w wr g a x p) (y : Nat → Nat) : Of w (wr.setRow g (spanA y)) g a x y :=
  ⟨below_setRow h.below (by have := h.hg; omega) _, h.b0.rowOther (by have := h.hg; omega) _, h.b1.rowOther (by have := h.hg; omega) _, h.b2.rowOther (by have := h.hg; omega) _, h.b3.row _, h.hg⟩

def left20 (i : Value) : Nat := 20 - (intOf i).toNat

set_option maxHeartbeats 1000000 in
theorem often_any (w : World) (a : Nat → Nat) (low high n : Nat) (ha : Low a) (hh : high ≤ 17) (hl : low ≤ 17) (hn : n ≤ 16) :
    Calls Try.prog 51 #[.agg (spanA a), .int .i64 (low : Int), .int .i64 (high : Int), .int .i64 (n : Int)] w fun e w' => e = .returned (.agg (spanA (oftN a low n (high + 1)))) ∧ Below w.heap.size w w' := by
  have HA := hide ha
  have hnI : (n : Int) ≤ 16 := by omega
  have hhI : (high : Int) ≤ 17 := by omega
  have hlI : (low : Int) ≤ 17 := by omega
  have HN := hide hn
  have HS0 := hide (same_any (((w.alloc (.cells (spanA a) 64)).alloc (.cells zeroSpan 64)).alloc (.cells zeroSpan 64)) n hn)
  have h3 : Below w.heap.size w (((w.alloc (.cells (spanA a) 64)).alloc (.cells zeroSpan 64)).alloc (.cells zeroSpan 64)) ∧ SpB (((w.alloc (.cells (spanA a) 64)).alloc (.cells zeroSpan 64)).alloc (.cells zeroSpan 64)) w.heap.size a ∧ SpB (((w.alloc (.cells (spanA a) 64)).alloc (.cells zeroSpan 64)).alloc (.cells zeroSpan 64)) (w.heap.size + 1) (fun _ => 0) ∧ SpB (((w.alloc (.cells (spanA a) 64)).alloc (.cells zeroSpan 64)).alloc (.cells zeroSpan 64)) (w.heap.size + 2) (fun _ => 0) :=
    ⟨(((Below.refl _ _).alloc (Nat.le_refl _) _).alloc (by simp) _).alloc (by simp; omega) _, heap3_0 _ _ _ _, SpB.zero (heap3_1 _ _ _ _), SpB.zero (heap3_2 _ _ _ _)⟩
  have H3 := hide h3
  clear ha hh hn hl h3
  go_enter Try.func51, Try.ntmps51
  go_wp2_with fail
  refine (unhide HS0).mono ?_
  rintro e w1 ⟨rfl, hw1⟩
  have q1 := (unhide H3).2.1.below hw1
  have q2 := (unhide H3).2.2.1.below hw1
  have q3 := (unhide H3).2.2.2.below hw1
  have hlt := q3.lt
  have hbw : Below w.heap.size w w1 := (unhide H3).1.trans (hw1.mono (unhide H3).1.size)
  have hb1 : Below w1.heap.size w1 (w1.alloc (.cells zeroSpan 64)) := (Below.refl _ _).alloc (Nat.le_refl _) _
  have hO : Of w (w1.alloc (.cells zeroSpan 64)) w1.heap.size a (fun _ => 0) (fun _ => 0) :=
    ⟨hbw.alloc hbw.size _, q1.below hb1, q2.below hb1, q3.below hb1, SpB.zero (heap_alloc_new _ _), hlt⟩
  have HO := hide hO
  clear hw1 q1 q2 q3 hlt hbw hb1 hO HS0 H3
  go_wp2_with (refine wpList_store_row0 rfl 64 _ _ rfl rfl w1.heap.size (spanA (sameN n)) rfl rfl 64 _ (unhide HO).b3 (by rw [size_spanA]; exact info63) (by rw [size_spanA, size_spanA]) (spanA_one _) ?_)
  have HO1 := hide ((unhide HO).putP (sameN n))
  clear HO
  generalize w1.heap.size = g at *
  go_loopw [11] (fun i wr => ∃ k : Nat, k ≤ high + 1 ∧ i = .int .i64 k ∧ Hid (Of w wr g a (oftN a low n k) (powN a n k))) (fun i _ => left20 i)
  case atStart => exact ⟨0, by omega, rfl, by exact unhide HO1⟩
  case round =>
    rename World => wr
    obtain ⟨k, hk, rfl, HH⟩ := hrel
    by_cases hlt : k ≤ high
    · have hlt' : (k : Int) ≤ (high : Int) := by omega
      have HLT := hide hlt
      have HSX : Hid (oftN a low n (k + 1) = if low ≤ k then eitherN (oftN a low n k) (powN a n k) else oftN a low n k) := rfl
      have HSP : Hid (powN a n (k + 1) = thenN (powN a n k) a n) := rfl
      have HLX := hide (low_oft (unhide HA) low (unhide HN) k)
      have HLP := hide (low_pow (unhide HA) (unhide HN) k)
      generalize hX : oftN a low n k = X at *
      generalize hP : powN a n k = P at *
      clear hX hP hlt hk
      by_cases hlo : low ≤ k
      · rw [if_pos hlo] at HSX
        have hlo' : (low : Int) ≤ (k : Int) := by omega
        clear hlo
        go_wp2_with (first
          | refine wpList_load_row rfl 64 _ rfl (w.heap.size + 2) rfl 64 _ (0, 0) _ (unhide HH).b2 Try.underlying64 rfl (by rw [size_spanA]; exact info63) ?_
          | refine wpList_load_row rfl 64 _ rfl g rfl 64 _ (0, 0) _ (unhide HH).b3 Try.underlying64 rfl (by rw [size_spanA]; exact info63) ?_)
        refine (either_any _ X P (unhide HLX) (unhide HLP)).mono ?_
        rintro e w3 ⟨rfl, hw3⟩
        have HH3 := hide ((unhide HH).next hw3)
        have HH4 := hide ((unhide HH3).putX (eitherN X P))
        clear hw3
        go_wp2_with (first
          | refine wpList_store_row0 rfl 64 _ _ rfl rfl (w.heap.size + 2) (spanA (eitherN X P)) rfl rfl 64 _ (unhide HH3).b2 (by rw [size_spanA]; exact info63) (by rw [size_spanA, size_spanA]) (spanA_one _) ?_
          | refine wpList_load_row rfl 64 _ rfl g rfl 64 _ (0, 0) _ (unhide HH4).b3 Try.underlying64 rfl (by rw [size_spanA]; exact info63) ?_
          | refine wpList_load_row rfl 64 _ rfl w.heap.size rfl 64 _ (0, 0) _ (unhide HH4).b0 Try.underlying64 rfl (by rw [size_spanA]; exact info63) ?_)
        refine (then_any _ P a n (unhide HLP) (unhide HA) (unhide HN)).mono ?_
        rintro e w4 ⟨rfl, hw4⟩
        have HH5 := hide ((unhide HH4).next hw4)
        clear hw4
        go_wp2_with (refine wpList_store_row0 rfl 64 _ _ rfl rfl g (spanA (thenN P a n)) rfl rfl 64 _ (unhide HH5).b3 (by rw [size_spanA]; exact info63) (by rw [size_spanA, size_spanA]) (spanA_one _) ?_)
        go_roundw
        case rel => exact ⟨k + 1, by have := unhide HLT; omega, by go_num, by rw [unhide HSX, unhide HSP]; exact (unhide HH5).putP _⟩
        case measure => have := unhide HLT; simp [left20, intOf]; omega
      · rw [if_neg hlo] at HSX
        have hlo' : (k : Int) < (low : Int) := by omega
        clear hlo
        go_wp2_with (first
          | refine wpList_load_row rfl 64 _ rfl g rfl 64 _ (0, 0) _ (unhide HH).b3 Try.underlying64 rfl (by rw [size_spanA]; exact info63) ?_
          | refine wpList_load_row rfl 64 _ rfl w.heap.size rfl 64 _ (0, 0) _ (unhide HH).b0 Try.underlying64 rfl (by rw [size_spanA]; exact info63) ?_)
        refine (then_any _ P a n (unhide HLP) (unhide HA) (unhide HN)).mono ?_
        rintro e w4 ⟨rfl, hw4⟩
        have HH5 := hide ((unhide HH).next hw4)
        clear hw4
        go_wp2_with (refine wpList_store_row0 rfl 64 _ _ rfl rfl g (spanA (thenN P a n)) rfl rfl 64 _ (unhide HH5).b3 (by rw [size_spanA]; exact info63) (by rw [size_spanA, size_spanA]) (spanA_one _) ?_)
        go_roundw
        case rel => exact ⟨k + 1, by have := unhide HLT; omega, by go_num, by rw [unhide HSX, unhide HSP]; exact (unhide HH5).putP _⟩
        case measure => have := unhide HLT; simp [left20, intOf]; omega
    · have hk2 : k = high + 1 := by omega
      subst hk2
      go_wp2_with (first
        | refine wpList_load_row rfl 64 _ rfl (w.heap.size + 2) rfl 64 _ (0, 0) _ (unhide HH).b2 Try.underlying64 rfl (by rw [size_spanA]; exact info63) ?_
        | refine wpList_store_row rfl 64 _ _ rfl (w.heap.size + 1) _ rfl rfl 64 _ (unhide HH).b1 (by rw [size_spanA]; exact info63) (by rw [size_spanA, size_spanA]) (spanA_one _) ?_)
      exact bodyPost_ret (v := .agg (spanA (oftN a low n (high + 1))))
        (results_cell_row (p := 8) (ty := 64) rfl _ _ (w.heap.size + 1) 64 _ (0, 0) _ rfl ((unhide HH).b1.row _) Try.underlying64 rfl (by rw [size_spanA]; exact info63))
        rfl ⟨rfl, below_setRow (unhide HH).below (by omega) _⟩

end Go.Proofs.Ytobfpgoepaeknaa
namespace Go.Proofs.Ytobfpgoepaeknaa
open Go.RowKit

def left257 (i : Value) : Nat := 257 - (intOf i).toNat
def upTo (f : Nat → Bool) (lo b : Int) : Nat → Bool := fun j => f j || (decide (lo ≤ (j : Int)) && decide ((j : Int) < b))

theorem upTo_start (f : Nat → Bool) (lo : Int) : rnA ⟨2, 0, 0, 0, 0, upTo f lo lo⟩ = rnA ⟨2, 0, 0, 0, 0, f⟩ := by
  refine rnA_congr rfl rfl rfl rfl rfl (fun j _ => ?_)
  have : (decide (lo ≤ (j : Int)) && decide ((j : Int) < lo)) = false := by
    rw [Bool.and_eq_false_iff, decide_eq_false_iff_not, decide_eq_false_iff_not]; omega
  simp only [upTo, this, Bool.or_false]
theorem upTo_step (f : Nat → Bool) (lo : Int) (k : Nat) (h : lo ≤ (k : Int)) : rnA ⟨2, 0, 0, 0, 0, fun j => if j = k then true else upTo f lo k j⟩ = rnA ⟨2, 0, 0, 0, 0, upTo f lo ((k : Int) + 1)⟩ := by
  refine rnA_congr rfl rfl rfl rfl rfl (fun j _ => ?_)
  simp only [upTo]
  by_cases e : j = k
  · subst e; simp [h, show (j : Int) < (j : Int) + 1 by omega]
  · rw [if_neg e, show decide ((j : Int) < (k : Int) + 1) = decide ((j : Int) < (k : Int)) from decide_eq_decide.2 ⟨fun _ => by omega, fun _ => by omega⟩]
theorem upTo_end (f : Nat → Bool) (lo hi b : Int) (_h1 : lo ≤ b) (h2 : hi < b) (h3 : b = lo ∨ b ≤ hi + 1) : rnA ⟨2, 0, 0, 0, 0, upTo f lo b⟩ = rnA ⟨2, 0, 0, 0, 0, addR f lo hi⟩ := by
  refine rnA_congr rfl rfl rfl rfl rfl (fun j _ => ?_)
  simp only [upTo, addR]
  congr 1
  rw [Bool.eq_iff_iff]
  simp
  omega
theorem namedS_bd {p : ByteArray} {i : Nat} {v : Int} {j : Nat} (h : namedS p i = some (v, j)) : 0 ≤ v ∧ v ≤ 255 := by
  unfold namedS at h
  repeat' split at h
  all_goals simp only [Option.some.injEq, Prod.mk.injEq, reduceCtorEq] at h
  all_goals obtain ⟨rfl, -⟩ := h
  · exact byteAt_bd p (i + 1)
  · rename_i hx
    rcases digitI_hex hx.2.1 with ⟨a1, a2, a3⟩ | ⟨a1, a2, a3⟩ <;> rcases digitI_hex hx.2.2 with ⟨b1, b2, b3⟩ | ⟨b1, b2, b3⟩ <;> omega
  · exact byteAt_bd p i

set_option maxHeartbeats 2000000 in
theorem items_any (p : ByteArray) (hp : p.size ≤ 60) (fu i : Nat) (fin : Nat → Bool) (w : World) (h : itemsF p fu i noSet = some fin) :
    Calls Try.prog 98 #[.string p, .int .i64 (i : Int)] w fun e w' => e = .returned (.agg (rnA ⟨2, 0, 0, 0, 0, fin⟩)) ∧ Below w.heap.size w w' := by
  have hp' : (p.size : Int) ≤ 60 := by omega
  have HA := hide (heap_alloc2_old w (Obj.cells Try.zeroCells95 95) (Obj.cells Try.zeroCells95 95))
  have HN := hide (heap_alloc2_new w (Obj.cells Try.zeroCells95 95) (Obj.cells Try.zeroCells95 95))
  have hB : Below w.heap.size w ((w.alloc (Obj.cells Try.zeroCells95 95)).alloc (Obj.cells Try.zeroCells95 95)) := ((Below.refl _ _).alloc (Nat.le_refl _) _).alloc (by simp) _
  have HBel := hide hB
  have hz2 : Try.zeroCells95.setIfInBounds 0 (.int .i64 2) = rnA ⟨2, 0, 0, 0, 0, noSet⟩ := by rw [zero78, rnA_kind]
  have HZ2 := hide hz2
  have H0 := hide h
  clear hz2 hB h
  go_enter Try.func98, Try.ntmps98
  go_wp2_with (refine wpList_store_row0 rfl 95 _ _ rfl rfl (w.heap.size + 1) _ rfl rfl 95 _ (unhide HN) (by rw [unhide HZ2, size_rnA]; exact info78) (by rw [unhide HZ2, zero78, size_rnA, size_rnA]) (by rw [unhide HZ2]; exact rnA_one _) ?_)
  have HA2 := hide ((setRow_other ((w.alloc (Obj.cells Try.zeroCells95 95)).alloc (Obj.cells Try.zeroCells95 95)) (w.heap.size + 1) w.heap.size (Try.zeroCells95.setIfInBounds 0 (.int .i64 2)) (by omega)).trans (unhide HA))
  have HN2 := hide (setRow_heap _ _ _ (Try.zeroCells95.setIfInBounds 0 (.int .i64 2)) _ _ (unhide HN))
  have HBel2 := hide (below_setRow (unhide HBel) (g := w.heap.size + 1) (by omega) (Try.zeroCells95.setIfInBounds 0 (.int .i64 2)))
  clear HA HN HBel
  generalize ((w.alloc (Obj.cells Try.zeroCells95 95)).alloc (Obj.cells Try.zeroCells95 95)).setRow (w.heap.size + 1) (Try.zeroCells95.setIfInBounds 0 (.int .i64 2)) = w0 at *
  go_loopg [1] fu (fun n s wr => ∃ (q : Nat) (f : Nat → Bool), s = .int .i64 (q : Int) ∧ Hid (itemsF p n q f = some fin ∧ Below w.heap.size w wr ∧ wr.heap[w.heap.size]? = some (Obj.cells Try.zeroCells95 95 (0, 0)) ∧ wr.heap[w.heap.size + 1]? = some (Obj.cells (rnA ⟨2, 0, 0, 0, 0, f⟩) 95 (0, 0))))
  case atStart => exact ⟨i, noSet, rfl, unhide H0, unhide HBel2, unhide HA2, by rw [← unhide HZ2]; exact unhide HN2⟩
  case round =>
    obtain ⟨q, f, rfl, H⟩ := hrel
    obtain ⟨h, hb, hz, hc⟩ := unhide H
    have HB := hide hb
    have HZ := hide hz
    have HC := hide hc
    clear H H0 HA2 HN2 HBel2 hb hz hc HZ2
    obtain ⟨n, rfl⟩ : ∃ n', gk = n' + 1 := by cases gk with | zero => simp [itemsF] at h | succ n => exact ⟨n, rfl⟩
    have hq : q < p.size := by
      by_cases hq : q < p.size
      · exact hq
      · simp [itemsF, hq] at h
    have hq' : (q : Int) < (p.size : Int) := by omega
    have hbq := byteAt_eq hq
    simp only [itemsF, hq, if_true, hbq] at h
    clear hbq
    by_cases d1 : ((p[q].toNat : Int) == 93) = true
    · rw [if_pos d1] at h
      simp only [Option.some.injEq] at h
      have d1' : ((p[q].toNat : Int) != 93) = false := by simpa using d1
      subst h
      clear d1
      go_wp2_with (first
        | refine wpList_load_row rfl 95 _ rfl (w.heap.size + 1) rfl 95 _ (0, 0) _ (unhide HC) Try.underlying95 rfl (by rw [size_rnA]; exact info78) ?_
        | refine wpList_store_row0 rfl 95 _ _ rfl rfl w.heap.size _ rfl rfl 95 _ (unhide HZ) (by rw [size_rnA]; exact info78) (by rw [zero78, size_rnA, size_rnA]) (rnA_one _) ?_)
      exact bodyPost_ret (v := .agg (rnA ⟨2, 0, 0, 0, 0, f⟩))
        (results_cell_row (p := 4) (ty := 95) rfl _ _ w.heap.size 95 _ (0, 0) _ rfl (setRow_heap _ _ _ _ _ _ (unhide HZ)) Try.underlying95 rfl (by rw [size_rnA]; exact info78))
        rfl ⟨rfl, below_setRow (unhide HB) (Nat.le_refl _) _⟩
    · rw [if_neg d1] at h
      have d1' : ((p[q].toNat : Int) != 93) = true := by simpa using d1
      clear d1
      rw [Option.bind_eq_some_iff] at h
      obtain ⟨⟨lo, j⟩, hn, h⟩ := h
      simp only at h
      have hlo := namedS_bd hn
      have HN := hide (fun wx => named_any p hp q lo j wx hn)
      clear hn
      have hj : j < p.size := by
        by_cases hj : j < p.size
        · exact hj
        · rw [if_neg hj] at h; cases h
      have hj' : (j : Int) < (p.size : Int) := by omega
      have hbj := byteAt_eq hj
      rw [if_pos hj, hbj] at h
      clear hbj
      by_cases d2 : ((p[j].toNat : Int) == 45) = true
      · rw [if_pos d2, Option.bind_eq_some_iff] at h
        obtain ⟨⟨hi, j2⟩, hn2, h⟩ := h
        simp only at h
        have hhi := namedS_bd hn2
        have HN2 := hide (fun wx => named_any p hp (j + 1) hi j2 wx hn2)
        have H2 := hide h
        have ej : ((j + 1 : Nat) : Int) = (j : Int) + 1 := by omega
        rw [ej] at HN2
        clear hn2 h ej
        go_wp2_with fail
        refine (unhide HN _).mono ?_
        rintro e w' ⟨rfl, hww⟩
        subst hww
        go_wp2_with fail
        refine (unhide HN2 _).mono ?_
        rintro e w' ⟨rfl, hww⟩
        subst hww
        have l0 : 0 ≤ lo := hlo.1
        have h255 : hi ≤ 255 := hhi.2
        have hl255 : lo ≤ 255 := hlo.2
        go_wp2_with fail
        go_loopw [9] (fun ix wx => ∃ bb : Int, ix = .int .i64 bb ∧ Hid (lo ≤ bb ∧ bb ≤ 256 ∧ (bb = lo ∨ bb ≤ hi + 1) ∧ Below w.heap.size w wx ∧ wx.heap[w.heap.size]? = some (Obj.cells Try.zeroCells95 95 (0, 0)) ∧ wx.heap[w.heap.size + 1]? = some (Obj.cells (rnA ⟨2, 0, 0, 0, 0, upTo f lo bb⟩) 95 (0, 0)))) (fun ix _ => left257 ix)
        case atStart => exact ⟨lo, rfl, by omega, by omega, Or.inl rfl, unhide HB, unhide HZ, by rw [upTo_start]; exact unhide HC⟩
        case round =>
          obtain ⟨bb, rfl, HH⟩ := hrel
          obtain ⟨e1, e2, e3, e4, e5, e6⟩ := unhide HH
          by_cases hle : bb ≤ hi
          · obtain ⟨bn, rfl⟩ := Int.eq_ofNat_of_zero_le (by omega : 0 ≤ bb)
            have hbn : bn < 256 := by omega
            have x1 : wr.cell? ⟨w.heap.size + 1, 5 + bn, none⟩ = some (.bool (upTo f lo bn bn)) := by rw [cell_of_row _ _ _ _ _ _ e6, get_rnA _ _ hbn]
            have x2 : wr.frozen? ⟨w.heap.size + 1, 5 + bn, none⟩ = false := frozen_of_row _ _ _ _ _ e6
            have hlt' : (bn : Int) < 256 := by omega
            have HE := hide (And.intro e1 (And.intro e2 (And.intro e3 (And.intro e4 (And.intro e5 e6)))))
            have HL := hide hbn
            clear e1 e2 e3 e4 e5 e6 HH hbn
            generalize upTo f lo bn bn = v0 at x1
            go_wp2
            go_roundw
            case rel =>
              obtain ⟨e1, e2, e3, e4, e5, e6⟩ := unhide HE
              exact ⟨(bn : Int) + 1, rfl, by omega, by omega, by omega, e4.setCell (by simp) _, by rw [heap_setCell_other _ _ _ _ (by simp)]; exact e5, by rw [heap_setCell_same _ _ _ _ _ _ e6, rnA_set, upTo_step _ _ _ e1]⟩
            case measure => have := unhide HL; simp [left257, intOf]; omega
          · have HE := hide (And.intro e1 (And.intro e2 (And.intro e3 (And.intro e4 (And.intro e5 e6)))))
            clear e1 e2 e3 e4 e5 e6 HH
            go_wp2
            go_roundg n
            case measure => omega
            case rel =>
              obtain ⟨e1, e2, e3, e4, e5, e6⟩ := unhide HE
              exact ⟨j2, addR f lo hi, rfl, unhide H2, e4, e5, by rw [← upTo_end f lo hi bb e1 (by omega) e3]; exact e6⟩
      · rw [if_neg d2] at h
        have d2' : ((p[j].toNat : Int) == 45) = false := by simpa using d2
        have H2 := hide h
        clear h d2
        go_wp2_with fail
        refine (unhide HN _).mono ?_
        rintro e w' ⟨rfl, hww⟩
        subst hww
        have l0 : 0 ≤ lo := hlo.1
        have h255 : lo ≤ 255 := hlo.2
        have hl255 : lo ≤ 255 := hlo.2
        go_wp2_with fail
        go_loopw [9] (fun ix wx => ∃ bb : Int, ix = .int .i64 bb ∧ Hid (lo ≤ bb ∧ bb ≤ 256 ∧ (bb = lo ∨ bb ≤ lo + 1) ∧ Below w.heap.size w wx ∧ wx.heap[w.heap.size]? = some (Obj.cells Try.zeroCells95 95 (0, 0)) ∧ wx.heap[w.heap.size + 1]? = some (Obj.cells (rnA ⟨2, 0, 0, 0, 0, upTo f lo bb⟩) 95 (0, 0)))) (fun ix _ => left257 ix)
        case atStart => exact ⟨lo, rfl, by omega, by omega, Or.inl rfl, unhide HB, unhide HZ, by rw [upTo_start]; exact unhide HC⟩
        case round =>
          obtain ⟨bb, rfl, HH⟩ := hrel
          obtain ⟨e1, e2, e3, e4, e5, e6⟩ := unhide HH
          by_cases hle : bb ≤ lo
          · obtain ⟨bn, rfl⟩ := Int.eq_ofNat_of_zero_le (by omega : 0 ≤ bb)
            have hbn : bn < 256 := by omega
            have x1 : wr.cell? ⟨w.heap.size + 1, 5 + bn, none⟩ = some (.bool (upTo f lo bn bn)) := by rw [cell_of_row _ _ _ _ _ _ e6, get_rnA _ _ hbn]
            have x2 : wr.frozen? ⟨w.heap.size + 1, 5 + bn, none⟩ = false := frozen_of_row _ _ _ _ _ e6
            have hlt' : (bn : Int) < 256 := by omega
            have HE := hide (And.intro e1 (And.intro e2 (And.intro e3 (And.intro e4 (And.intro e5 e6)))))
            have HL := hide hbn
            clear e1 e2 e3 e4 e5 e6 HH hbn
            generalize upTo f lo bn bn = v0 at x1
            go_wp2
            go_roundw
            case rel =>
              obtain ⟨e1, e2, e3, e4, e5, e6⟩ := unhide HE
              exact ⟨(bn : Int) + 1, rfl, by omega, by omega, by omega, e4.setCell (by simp) _, by rw [heap_setCell_other _ _ _ _ (by simp)]; exact e5, by rw [heap_setCell_same _ _ _ _ _ _ e6, rnA_set, upTo_step _ _ _ e1]⟩
            case measure => have := unhide HL; simp [left257, intOf]; omega
          · have HE := hide (And.intro e1 (And.intro e2 (And.intro e3 (And.intro e4 (And.intro e5 e6)))))
            clear e1 e2 e3 e4 e5 e6 HH
            go_wp2
            go_roundg n
            case measure => omega
            case rel =>
              obtain ⟨e1, e2, e3, e4, e5, e6⟩ := unhide HE
              exact ⟨j, addR f lo lo, rfl, unhide H2, e4, e5, by rw [← upTo_end f lo lo bb e1 (by omega) e3]; exact e6⟩

end Go.Proofs.Ytobfpgoepaeknaa
