/-
  The document's answer: spans.
-/
import Derived.Test.YtobfpgoepaeknaaT17
import Derived.Test.YtobfpgoepaeknaaT20
import Derived.Deep.DeepCutAuto
namespace Go.Proofs.Ytobfpgoepaeknaa
open Go.RowKit
attribute [local go_sem ↓] Go.wp_at_zero Go.wp_at_succ

/-- In the midst of spans. -/
structure Sx (w wr : World) (r : Rn) (x : Nat → Nat) : Prop where
  below : Below w.heap.size w wr
  b0 : SpB wr w.heap.size (fun _ => 0)
  b1 : wr.heap[w.heap.size + 1]? = some (.cells (rnA r) 95 (0, 0))
  b2 : SpB wr (w.heap.size + 2) x
theorem Sx.start (w : World) (r : Rn) : Sx w ((((w.alloc (.cells zeroSpan 64)).alloc (.cells Try.zeroCells95 95)).setRow (w.heap.size + 1) (rnA r)).alloc (.cells zeroSpan 64)) r (fun _ => 0) := by
  have hN := heap_alloc2_new w (.cells zeroSpan 64) (Obj.cells Try.zeroCells95 95)
  have hO := heap_alloc2_old w (.cells zeroSpan 64) (Obj.cells Try.zeroCells95 95)
  have sz : (((w.alloc (.cells zeroSpan 64)).alloc (.cells Try.zeroCells95 95)).setRow (w.heap.size + 1) (rnA r)).heap.size = w.heap.size + 2 := by simp
  have hB : Below w.heap.size w (((w.alloc (.cells zeroSpan 64)).alloc (.cells Try.zeroCells95 95)).setRow (w.heap.size + 1) (rnA r)) := below_setRow (((Below.refl _ _).alloc (Nat.le_refl _) _).alloc (by simp) _) (by omega) _
  refine ⟨hB.alloc hB.size _, ?_, ?_, ?_⟩
  · refine SpB.zero ?_
    rw [Below.heap_alloc _ _ _ (by omega), setRow_other _ _ _ _ (by omega)]; exact hO
  · rw [Below.heap_alloc _ _ _ (by omega)]
    exact setRow_heap _ _ _ _ _ _ hN
  · refine SpB.zero ?_
    rw [← sz]; exact heap_alloc_new _ _
theorem Sx.next {w wr w1 : World} {r : Rn} {x : Nat → Nat} (h : Sx w wr r x) (hb : Below wr.heap.size wr w1) : Sx w w1 r x :=
  ⟨h.below.trans (hb.mono h.below.size), h.b0.below hb, (hb.block _ (Array.getElem?_eq_some_iff.1 h.b1).1).trans h.b1, h.b2.below hb⟩
theorem Sx.alloc {w wr : World} {r : Rn} {x : Nat → Nat} (h : Sx w wr r x) (o : Obj) : Sx w (wr.alloc o) r x := h.next ((Below.refl _ _).alloc (Nat.le_refl _) _)
theorem Sx.put {w wr : World} {r : Rn} {x : Nat → Nat} (h : Sx w wr r x) (y : Nat → Nat) : Sx w (wr.setRow (w.heap.size + 2) (spanA y)) r y :=
  ⟨below_setRow h.below (by omega) _, h.b0.rowOther (by omega) _, (setRow_other _ _ _ _ (by omega)).trans h.b1, h.b2.row _⟩
theorem Sx.cells {w wr : World} {r : Rn} {x : Nat → Nat} (h : Sx w wr r x) : wr.cell? ⟨w.heap.size + 1, 0, none⟩ = some (.int .i64 r.kind) ∧ wr.cell? ⟨w.heap.size + 1, 1, none⟩ = some (.int .i64 r.l) ∧ wr.cell? ⟨w.heap.size + 1, 2, none⟩ = some (.int .i64 r.r) ∧ wr.cell? ⟨w.heap.size + 1, 3, none⟩ = some (.int .i64 r.m) ∧ wr.cell? ⟨w.heap.size + 1, 4, none⟩ = some (.int .i64 r.n) := by
  obtain ⟨y0, y1, y2, y3, y4⟩ := rnA_fields r
  exact ⟨by rw [cell_of_row _ _ _ _ _ _ h.b1]; exact y0, by rw [cell_of_row _ _ _ _ _ _ h.b1]; exact y1, by rw [cell_of_row _ _ _ _ _ _ h.b1]; exact y2, by rw [cell_of_row _ _ _ _ _ _ h.b1]; exact y3, by rw [cell_of_row _ _ _ _ _ _ h.b1]; exact y4⟩
theorem Sx.set {w wr : World} {r : Rn} {x y : Nat → Nat} (h : Sx w wr r x) (k v : Nat) (hy : ∀ j, (if j = k then v else x j) = y j) : Sx w (wr.setCell ⟨w.heap.size + 2, k, none⟩ (.int .i64 (v : Int))) r y :=
  ⟨h.below.setCell (by simp) _, h.b0.other (by omega) _ _, by rw [heap_setCell_other _ _ _ _ (by simp)]; exact h.b1, h.b2.set k v (fun j _ => hy j)⟩
theorem Sx.congr {w wr : World} {r : Rn} {x y : Nat → Nat} (h : Sx w wr r x) (hy : ∀ j, x j = y j) : Sx w wr r y := ⟨h.below, h.b0, h.b1, h.b2.congr (fun j _ => hy j)⟩
theorem Sx.lt {w wr : World} {r : Rn} {x : Nat → Nat} (h : Sx w wr r x) : w.heap.size + 2 < wr.heap.size := h.b2.lt

/-- What spans does at node k. -/
def DoesSp (rs : List Rn) (b : Nat) (s : ByteArray) (k : Int) (R : Re) : Prop :=
  ∀ w, RtS w b rs → Calls Try.prog 31 #[.pointer (some ⟨b, 0, none⟩), .int .i64 k, .string s] w fun e w' => e = .returned (.agg (spanA (spansN (bytesN s) R))) ∧ Below w.heap.size w w'

def oneTo (f : Nat → Bool) (s : List Nat) (k : Nat) : Nat → Nat := fun i => if i < k then oneRow f s i else 0
theorem oneTo_step (f : Nat → Bool) (s : List Nat) (k : Nat) (v : Nat) (hv : v = oneRow f s k) (j : Nat) : (if j = k then v else oneTo f s k j) = oneTo f s (k + 1) j := by
  subst hv
  unfold oneTo
  by_cases hj : j = k
  · subst hj; rw [if_pos rfl, if_pos (by omega)]
  · rw [if_neg hj]; by_cases h2 : j < k
    · rw [if_pos h2, if_pos (by omega)]
    · rw [if_neg h2, if_neg (by omega)]
theorem oneTo_skip (f : Nat → Bool) (s : List Nat) (k : Nat) (hv : oneRow f s k = 0) (j : Nat) : oneTo f s k j = oneTo f s (k + 1) j := by
  rw [← oneTo_step f s k 0 hv.symm j]
  by_cases hj : j = k
  · subst hj; rw [if_pos rfl]; unfold oneTo; rw [if_neg (by omega)]
  · rw [if_neg hj]
theorem oneTo_all (f : Nat → Bool) (s : List Nat) (j : Nat) : oneTo f s s.length j = oneRow f s j := by
  unfold oneTo
  by_cases h : j < s.length
  · rw [if_pos h]
  · rw [if_neg h]; unfold oneRow; rw [dif_neg h]

section
variable {rs : List Rn} {b : Nat} {s : ByteArray}

/-- What lies in memory where spans begins. -/
theorem sp_begin {w : World} {k : Int} {r : Rn} (hb : RtS w b rs) (hl : rs.length ≤ 1000) (h0 : 0 ≤ k) (h : rs[k.toNat]? = some r) :
    ∃ kn g cap : Nat, k = (kn : Int) ∧ (kn : Int) < (rs.length : Int) ∧ (rs.length : Int) ≤ 1000 ∧ b < w.heap.size ∧ w.cell? ⟨b, 0, none⟩ = some (.slice (some ⟨g, 0, none⟩) rs.length cap) ∧
      (∀ j v, (rnA r).toList[j]? = some v → (w.alloc (.cells zeroSpan 64)).cell? ((⟨g, kn * 261, none⟩ : Addr).add j) = some v) := by
  have hbl := RtS_lt hb
  obtain ⟨kn, rfl⟩ := Int.eq_ofNat_of_zero_le h0
  rw [Int.toNat_natCast] at h
  have hkl : kn < rs.length := (List.getElem?_eq_some_iff.1 h).1
  obtain ⟨vv, h1, h2⟩ := hb
  obtain ⟨m, hm⟩ : ∃ m, rs.length = m + 1 := ⟨rs.length - 1, by omega⟩
  obtain ⟨g, cap, rfl⟩ : ∃ g cap, vv = .slice (some ⟨g, 0, none⟩) rs.length cap := by
    rw [hm] at h2 ⊢; exact own_form h2
  exact ⟨kn, g, cap, rfl, by omega, by omega, hbl, by rw [cell_of_row _ _ _ _ _ _ h1]; rfl, rn_cells (h2.alloc _) kn r h⟩

set_option maxRecDepth 20000 in
set_option maxHeartbeats 1000000 in
theorem spans_blank {k : Int} {r : Rn} (hl : rs.length ≤ 1000) (hs : s.size ≤ 16) (h0 : 0 ≤ k) (h : rs[k.toNat]? = some r) (hk : r.kind = 1) : DoesSp rs b s k .blank := by
  intro w hb
  obtain ⟨kn, g, cap, rfl, k1, k2, k3, c0, hc⟩ := sp_begin hb hl h0 h
  unfold zeroSpan at hc
  have HL := hide hc
  have HN1 := hide (heap_alloc2_new w (Obj.cells #[.int .i64 0, .int .i64 0, .int .i64 0, .int .i64 0, .int .i64 0, .int .i64 0, .int .i64 0, .int .i64 0, .int .i64 0, .int .i64 0, .int .i64 0, .int .i64 0, .int .i64 0, .int .i64 0, .int .i64 0, .int .i64 0, .int .i64 0] 64) (Obj.cells Try.zeroCells95 95))
  have hX := Sx.start w r
  unfold zeroSpan at hX
  have HRT := hide (RtS_below hb hX.below)
  have HB0 := hide hb
  have HX0 := hide hX
  clear hb hX hc
  go_enter Try.func31, Try.ntmps31
  go_upto_region 4 with (first
    | refine wpList_load_mid rfl 95 _ rfl ⟨g, kn * 261, none⟩ rfl (rnA r) (unhide HL) _ Try.underlying95 rfl (by rw [size_rnA]; exact info78) ?_
    | refine wpList_store_row0 rfl 95 _ _ rfl rfl (w.heap.size + 1) _ rfl rfl 95 _ (unhide HN1) (by rw [size_rnA]; exact info78) (by rw [zero78, size_rnA, size_rnA]) (rnA_one _) ?_)
  generalize hW : (((w.alloc (Obj.cells #[.int .i64 0, .int .i64 0, .int .i64 0, .int .i64 0, .int .i64 0, .int .i64 0, .int .i64 0, .int .i64 0, .int .i64 0, .int .i64 0, .int .i64 0, .int .i64 0, .int .i64 0, .int .i64 0, .int .i64 0, .int .i64 0, .int .i64 0] 64)).alloc (Obj.cells Try.zeroCells95 95)).setRow (w.heap.size + 1) (rnA r)).alloc (Obj.cells #[.int .i64 0, .int .i64 0, .int .i64 0, .int .i64 0, .int .i64 0, .int .i64 0, .int .i64 0, .int .i64 0, .int .i64 0, .int .i64 0, .int .i64 0, .int .i64 0, .int .i64 0, .int .i64 0, .int .i64 0, .int .i64 0, .int .i64 0] 64) = wr at *
  clear hW HN1 HL c0
  obtain ⟨x0, x1, x2, x3, x4⟩ := (unhide HX0).cells
  rw [hk] at x0
  clear HB0 HRT x1 x2 x3 x4
  go_wp2_with fail
  refine (same_any _ s.size hs).mono ?_
  rintro e w1 ⟨rfl, hw1⟩
  have HX1 := hide ((unhide HX0).next hw1)
  go_wp2_with (refine wpList_store_row0 rfl 64 _ _ rfl rfl (w.heap.size) (spanA (sameN s.size)) rfl rfl 64 _ (unhide HX1).b0 (by rw [size_spanA]; exact info63) (by rw [size_spanA, size_spanA]) (spanA_one _) ?_)
  exact bodyPost_ret (v := .agg (spanA (sameN s.size)))
    (results_cell_row (p := 6) (ty := 64) rfl _ _ w.heap.size 64 _ (0, 0) _ rfl ((unhide HX1).b0.row _) Try.underlying64 rfl (by rw [size_spanA]; exact info63))
    rfl ⟨by rw [← bytesN_len]; rfl, below_setRow (unhide HX1).below (Nat.le_refl _) _⟩


set_option maxRecDepth 20000 in
set_option maxHeartbeats 1000000 in
theorem spans_one {k : Int} {r : Rn} (hl : rs.length ≤ 1000) (hs : s.size ≤ 16) (h0 : 0 ≤ k) (h : rs[k.toNat]? = some r) (hk : r.kind = 2) : DoesSp rs b s k (.set r.f) := by
  have hsI : (s.size : Int) ≤ 16 := by omega
  intro w hb
  obtain ⟨kn, g, cap, rfl, k1, k2, k3, c0, hc⟩ := sp_begin hb hl h0 h
  unfold zeroSpan at hc
  have HL := hide hc
  have HN1 := hide (heap_alloc2_new w (Obj.cells #[.int .i64 0, .int .i64 0, .int .i64 0, .int .i64 0, .int .i64 0, .int .i64 0, .int .i64 0, .int .i64 0, .int .i64 0, .int .i64 0, .int .i64 0, .int .i64 0, .int .i64 0, .int .i64 0, .int .i64 0, .int .i64 0, .int .i64 0] 64) (Obj.cells Try.zeroCells95 95))
  have hX := Sx.start w r
  unfold zeroSpan at hX
  have HRT := hide (RtS_below hb hX.below)
  have HB0 := hide hb
  have HX0 := hide hX
  clear hb hX hc
  go_enter Try.func31, Try.ntmps31
  go_upto_region 4 with (first
    | refine wpList_load_mid rfl 95 _ rfl ⟨g, kn * 261, none⟩ rfl (rnA r) (unhide HL) _ Try.underlying95 rfl (by rw [size_rnA]; exact info78) ?_
    | refine wpList_store_row0 rfl 95 _ _ rfl rfl (w.heap.size + 1) _ rfl rfl 95 _ (unhide HN1) (by rw [size_rnA]; exact info78) (by rw [zero78, size_rnA, size_rnA]) (rnA_one _) ?_)
  generalize hW : (((w.alloc (Obj.cells #[.int .i64 0, .int .i64 0, .int .i64 0, .int .i64 0, .int .i64 0, .int .i64 0, .int .i64 0, .int .i64 0, .int .i64 0, .int .i64 0, .int .i64 0, .int .i64 0, .int .i64 0, .int .i64 0, .int .i64 0, .int .i64 0, .int .i64 0] 64)).alloc (Obj.cells Try.zeroCells95 95)).setRow (w.heap.size + 1) (rnA r)).alloc (Obj.cells #[.int .i64 0, .int .i64 0, .int .i64 0, .int .i64 0, .int .i64 0, .int .i64 0, .int .i64 0, .int .i64 0, .int .i64 0, .int .i64 0, .int .i64 0, .int .i64 0, .int .i64 0, .int .i64 0, .int .i64 0, .int .i64 0, .int .i64 0] 64) = wr at *
  clear hW HN1 HL c0
  obtain ⟨x0, x1, x2, x3, x4⟩ := (unhide HX0).cells
  rw [hk] at x0
  have HS := hide hs
  clear hs x1 x2 x3 x4 HRT HB0
  go_wp2_with fail
  go_loopw [10] (fun ix wr => ∃ k : Nat, k ≤ s.size ∧ ix = .int .i64 (k : Int) ∧ Hid (Sx w wr r (oneTo r.f (bytesN s) k))) (fun ix _ => left17 ix)
  case atStart => exact ⟨0, Nat.zero_le _, rfl, (unhide HX0).congr (fun j => by unfold oneTo; rw [if_neg (by omega)])⟩
  case round =>
    rename World => w2
    obtain ⟨k, hk2, rfl, HD⟩ := hrel
    by_cases hlt : k < s.size
    · have hbt : s[k].toNat < 256 := s[k].toNat_lt
      have hcell : w2.cell? ⟨w.heap.size + 1, 5 + s[k].toNat, none⟩ = some (.bool (r.f s[k].toNat)) := by rw [cell_of_row _ _ _ _ _ _ (unhide HD).b1, get_rnA _ _ hbt]
      have HROW : Hid (oneRow r.f (bytesN s) k = if r.f s[k].toNat = true then 2 ^ (k + 1) else 0) := by
        have hl2 : k < (bytesN s).length := by rw [bytesN_len]; exact hlt
        show oneRow _ _ _ = _
        unfold oneRow
        rw [dif_pos hl2, bytesN_at s k hlt hl2]
      have hf := (unhide HD).b2.free k
      have hd := (unhide HD).b2.cell (k := k) (by have := unhide HS; omega)
      have HP := hide (wrap64_nat (2 ^ (k + 1)) (pow_top (by have := unhide HS; omega)))
      have hbI : (s[k].toNat : Int) < 256 := by omega
      by_cases hq : r.f s[k].toNat = true
      · rw [hq] at hcell
        rw [if_pos hq] at HROW
        go_wp2
        go_roundw
        case rel =>
          refine ⟨k + 1, by omega, by go_num, ?_⟩
          have e : wrap64 ((2 : Int) ^ (k + 1)) = ((2 ^ (k + 1) : Nat) : Int) := by rw [← unhide HP]; simp
          rw [e]
          exact (unhide HD).set k _ (oneTo_step r.f (bytesN s) k _ (unhide HROW).symm)
        case measure => have := unhide HS; simp [left17, intOf]; omega
      · rw [if_neg hq] at HROW
        have hq' : r.f s[k].toNat = false := by simpa using hq
        rw [hq'] at hcell
        go_wp2
        go_roundw
        case rel => exact ⟨k + 1, by omega, by go_num, (unhide HD).congr (oneTo_skip r.f (bytesN s) k (unhide HROW))⟩
        case measure => have := unhide HS; simp [left17, intOf]; omega
    · have hk3 : k = s.size := by omega
      subst hk3
      have hx1 : Sx w w2 r (oneRow r.f (bytesN s)) := (unhide HD).congr (fun j => by have := oneTo_all r.f (bytesN s) j; rw [bytesN_len] at this; exact this)
      have HX1 := hide hx1
      clear hx1 HD
      go_wp2_with (first
        | refine wpList_load_row rfl 64 _ rfl (w.heap.size + 2) rfl 64 _ (0, 0) _ (unhide HX1).b2 Try.underlying64 rfl (by rw [size_spanA]; exact info63) ?_
        | refine wpList_store_row0 rfl 64 _ _ rfl rfl (w.heap.size) (spanA (oneRow r.f (bytesN s))) rfl rfl 64 _ (unhide HX1).b0 (by rw [size_spanA]; exact info63) (by rw [size_spanA, size_spanA]) (spanA_one _) ?_)
      exact bodyPost_ret (v := .agg (spanA (oneRow r.f (bytesN s))))
        (results_cell_row (p := 6) (ty := 64) rfl _ _ w.heap.size 64 _ (0, 0) _ rfl ((unhide HX1).b0.row _) Try.underlying64 rfl (by rw [size_spanA]; exact info63))
        rfl ⟨rfl, below_setRow (unhide HX1).below (Nat.le_refl _) _⟩

set_option maxRecDepth 20000 in
set_option maxHeartbeats 1000000 in
theorem spans_star {k : Int} {r : Rn} (hl : rs.length ≤ 1000) (hs : s.size ≤ 16) (h0 : 0 ≤ k) (h : rs[k.toNat]? = some r) (hk : r.kind = 5) {A : Re} (ih : DoesSp rs b s r.l A) : DoesSp rs b s k (.star A) := by
  intro w hb
  obtain ⟨kn, g, cap, rfl, k1, k2, k3, c0, hc⟩ := sp_begin hb hl h0 h
  unfold zeroSpan at hc
  have HL := hide hc
  have HN1 := hide (heap_alloc2_new w (Obj.cells #[.int .i64 0, .int .i64 0, .int .i64 0, .int .i64 0, .int .i64 0, .int .i64 0, .int .i64 0, .int .i64 0, .int .i64 0, .int .i64 0, .int .i64 0, .int .i64 0, .int .i64 0, .int .i64 0, .int .i64 0, .int .i64 0, .int .i64 0] 64) (Obj.cells Try.zeroCells95 95))
  have hX := Sx.start w r
  unfold zeroSpan at hX
  have HRT := hide (RtS_below hb hX.below)
  have HB0 := hide hb
  have HX0 := hide hX
  clear hb hX hc
  go_enter Try.func31, Try.ntmps31
  go_upto_region 4 with (first
    | refine wpList_load_mid rfl 95 _ rfl ⟨g, kn * 261, none⟩ rfl (rnA r) (unhide HL) _ Try.underlying95 rfl (by rw [size_rnA]; exact info78) ?_
    | refine wpList_store_row0 rfl 95 _ _ rfl rfl (w.heap.size + 1) _ rfl rfl 95 _ (unhide HN1) (by rw [size_rnA]; exact info78) (by rw [zero78, size_rnA, size_rnA]) (rnA_one _) ?_)
  generalize hW : (((w.alloc (Obj.cells #[.int .i64 0, .int .i64 0, .int .i64 0, .int .i64 0, .int .i64 0, .int .i64 0, .int .i64 0, .int .i64 0, .int .i64 0, .int .i64 0, .int .i64 0, .int .i64 0, .int .i64 0, .int .i64 0, .int .i64 0, .int .i64 0, .int .i64 0] 64)).alloc (Obj.cells Try.zeroCells95 95)).setRow (w.heap.size + 1) (rnA r)).alloc (Obj.cells #[.int .i64 0, .int .i64 0, .int .i64 0, .int .i64 0, .int .i64 0, .int .i64 0, .int .i64 0, .int .i64 0, .int .i64 0, .int .i64 0, .int .i64 0, .int .i64 0, .int .i64 0, .int .i64 0, .int .i64 0, .int .i64 0, .int .i64 0] 64) = wr at *
  clear hW HN1 HL c0
  obtain ⟨x0, x1, x2, x3, x4⟩ := (unhide HX0).cells
  rw [hk] at x0
  have HA := hide ih
  have HS := hide hs
  have hsI : (s.size : Int) ≤ 16 := by omega
  have HSB := hide (bytesN_len s)
  have HLA := hide (low_spans (s := bytesN s) (by rw [bytesN_len]; exact hs) A)
  clear ih hs h
  go_wp2_with fail
  refine (unhide HA _ (unhide HRT)).mono ?_
  rintro e w1 ⟨rfl, hw1⟩
  have HX1 := hide ((unhide HX0).next hw1)
  have HX2 := hide ((unhide HX1).put (spansN (bytesN s) A))
  clear x0 x1 x2 x3 x4 hw1 HX0
  obtain ⟨z0, z1, z2, z3, z4⟩ := (unhide HX2).cells
  rw [hk] at z0
  go_wp2_with (first
    | refine wpList_store_row0 rfl 64 _ _ rfl rfl (w.heap.size + 2) (spanA (spansN (bytesN s) A)) rfl rfl 64 _ (unhide HX1).b2 (by rw [size_spanA]; exact info63) (by rw [size_spanA, size_spanA]) (spanA_one _) ?_
    | refine wpList_load_row rfl 64 _ rfl (w.heap.size + 2) rfl 64 _ (0, 0) _ (unhide HX2).b2 Try.underlying64 rfl (by rw [size_spanA]; exact info63) ?_)
  refine (often_any _ (spansN (bytesN s) A) 0 s.size s.size (unhide HLA) (by have := unhide HS; omega) (by omega) (unhide HS)).mono ?_
  rintro e w3 ⟨rfl, hw3⟩
  have HX3 := hide ((unhide HX2).next hw3)
  go_wp2_with (refine wpList_store_row0 rfl 64 _ _ rfl rfl (w.heap.size) (spanA (oftN (spansN (bytesN s) A) 0 s.size (s.size + 1))) rfl rfl 64 _ (unhide HX3).b0 (by rw [size_spanA]; exact info63) (by rw [size_spanA, size_spanA]) (spanA_one _) ?_)
  exact bodyPost_ret (v := .agg (spanA (oftN (spansN (bytesN s) A) 0 s.size (s.size + 1))))
    (results_cell_row (p := 6) (ty := 64) rfl _ _ w.heap.size 64 _ (0, 0) _ rfl ((unhide HX3).b0.row _) Try.underlying64 rfl (by rw [size_spanA]; exact info63))
    rfl ⟨by rw [← unhide HSB]; rfl, below_setRow (unhide HX3).below (Nat.le_refl _) _⟩


set_option maxRecDepth 20000 in
set_option maxHeartbeats 1000000 in
theorem spans_plus {k : Int} {r : Rn} (hl : rs.length ≤ 1000) (hs : s.size ≤ 16) (h0 : 0 ≤ k) (h : rs[k.toNat]? = some r) (hk : r.kind = 6) {A : Re} (ih : DoesSp rs b s r.l A) : DoesSp rs b s k (.plus A) := by
  intro w hb
  obtain ⟨kn, g, cap, rfl, k1, k2, k3, c0, hc⟩ := sp_begin hb hl h0 h
  unfold zeroSpan at hc
  have HL := hide hc
  have HN1 := hide (heap_alloc2_new w (Obj.cells #[.int .i64 0, .int .i64 0, .int .i64 0, .int .i64 0, .int .i64 0, .int .i64 0, .int .i64 0, .int .i64 0, .int .i64 0, .int .i64 0, .int .i64 0, .int .i64 0, .int .i64 0, .int .i64 0, .int .i64 0, .int .i64 0, .int .i64 0] 64) (Obj.cells Try.zeroCells95 95))
  have hX := Sx.start w r
  unfold zeroSpan at hX
  have HRT := hide (RtS_below hb hX.below)
  have HB0 := hide hb
  have HX0 := hide hX
  clear hb hX hc
  go_enter Try.func31, Try.ntmps31
  go_upto_region 4 with (first
    | refine wpList_load_mid rfl 95 _ rfl ⟨g, kn * 261, none⟩ rfl (rnA r) (unhide HL) _ Try.underlying95 rfl (by rw [size_rnA]; exact info78) ?_
    | refine wpList_store_row0 rfl 95 _ _ rfl rfl (w.heap.size + 1) _ rfl rfl 95 _ (unhide HN1) (by rw [size_rnA]; exact info78) (by rw [zero78, size_rnA, size_rnA]) (rnA_one _) ?_)
  generalize hW : (((w.alloc (Obj.cells #[.int .i64 0, .int .i64 0, .int .i64 0, .int .i64 0, .int .i64 0, .int .i64 0, .int .i64 0, .int .i64 0, .int .i64 0, .int .i64 0, .int .i64 0, .int .i64 0, .int .i64 0, .int .i64 0, .int .i64 0, .int .i64 0, .int .i64 0] 64)).alloc (Obj.cells Try.zeroCells95 95)).setRow (w.heap.size + 1) (rnA r)).alloc (Obj.cells #[.int .i64 0, .int .i64 0, .int .i64 0, .int .i64 0, .int .i64 0, .int .i64 0, .int .i64 0, .int .i64 0, .int .i64 0, .int .i64 0, .int .i64 0, .int .i64 0, .int .i64 0, .int .i64 0, .int .i64 0, .int .i64 0, .int .i64 0] 64) = wr at *
  clear hW HN1 HL c0
  obtain ⟨x0, x1, x2, x3, x4⟩ := (unhide HX0).cells
  rw [hk] at x0
  have HA := hide ih
  have HS := hide hs
  have hsI : (s.size : Int) ≤ 16 := by omega
  have HSB := hide (bytesN_len s)
  have HLA := hide (low_spans (s := bytesN s) (by rw [bytesN_len]; exact hs) A)
  clear ih hs h
  go_wp2_with fail
  refine (unhide HA _ (unhide HRT)).mono ?_
  rintro e w1 ⟨rfl, hw1⟩
  have HX1 := hide ((unhide HX0).next hw1)
  have HX2 := hide ((unhide HX1).put (spansN (bytesN s) A))
  clear x0 x1 x2 x3 x4 hw1 HX0
  obtain ⟨z0, z1, z2, z3, z4⟩ := (unhide HX2).cells
  rw [hk] at z0
  go_wp2_with (first
    | refine wpList_store_row0 rfl 64 _ _ rfl rfl (w.heap.size + 2) (spanA (spansN (bytesN s) A)) rfl rfl 64 _ (unhide HX1).b2 (by rw [size_spanA]; exact info63) (by rw [size_spanA, size_spanA]) (spanA_one _) ?_
    | refine wpList_load_row rfl 64 _ rfl (w.heap.size + 2) rfl 64 _ (0, 0) _ (unhide HX2).b2 Try.underlying64 rfl (by rw [size_spanA]; exact info63) ?_)
  refine (often_any _ (spansN (bytesN s) A) 1 (s.size + 1) s.size (unhide HLA) (by have := unhide HS; omega) (by omega) (unhide HS)).mono ?_
  rintro e w3 ⟨rfl, hw3⟩
  have HX3 := hide ((unhide HX2).next hw3)
  go_wp2_with (refine wpList_store_row0 rfl 64 _ _ rfl rfl (w.heap.size) (spanA (oftN (spansN (bytesN s) A) 1 s.size (s.size + 1 + 1))) rfl rfl 64 _ (unhide HX3).b0 (by rw [size_spanA]; exact info63) (by rw [size_spanA, size_spanA]) (spanA_one _) ?_)
  exact bodyPost_ret (v := .agg (spanA (oftN (spansN (bytesN s) A) 1 s.size (s.size + 1 + 1))))
    (results_cell_row (p := 6) (ty := 64) rfl _ _ w.heap.size 64 _ (0, 0) _ rfl ((unhide HX3).b0.row _) Try.underlying64 rfl (by rw [size_spanA]; exact info63))
    rfl ⟨by rw [← unhide HSB]; rfl, below_setRow (unhide HX3).below (Nat.le_refl _) _⟩


set_option maxRecDepth 20000 in
set_option maxHeartbeats 1000000 in
theorem spans_opt {k : Int} {r : Rn} (hl : rs.length ≤ 1000) (hs : s.size ≤ 16) (h0 : 0 ≤ k) (h : rs[k.toNat]? = some r) (hk : r.kind = 7) {A : Re} (ih : DoesSp rs b s r.l A) : DoesSp rs b s k (.opt A) := by
  intro w hb
  obtain ⟨kn, g, cap, rfl, k1, k2, k3, c0, hc⟩ := sp_begin hb hl h0 h
  unfold zeroSpan at hc
  have HL := hide hc
  have HN1 := hide (heap_alloc2_new w (Obj.cells #[.int .i64 0, .int .i64 0, .int .i64 0, .int .i64 0, .int .i64 0, .int .i64 0, .int .i64 0, .int .i64 0, .int .i64 0, .int .i64 0, .int .i64 0, .int .i64 0, .int .i64 0, .int .i64 0, .int .i64 0, .int .i64 0, .int .i64 0] 64) (Obj.cells Try.zeroCells95 95))
  have hX := Sx.start w r
  unfold zeroSpan at hX
  have HRT := hide (RtS_below hb hX.below)
  have HB0 := hide hb
  have HX0 := hide hX
  clear hb hX hc
  go_enter Try.func31, Try.ntmps31
  go_upto_region 4 with (first
    | refine wpList_load_mid rfl 95 _ rfl ⟨g, kn * 261, none⟩ rfl (rnA r) (unhide HL) _ Try.underlying95 rfl (by rw [size_rnA]; exact info78) ?_
    | refine wpList_store_row0 rfl 95 _ _ rfl rfl (w.heap.size + 1) _ rfl rfl 95 _ (unhide HN1) (by rw [size_rnA]; exact info78) (by rw [zero78, size_rnA, size_rnA]) (rnA_one _) ?_)
  generalize hW : (((w.alloc (Obj.cells #[.int .i64 0, .int .i64 0, .int .i64 0, .int .i64 0, .int .i64 0, .int .i64 0, .int .i64 0, .int .i64 0, .int .i64 0, .int .i64 0, .int .i64 0, .int .i64 0, .int .i64 0, .int .i64 0, .int .i64 0, .int .i64 0, .int .i64 0] 64)).alloc (Obj.cells Try.zeroCells95 95)).setRow (w.heap.size + 1) (rnA r)).alloc (Obj.cells #[.int .i64 0, .int .i64 0, .int .i64 0, .int .i64 0, .int .i64 0, .int .i64 0, .int .i64 0, .int .i64 0, .int .i64 0, .int .i64 0, .int .i64 0, .int .i64 0, .int .i64 0, .int .i64 0, .int .i64 0, .int .i64 0, .int .i64 0] 64) = wr at *
  clear hW HN1 HL c0
  obtain ⟨x0, x1, x2, x3, x4⟩ := (unhide HX0).cells
  rw [hk] at x0
  have HA := hide ih
  have HS := hide hs
  have hsI : (s.size : Int) ≤ 16 := by omega
  have HSB := hide (bytesN_len s)
  have HLA := hide (low_spans (s := bytesN s) (by rw [bytesN_len]; exact hs) A)
  clear ih hs h
  go_wp2_with fail
  refine (unhide HA _ (unhide HRT)).mono ?_
  rintro e w1 ⟨rfl, hw1⟩
  have HX1 := hide ((unhide HX0).next hw1)
  have HX2 := hide ((unhide HX1).put (spansN (bytesN s) A))
  clear x0 x1 x2 x3 x4 hw1 HX0
  obtain ⟨z0, z1, z2, z3, z4⟩ := (unhide HX2).cells
  rw [hk] at z0
  go_wp2_with (first
    | refine wpList_store_row0 rfl 64 _ _ rfl rfl (w.heap.size + 2) (spanA (spansN (bytesN s) A)) rfl rfl 64 _ (unhide HX1).b2 (by rw [size_spanA]; exact info63) (by rw [size_spanA, size_spanA]) (spanA_one _) ?_
    | refine wpList_load_row rfl 64 _ rfl (w.heap.size + 2) rfl 64 _ (0, 0) _ (unhide HX2).b2 Try.underlying64 rfl (by rw [size_spanA]; exact info63) ?_)
  refine (often_any _ (spansN (bytesN s) A) 0 1 s.size (unhide HLA) (by omega) (by omega) (unhide HS)).mono ?_
  rintro e w3 ⟨rfl, hw3⟩
  have HX3 := hide ((unhide HX2).next hw3)
  go_wp2_with (refine wpList_store_row0 rfl 64 _ _ rfl rfl (w.heap.size) (spanA (oftN (spansN (bytesN s) A) 0 s.size (1 + 1))) rfl rfl 64 _ (unhide HX3).b0 (by rw [size_spanA]; exact info63) (by rw [size_spanA, size_spanA]) (spanA_one _) ?_)
  exact bodyPost_ret (v := .agg (spanA (oftN (spansN (bytesN s) A) 0 s.size (1 + 1))))
    (results_cell_row (p := 6) (ty := 64) rfl _ _ w.heap.size 64 _ (0, 0) _ rfl ((unhide HX3).b0.row _) Try.underlying64 rfl (by rw [size_spanA]; exact info63))
    rfl ⟨by rw [← unhide HSB]; rfl, below_setRow (unhide HX3).below (Nat.le_refl _) _⟩


set_option maxRecDepth 20000 in
set_option maxHeartbeats 1000000 in
theorem spans_times {k : Int} {r : Rn} (hl : rs.length ≤ 1000) (hs : s.size ≤ 16) (h0 : 0 ≤ k) (h : rs[k.toNat]? = some r) (hk : r.kind = 8) {A : Re} {m n : Nat} (hm : r.m = (m : Int)) (hn : r.n = (n : Int)) (m9 : m ≤ 9) (n9 : n ≤ 9) (ih : DoesSp rs b s r.l A) : DoesSp rs b s k (.times m n A) := by
  intro w hb
  obtain ⟨kn, g, cap, rfl, k1, k2, k3, c0, hc⟩ := sp_begin hb hl h0 h
  unfold zeroSpan at hc
  have HL := hide hc
  have HN1 := hide (heap_alloc2_new w (Obj.cells #[.int .i64 0, .int .i64 0, .int .i64 0, .int .i64 0, .int .i64 0, .int .i64 0, .int .i64 0, .int .i64 0, .int .i64 0, .int .i64 0, .int .i64 0, .int .i64 0, .int .i64 0, .int .i64 0, .int .i64 0, .int .i64 0, .int .i64 0] 64) (Obj.cells Try.zeroCells95 95))
  have hX := Sx.start w r
  unfold zeroSpan at hX
  have HRT := hide (RtS_below hb hX.below)
  have HB0 := hide hb
  have HX0 := hide hX
  clear hb hX hc
  go_enter Try.func31, Try.ntmps31
  go_upto_region 4 with (first
    | refine wpList_load_mid rfl 95 _ rfl ⟨g, kn * 261, none⟩ rfl (rnA r) (unhide HL) _ Try.underlying95 rfl (by rw [size_rnA]; exact info78) ?_
    | refine wpList_store_row0 rfl 95 _ _ rfl rfl (w.heap.size + 1) _ rfl rfl 95 _ (unhide HN1) (by rw [size_rnA]; exact info78) (by rw [zero78, size_rnA, size_rnA]) (rnA_one _) ?_)
  generalize hW : (((w.alloc (Obj.cells #[.int .i64 0, .int .i64 0, .int .i64 0, .int .i64 0, .int .i64 0, .int .i64 0, .int .i64 0, .int .i64 0, .int .i64 0, .int .i64 0, .int .i64 0, .int .i64 0, .int .i64 0, .int .i64 0, .int .i64 0, .int .i64 0, .int .i64 0] 64)).alloc (Obj.cells Try.zeroCells95 95)).setRow (w.heap.size + 1) (rnA r)).alloc (Obj.cells #[.int .i64 0, .int .i64 0, .int .i64 0, .int .i64 0, .int .i64 0, .int .i64 0, .int .i64 0, .int .i64 0, .int .i64 0, .int .i64 0, .int .i64 0, .int .i64 0, .int .i64 0, .int .i64 0, .int .i64 0, .int .i64 0, .int .i64 0] 64) = wr at *
  clear hW HN1 HL c0
  obtain ⟨x0, x1, x2, x3, x4⟩ := (unhide HX0).cells
  rw [hk] at x0
  have HA := hide ih
  have HS := hide hs
  have hsI : (s.size : Int) ≤ 16 := by omega
  have HSB := hide (bytesN_len s)
  have HLA := hide (low_spans (s := bytesN s) (by rw [bytesN_len]; exact hs) A)
  clear ih hs h
  go_wp2_with fail
  refine (unhide HA _ (unhide HRT)).mono ?_
  rintro e w1 ⟨rfl, hw1⟩
  have HX1 := hide ((unhide HX0).next hw1)
  have HX2 := hide ((unhide HX1).put (spansN (bytesN s) A))
  clear x0 x1 x2 x3 x4 hw1 HX0
  obtain ⟨z0, z1, z2, z3, z4⟩ := (unhide HX2).cells
  rw [hk] at z0
  rw [hm] at z3
  rw [hn] at z4
  go_wp2_with (first
    | refine wpList_store_row0 rfl 64 _ _ rfl rfl (w.heap.size + 2) (spanA (spansN (bytesN s) A)) rfl rfl 64 _ (unhide HX1).b2 (by rw [size_spanA]; exact info63) (by rw [size_spanA, size_spanA]) (spanA_one _) ?_
    | refine wpList_load_row rfl 64 _ rfl (w.heap.size + 2) rfl 64 _ (0, 0) _ (unhide HX2).b2 Try.underlying64 rfl (by rw [size_spanA]; exact info63) ?_)
  refine (often_any _ (spansN (bytesN s) A) m n s.size (unhide HLA) (by omega) (by omega) (unhide HS)).mono ?_
  rintro e w3 ⟨rfl, hw3⟩
  have HX3 := hide ((unhide HX2).next hw3)
  go_wp2_with (refine wpList_store_row0 rfl 64 _ _ rfl rfl (w.heap.size) (spanA (oftN (spansN (bytesN s) A) m s.size (n + 1))) rfl rfl 64 _ (unhide HX3).b0 (by rw [size_spanA]; exact info63) (by rw [size_spanA, size_spanA]) (spanA_one _) ?_)
  exact bodyPost_ret (v := .agg (spanA (oftN (spansN (bytesN s) A) m s.size (n + 1))))
    (results_cell_row (p := 6) (ty := 64) rfl _ _ w.heap.size 64 _ (0, 0) _ rfl ((unhide HX3).b0.row _) Try.underlying64 rfl (by rw [size_spanA]; exact info63))
    rfl ⟨by rw [← unhide HSB]; rfl, below_setRow (unhide HX3).below (Nat.le_refl _) _⟩


set_option maxRecDepth 20000 in
set_option maxHeartbeats 1000000 in
theorem spans_seq {k : Int} {r : Rn} (hl : rs.length ≤ 1000) (hs : s.size ≤ 16) (h0 : 0 ≤ k) (h : rs[k.toNat]? = some r) (hk : r.kind = 3) {A B : Re} (ih : DoesSp rs b s r.l A) (ih2 : DoesSp rs b s r.r B) : DoesSp rs b s k (.seq A B) := by
  intro w hb
  obtain ⟨kn, g, cap, rfl, k1, k2, k3, c0, hc⟩ := sp_begin hb hl h0 h
  unfold zeroSpan at hc
  have HL := hide hc
  have HN1 := hide (heap_alloc2_new w (Obj.cells #[.int .i64 0, .int .i64 0, .int .i64 0, .int .i64 0, .int .i64 0, .int .i64 0, .int .i64 0, .int .i64 0, .int .i64 0, .int .i64 0, .int .i64 0, .int .i64 0, .int .i64 0, .int .i64 0, .int .i64 0, .int .i64 0, .int .i64 0] 64) (Obj.cells Try.zeroCells95 95))
  have hX := Sx.start w r
  unfold zeroSpan at hX
  have HRT := hide (RtS_below hb hX.below)
  have HB0 := hide hb
  have HX0 := hide hX
  clear hb hX hc
  go_enter Try.func31, Try.ntmps31
  go_upto_region 4 with (first
    | refine wpList_load_mid rfl 95 _ rfl ⟨g, kn * 261, none⟩ rfl (rnA r) (unhide HL) _ Try.underlying95 rfl (by rw [size_rnA]; exact info78) ?_
    | refine wpList_store_row0 rfl 95 _ _ rfl rfl (w.heap.size + 1) _ rfl rfl 95 _ (unhide HN1) (by rw [size_rnA]; exact info78) (by rw [zero78, size_rnA, size_rnA]) (rnA_one _) ?_)
  generalize hW : (((w.alloc (Obj.cells #[.int .i64 0, .int .i64 0, .int .i64 0, .int .i64 0, .int .i64 0, .int .i64 0, .int .i64 0, .int .i64 0, .int .i64 0, .int .i64 0, .int .i64 0, .int .i64 0, .int .i64 0, .int .i64 0, .int .i64 0, .int .i64 0, .int .i64 0] 64)).alloc (Obj.cells Try.zeroCells95 95)).setRow (w.heap.size + 1) (rnA r)).alloc (Obj.cells #[.int .i64 0, .int .i64 0, .int .i64 0, .int .i64 0, .int .i64 0, .int .i64 0, .int .i64 0, .int .i64 0, .int .i64 0, .int .i64 0, .int .i64 0, .int .i64 0, .int .i64 0, .int .i64 0, .int .i64 0, .int .i64 0, .int .i64 0] 64) = wr at *
  clear hW HN1 HL c0
  obtain ⟨x0, x1, x2, x3, x4⟩ := (unhide HX0).cells
  rw [hk] at x0
  have HB2 := hide ih2
  have HLB := hide (low_spans (s := bytesN s) (by rw [bytesN_len]; exact hs) B)
  clear ih2
  have HA := hide ih
  have HS := hide hs
  have hsI : (s.size : Int) ≤ 16 := by omega
  have HSB := hide (bytesN_len s)
  have HLA := hide (low_spans (s := bytesN s) (by rw [bytesN_len]; exact hs) A)
  clear ih hs h
  go_wp2_with fail
  refine (unhide HA _ (unhide HRT)).mono ?_
  rintro e w1 ⟨rfl, hw1⟩
  have HX1 := hide ((unhide HX0).next hw1)
  have HX2 := hide ((unhide HX1).put (spansN (bytesN s) A))
  clear x0 x1 x2 x3 x4 hw1 HX0
  obtain ⟨z0, z1, z2, z3, z4⟩ := (unhide HX2).cells
  rw [hk] at z0
  have HRT2 := hide (RtS_below (unhide HB0) (unhide HX2).below)
  go_wp2_with (first
    | refine wpList_store_row0 rfl 64 _ _ rfl rfl (w.heap.size + 2) (spanA (spansN (bytesN s) A)) rfl rfl 64 _ (unhide HX1).b2 (by rw [size_spanA]; exact info63) (by rw [size_spanA, size_spanA]) (spanA_one _) ?_
    | refine wpList_load_row rfl 64 _ rfl (w.heap.size + 2) rfl 64 _ (0, 0) _ (unhide HX2).b2 Try.underlying64 rfl (by rw [size_spanA]; exact info63) ?_)
  refine (unhide HB2 _ (unhide HRT2)).mono ?_
  rintro e w2 ⟨rfl, hw2⟩
  have HX3 := hide ((unhide HX2).next hw2)
  have hX4 := (unhide HX3).alloc (Obj.cells #[.int .i64 0, .int .i64 0, .int .i64 0, .int .i64 0, .int .i64 0, .int .i64 0, .int .i64 0, .int .i64 0, .int .i64 0, .int .i64 0, .int .i64 0, .int .i64 0, .int .i64 0, .int .i64 0, .int .i64 0, .int .i64 0, .int .i64 0] 64)
  have hG : SpB (w2.alloc (Obj.cells #[.int .i64 0, .int .i64 0, .int .i64 0, .int .i64 0, .int .i64 0, .int .i64 0, .int .i64 0, .int .i64 0, .int .i64 0, .int .i64 0, .int .i64 0, .int .i64 0, .int .i64 0, .int .i64 0, .int .i64 0, .int .i64 0, .int .i64 0] 64)) w2.heap.size (fun _ => 0) := SpB.zero (heap_alloc_new _ _)
  have hlt2 := (unhide HX3).lt
  have HX5 : Hid (Sx w ((w2.alloc (Obj.cells #[.int .i64 0, .int .i64 0, .int .i64 0, .int .i64 0, .int .i64 0, .int .i64 0, .int .i64 0, .int .i64 0, .int .i64 0, .int .i64 0, .int .i64 0, .int .i64 0, .int .i64 0, .int .i64 0, .int .i64 0, .int .i64 0, .int .i64 0] 64)).setRow w2.heap.size (spanA (spansN (bytesN s) B))) r (spansN (bytesN s) A)) := ⟨below_setRow hX4.below (by omega) _, hX4.b0.rowOther (by omega) _, (setRow_other _ _ _ _ (by omega)).trans hX4.b1, hX4.b2.rowOther (by omega) _⟩
  have HG := hide hG
  have HG5 := hide (hG.row (spansN (bytesN s) B))
  clear hX4 hG hw2 z0 z1 z2 z3 z4
  go_wp2_with (first
    | refine wpList_store_row0 rfl 64 _ _ rfl rfl (w2.heap.size) (spanA (spansN (bytesN s) B)) rfl rfl 64 _ (unhide HG) (by rw [size_spanA]; exact info63) (by rw [size_spanA, size_spanA]) (spanA_one _) ?_
    | refine wpList_load_row rfl 64 _ rfl (w.heap.size + 2) rfl 64 _ (0, 0) _ (unhide HX5).b2 Try.underlying64 rfl (by rw [size_spanA]; exact info63) ?_
    | refine wpList_load_row rfl 64 _ rfl (w2.heap.size) rfl 64 _ (0, 0) _ (unhide HG5) Try.underlying64 rfl (by rw [size_spanA]; exact info63) ?_)
  refine (then_any _ (spansN (bytesN s) A) (spansN (bytesN s) B) s.size (unhide HLA) (unhide HLB) (unhide HS)).mono ?_
  rintro e w3 ⟨rfl, hw3⟩
  have HX6 := hide ((unhide HX5).next hw3)
  go_wp2_with (refine wpList_store_row0 rfl 64 _ _ rfl rfl (w.heap.size) (spanA (thenN (spansN (bytesN s) A) (spansN (bytesN s) B) s.size)) rfl rfl 64 _ (unhide HX6).b0 (by rw [size_spanA]; exact info63) (by rw [size_spanA, size_spanA]) (spanA_one _) ?_)
  exact bodyPost_ret (v := .agg (spanA (thenN (spansN (bytesN s) A) (spansN (bytesN s) B) s.size)))
    (results_cell_row (p := 6) (ty := 64) rfl _ _ w.heap.size 64 _ (0, 0) _ rfl ((unhide HX6).b0.row _) Try.underlying64 rfl (by rw [size_spanA]; exact info63))
    rfl ⟨by rw [← unhide HSB]; rfl, below_setRow (unhide HX6).below (Nat.le_refl _) _⟩


set_option maxRecDepth 20000 in
set_option maxHeartbeats 1000000 in
theorem spans_alt {k : Int} {r : Rn} (hl : rs.length ≤ 1000) (hs : s.size ≤ 16) (h0 : 0 ≤ k) (h : rs[k.toNat]? = some r) (hk : r.kind = 4) {A B : Re} (ih : DoesSp rs b s r.l A) (ih2 : DoesSp rs b s r.r B) : DoesSp rs b s k (.alt A B) := by
  intro w hb
  obtain ⟨kn, g, cap, rfl, k1, k2, k3, c0, hc⟩ := sp_begin hb hl h0 h
  unfold zeroSpan at hc
  have HL := hide hc
  have HN1 := hide (heap_alloc2_new w (Obj.cells #[.int .i64 0, .int .i64 0, .int .i64 0, .int .i64 0, .int .i64 0, .int .i64 0, .int .i64 0, .int .i64 0, .int .i64 0, .int .i64 0, .int .i64 0, .int .i64 0, .int .i64 0, .int .i64 0, .int .i64 0, .int .i64 0, .int .i64 0] 64) (Obj.cells Try.zeroCells95 95))
  have hX := Sx.start w r
  unfold zeroSpan at hX
  have HRT := hide (RtS_below hb hX.below)
  have HB0 := hide hb
  have HX0 := hide hX
  clear hb hX hc
  go_enter Try.func31, Try.ntmps31
  go_upto_region 4 with (first
    | refine wpList_load_mid rfl 95 _ rfl ⟨g, kn * 261, none⟩ rfl (rnA r) (unhide HL) _ Try.underlying95 rfl (by rw [size_rnA]; exact info78) ?_
    | refine wpList_store_row0 rfl 95 _ _ rfl rfl (w.heap.size + 1) _ rfl rfl 95 _ (unhide HN1) (by rw [size_rnA]; exact info78) (by rw [zero78, size_rnA, size_rnA]) (rnA_one _) ?_)
  generalize hW : (((w.alloc (Obj.cells #[.int .i64 0, .int .i64 0, .int .i64 0, .int .i64 0, .int .i64 0, .int .i64 0, .int .i64 0, .int .i64 0, .int .i64 0, .int .i64 0, .int .i64 0, .int .i64 0, .int .i64 0, .int .i64 0, .int .i64 0, .int .i64 0, .int .i64 0] 64)).alloc (Obj.cells Try.zeroCells95 95)).setRow (w.heap.size + 1) (rnA r)).alloc (Obj.cells #[.int .i64 0, .int .i64 0, .int .i64 0, .int .i64 0, .int .i64 0, .int .i64 0, .int .i64 0, .int .i64 0, .int .i64 0, .int .i64 0, .int .i64 0, .int .i64 0, .int .i64 0, .int .i64 0, .int .i64 0, .int .i64 0, .int .i64 0] 64) = wr at *
  clear hW HN1 HL c0
  obtain ⟨x0, x1, x2, x3, x4⟩ := (unhide HX0).cells
  rw [hk] at x0
  have HB2 := hide ih2
  have HLB := hide (low_spans (s := bytesN s) (by rw [bytesN_len]; exact hs) B)
  clear ih2
  have HA := hide ih
  have HS := hide hs
  have hsI : (s.size : Int) ≤ 16 := by omega
  have HSB := hide (bytesN_len s)
  have HLA := hide (low_spans (s := bytesN s) (by rw [bytesN_len]; exact hs) A)
  clear ih hs h
  go_wp2_with fail
  refine (unhide HA _ (unhide HRT)).mono ?_
  rintro e w1 ⟨rfl, hw1⟩
  have HX1 := hide ((unhide HX0).next hw1)
  have HX2 := hide ((unhide HX1).put (spansN (bytesN s) A))
  clear x0 x1 x2 x3 x4 hw1 HX0
  obtain ⟨z0, z1, z2, z3, z4⟩ := (unhide HX2).cells
  rw [hk] at z0
  have HRT2 := hide (RtS_below (unhide HB0) (unhide HX2).below)
  go_wp2_with (first
    | refine wpList_store_row0 rfl 64 _ _ rfl rfl (w.heap.size + 2) (spanA (spansN (bytesN s) A)) rfl rfl 64 _ (unhide HX1).b2 (by rw [size_spanA]; exact info63) (by rw [size_spanA, size_spanA]) (spanA_one _) ?_
    | refine wpList_load_row rfl 64 _ rfl (w.heap.size + 2) rfl 64 _ (0, 0) _ (unhide HX2).b2 Try.underlying64 rfl (by rw [size_spanA]; exact info63) ?_)
  refine (unhide HB2 _ (unhide HRT2)).mono ?_
  rintro e w2 ⟨rfl, hw2⟩
  have HX3 := hide ((unhide HX2).next hw2)
  have hX4 := (unhide HX3).alloc (Obj.cells #[.int .i64 0, .int .i64 0, .int .i64 0, .int .i64 0, .int .i64 0, .int .i64 0, .int .i64 0, .int .i64 0, .int .i64 0, .int .i64 0, .int .i64 0, .int .i64 0, .int .i64 0, .int .i64 0, .int .i64 0, .int .i64 0, .int .i64 0] 64)
  have hG : SpB (w2.alloc (Obj.cells #[.int .i64 0, .int .i64 0, .int .i64 0, .int .i64 0, .int .i64 0, .int .i64 0, .int .i64 0, .int .i64 0, .int .i64 0, .int .i64 0, .int .i64 0, .int .i64 0, .int .i64 0, .int .i64 0, .int .i64 0, .int .i64 0, .int .i64 0] 64)) w2.heap.size (fun _ => 0) := SpB.zero (heap_alloc_new _ _)
  have hlt2 := (unhide HX3).lt
  have HX5 : Hid (Sx w ((w2.alloc (Obj.cells #[.int .i64 0, .int .i64 0, .int .i64 0, .int .i64 0, .int .i64 0, .int .i64 0, .int .i64 0, .int .i64 0, .int .i64 0, .int .i64 0, .int .i64 0, .int .i64 0, .int .i64 0, .int .i64 0, .int .i64 0, .int .i64 0, .int .i64 0] 64)).setRow w2.heap.size (spanA (spansN (bytesN s) B))) r (spansN (bytesN s) A)) := ⟨below_setRow hX4.below (by omega) _, hX4.b0.rowOther (by omega) _, (setRow_other _ _ _ _ (by omega)).trans hX4.b1, hX4.b2.rowOther (by omega) _⟩
  have HG := hide hG
  have HG5 := hide (hG.row (spansN (bytesN s) B))
  clear hX4 hG hw2 z0 z1 z2 z3 z4
  go_wp2_with (first
    | refine wpList_store_row0 rfl 64 _ _ rfl rfl (w2.heap.size) (spanA (spansN (bytesN s) B)) rfl rfl 64 _ (unhide HG) (by rw [size_spanA]; exact info63) (by rw [size_spanA, size_spanA]) (spanA_one _) ?_
    | refine wpList_load_row rfl 64 _ rfl (w.heap.size + 2) rfl 64 _ (0, 0) _ (unhide HX5).b2 Try.underlying64 rfl (by rw [size_spanA]; exact info63) ?_
    | refine wpList_load_row rfl 64 _ rfl (w2.heap.size) rfl 64 _ (0, 0) _ (unhide HG5) Try.underlying64 rfl (by rw [size_spanA]; exact info63) ?_)
  refine (either_any _ (spansN (bytesN s) A) (spansN (bytesN s) B) (unhide HLA) (unhide HLB)).mono ?_
  rintro e w3 ⟨rfl, hw3⟩
  have HX6 := hide ((unhide HX5).next hw3)
  go_wp2_with (refine wpList_store_row0 rfl 64 _ _ rfl rfl (w.heap.size) (spanA (eitherN (spansN (bytesN s) A) (spansN (bytesN s) B))) rfl rfl 64 _ (unhide HX6).b0 (by rw [size_spanA]; exact info63) (by rw [size_spanA, size_spanA]) (spanA_one _) ?_)
  exact bodyPost_ret (v := .agg (spanA (eitherN (spansN (bytesN s) A) (spansN (bytesN s) B))))
    (results_cell_row (p := 6) (ty := 64) rfl _ _ w.heap.size 64 _ (0, 0) _ rfl ((unhide HX6).b0.row _) Try.underlying64 rfl (by rw [size_spanA]; exact info63))
    rfl ⟨rfl, below_setRow (unhide HX6).below (Nat.le_refl _) _⟩


theorem spans_any (hl : rs.length ≤ 1000) (hs : s.size ≤ 16) (R : Re) : ∀ k : Int, Dr rs R k → DoesSp rs b s k R := by
  induction R using Re.ind with
  | blank => rintro k ⟨r, h0, h1, h2⟩; exact spans_blank hl hs h0 h1 h2
  | set f => rintro k ⟨r, h0, h1, h2, h3⟩; subst h3; exact spans_one hl hs h0 h1 h2
  | seq A B ihA ihB => rintro k ⟨r, h0, h1, h2, h3, h4⟩; exact spans_seq hl hs h0 h1 h2 (ihA _ h3) (ihB _ h4)
  | alt A B ihA ihB => rintro k ⟨r, h0, h1, h2, h3, h4⟩; exact spans_alt hl hs h0 h1 h2 (ihA _ h3) (ihB _ h4)
  | star A ihA => rintro k ⟨r, h0, h1, h2, h3⟩; exact spans_star hl hs h0 h1 h2 (ihA _ h3)
  | plus A ihA => rintro k ⟨r, h0, h1, h2, h3⟩; exact spans_plus hl hs h0 h1 h2 (ihA _ h3)
  | opt A ihA => rintro k ⟨r, h0, h1, h2, h3⟩; exact spans_opt hl hs h0 h1 h2 (ihA _ h3)
  | times m n A ihA => rintro k ⟨r, h0, h1, h2, h3, h4, h5, h6, h7⟩; exact spans_times hl hs h0 h1 h2 h3 h4 h5 h6 (ihA _ h7)
end

end Go.Proofs.Ytobfpgoepaeknaa
