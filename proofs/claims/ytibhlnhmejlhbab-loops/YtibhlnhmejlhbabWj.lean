/-
  The automaton: step.
-/
import Derived.Test.YtibhlnhmejlhbabWi
namespace Go.Proofs.Ytibhlnhmejlhbab
open Go.RowKit
attribute [local go_sem ↓] Go.wp_at_zero Go.wp_at_succ

/-- An automaton in memory. -/
def AutAt (w : World) (v : Value) (p : Part) : Prop := ∃ nv sv, v = .agg #[nv, sv, .int .i64 (p.last : Int)] ∧ NRow w 0 nv p.next ∧ FsRow w 0 sv p.sets
theorem AutAt.below {w w' : World} {v : Value} {p : Part} (h : AutAt w v p) (hb : Below w.heap.size w w') : AutAt w' v p := by
  obtain ⟨nv, sv, h1, h2, h3⟩ := h
  exact ⟨nv, sv, h1, h2.below hb, h3.below hb⟩

structure Au (w wr : World) (A : Array Value) : Prop where
  below : Below w.heap.size w wr
  b0 : wr.heap[w.heap.size]? = some (.cells A 42 (0, 0))
theorem Au.start (w : World) (A : Array Value) : Au w (w.alloc (.cells A 42)) A := ⟨(Below.refl _ _).alloc (Nat.le_refl _) _, heap_alloc_new w _⟩
theorem Au.next {w wr w1 : World} {A : Array Value} (k : Au w wr A) (hb : Below wr.heap.size wr w1) : Au w w1 A := by
  have l2 := (Array.getElem?_eq_some_iff.1 k.b0).1
  exact ⟨k.below.trans (hb.mono k.below.size), (hb.block _ l2).trans k.b0⟩
theorem Au.cells {w wr : World} {v0 v1 v2 : Value} (k : Au w wr #[v0, v1, v2]) : wr.cell? ⟨w.heap.size, 0, none⟩ = some v0 ∧ wr.cell? ⟨w.heap.size, 1, none⟩ = some v1 ∧ wr.cell? ⟨w.heap.size, 2, none⟩ = some v2 :=
  ⟨by rw [cell_of_row _ _ _ _ _ _ k.b0]; rfl, by rw [cell_of_row _ _ _ _ _ _ k.b0]; rfl, by rw [cell_of_row _ _ _ _ _ _ k.b0]; rfl⟩

theorem FsRow.at {w : World} {B : Nat} {v : Value} {fs : List (Nat → Bool)} (h : FsRow w B v fs) {k b : Nat} (hk : k < fs.length) (hb : b < 256) : ∃ g cap, v = .slice (some ⟨g, 0, none⟩) fs.length cap ∧ w.cell? ⟨g, k * 256 + b, none⟩ = some (.bool (setAtN fs k b)) := by
  obtain ⟨m, hm⟩ : ∃ m, fs.length = m + 1 := ⟨fs.length - 1, by omega⟩
  obtain ⟨g, cap, rfl⟩ : ∃ g cap, v = .slice (some ⟨g, 0, none⟩) fs.length cap := by
    have h' : w.ownsRow B 56 256 v fs.length (setsCells fs) := h
    rw [hm] at h' ⊢; exact own_form h'
  refine ⟨g, cap, rfl, ?_⟩
  have := set_cells h k fs[k] (List.getElem?_eq_getElem hk) b (.bool (fs[k] b)) (by rw [Array.getElem?_toList, get_setA _ _ hb])
  have hadd : (⟨g, k * 256, none⟩ : Addr).add b = ⟨g, k * 256 + b, none⟩ := by unfold Addr.add; split <;> simp_all
  rw [hadd] at this
  rw [this]
  unfold setAtN
  rw [List.getD_eq_getElem?_getD, List.getElem?_eq_getElem hk]; rfl

set_option maxHeartbeats 1000000 in
theorem step_any (w : World) (v : Value) (p : Part) (x b : Nat) (h : AutAt w v p) (hp : p.Ok) (hl : p.next.length ≤ 50) (hx : x < top) (hb : b < 256) :
    Calls Try.prog 22 #[v, .int .i64 (x : Int), .int .u8 (b : Int)] w fun e w' => e = .returned (.int .i64 ((stepN p x b : Nat) : Int)) ∧ Below w.heap.size w w' := by
  obtain ⟨nv, sv, rfl, h2, h3⟩ := h
  obtain ⟨na, nc, rfl⟩ := h2.form
  obtain ⟨sa, sc, rfl⟩ := h3.form
  have H2 := hide h2
  have H3 := hide h3
  have hls : p.sets.length ≤ 50 := by rw [hp.1]; exact hl
  have hs := hp.small hl
  have HX := hide hx
  have HN := hide hs.2.2.2
  have HR := hide (fun k => reachN_lt (next := p.next) hp.2.2.2 x k)
  have HL := hide hl
  have HLS := hide hls
  have hlI : (p.next.length : Int) ≤ 50 := by omega
  have hlsI : (p.sets.length : Int) ≤ 50 := by omega
  have hbI : (b : Int) < 256 := by omega
  have HBB := hide hb
  have HTOP : Hid (2 ^ p.next.length ≤ top) := Nat.pow_le_pow_right (n := 2) (by omega) (show p.next.length ≤ 60 by omega)
  have HST : Hid (stepN p x b = ledN p.sets (reachN p.next x p.next.length) b p.sets.length) := rfl
  have HA0 := hide (Au.start w #[.slice na p.next.length nc, .slice sa p.sets.length sc, .int .i64 (p.last : Int)])
  clear h2 h3 hs hp hl hls hx hb
  go_enter Try.func22, Try.ntmps22
  go_wp2
  go_loopw [7, 8] (fun rx ix wr => ∃ k r : Nat, ix = .int .i64 (k : Int) ∧ rx = .int .i64 (r : Int) ∧ k ≤ p.next.length ∧ Hid (r = reachN p.next x k ∧ Au w wr #[.slice na p.next.length nc, .slice sa p.sets.length sc, .int .i64 (p.last : Int)])) (fun _ ix _ => p.next.length - (intOf ix).toNat)
  case atStart => exact ⟨0, 0, rfl, rfl, Nat.zero_le _, rfl, unhide HA0⟩
  case round =>
    rename World => wr
    obtain ⟨k, r, rfl, rfl, hk, HH⟩ := hrel
    obtain ⟨y0, y1, y2⟩ := (unhide HH).2.cells
    by_cases hlt : k < p.next.length
    · obtain ⟨g, cap, he, hc⟩ := ((unhide H2).below (unhide HH).2.below).at hlt
      simp only [Value.slice.injEq, true_and] at he
      obtain ⟨rfl, rfl⟩ := he
      have hlt' : (k : Int) < (p.next.length : Int) := by omega
      have hcall := has_any x k wr (by have := unhide HL; omega) (unhide HX)
      have hn : p.next.getD k 0 < top := by rw [List.getD_eq_getElem?_getD, List.getElem?_eq_getElem hlt]; exact unhide HN _ (List.getElem_mem _)
      have hr : r < top := by rw [(unhide HH).1]; exact Nat.lt_of_lt_of_le (unhide HR k) (unhide HTOP)
      have HE := hide (i64_or_nat r (p.next.getD k 0) hr hn)
      have HSN : Hid (reachN p.next x (k + 1) = if x.testBit k then reachN p.next x k ||| p.next.getD k 0 else reachN p.next x k) := rfl
      clear hn hr
      generalize p.next.getD k 0 = y at *
      by_cases ht : x.testBit k = true
      · rw [ht] at hcall
        have HC := hide hcall
        have HT := hide ht
        clear hcall hlt ht
        go_wp2_with (go_at_call 33; refine (unhide HC).mono ?_; rintro e w' ⟨rfl, rfl⟩)
        go_roundw
        case rel =>
          refine ⟨k + 1, r ||| y, by go_num, ?_, by omega, ?_, (unhide HH).2⟩
          · first | rfl | rw [unhide HE]
          · rw [unhide HSN, if_pos (unhide HT), (unhide HH).1]
        case measure => simp [intOf]; omega
      · have ht' : x.testBit k = false := by simpa using ht
        rw [ht'] at hcall
        have HC := hide hcall
        have HT := hide ht
        clear hcall hlt ht ht'
        go_wp2_with (go_at_call 33; refine (unhide HC).mono ?_; rintro e w' ⟨rfl, rfl⟩)
        go_roundw
        case rel =>
          refine ⟨k + 1, r, by go_num, rfl, by omega, ?_, (unhide HH).2⟩
          rw [unhide HSN, if_neg (unhide HT), (unhide HH).1]
        case measure => simp [intOf]; omega
    · have hk2 : k = p.next.length := by omega
      subst hk2
      have hrr := (unhide HH).1
      have hr : r < top := by rw [hrr]; exact Nat.lt_of_lt_of_le (unhide HR _) (unhide HTOP)
      have HRT := hide hr
      have HST2 : Hid (stepN p x b = ledN p.sets r b p.sets.length) := by rw [hrr]; exact unhide HST
      have HAU := hide (unhide HH).2
      clear hrr hr HH HST
      go_wp2
      go_loopw [9, 10] (fun lx ix wr => ∃ k l : Nat, ix = .int .i64 (k : Int) ∧ lx = .int .i64 (l : Int) ∧ k ≤ p.sets.length ∧ Hid (l = ledN p.sets r b k ∧ Au w wr #[.slice na p.next.length nc, .slice sa p.sets.length sc, .int .i64 (p.last : Int)])) (fun _ ix _ => p.sets.length - (intOf ix).toNat)
      case atStart => exact ⟨0, 0, rfl, rfl, Nat.zero_le _, rfl, unhide HAU⟩
      case round =>
        rename World => w4
        obtain ⟨k, l, rfl, rfl, hk, HH⟩ := hrel
        clear y0 y1 y2 HAU
        obtain ⟨y0, y1, y2⟩ := (unhide HH).2.cells
        by_cases hlt : k < p.sets.length
        · obtain ⟨g, cap, he, hc⟩ := ((unhide H3).below (unhide HH).2.below).at hlt (unhide HBB)
          simp only [Value.slice.injEq, true_and] at he
          obtain ⟨rfl, rfl⟩ := he
          have hlt' : (k : Int) < (p.sets.length : Int) := by omega
          have hcall := has_any r k w4 (by have := unhide HLS; omega) (unhide HRT)
          have hm := move_any 1 k w4 (by have := unhide HLS; omega) (by rw [Nat.one_mul]; exact pow_top (by have := unhide HLS; omega))
          rw [Nat.one_mul] at hm
          have HM := hide hm
          have hl0 : l < top := by rw [(unhide HH).1]; exact Nat.lt_trans (ledN_lt _ _ _ _) (pow_top (by have := unhide HLS; omega))
          have HE := hide (i64_or_nat l (2 ^ k) hl0 (pow_top (by have := unhide HLS; omega)))
          have HSN : Hid (ledN p.sets r b (k + 1) = if r.testBit k && setAtN p.sets k b then ledN p.sets r b k ||| 2 ^ k else ledN p.sets r b k) := rfl
          clear hm hl0
          generalize hy : 2 ^ k = y at *
          have HY := hide hy
          generalize hq : setAtN p.sets k b = q at *
          have HQ := hide hq
          clear hy hq
          by_cases ht : r.testBit k = true
          · rw [ht] at hcall
            have HC := hide hcall
            have HT := hide ht
            clear hcall hlt ht
            cases q
            · go_wp2_with (go_at_call 33; refine (unhide HC).mono ?_; rintro e w' ⟨rfl, rfl⟩)
              go_roundw
              case rel =>
                refine ⟨k + 1, l, by go_num, rfl, by omega, ?_, (unhide HH).2⟩
                rw [unhide HSN, if_neg (by simp), (unhide HH).1]
              case measure => simp [intOf]; omega
            · go_wp2_with (first
                | (go_at_call 33; refine (unhide HC).mono ?_; rintro e w' ⟨rfl, rfl⟩)
                | (go_at_call 32; refine (unhide HM).mono ?_; rintro e w' ⟨rfl, rfl⟩))
              go_roundw
              case rel =>
                refine ⟨k + 1, l ||| y, by go_num, ?_, by omega, ?_, (unhide HH).2⟩
                · first | rfl | rw [unhide HE]
                · rw [unhide HSN, if_pos (by rw [unhide HT]; rfl), (unhide HH).1]
              case measure => simp [intOf]; omega
          · have ht' : r.testBit k = false := by simpa using ht
            rw [ht'] at hcall
            have HC := hide hcall
            have HT := hide ht'
            clear hcall hlt ht ht'
            go_wp2_with (go_at_call 33; refine (unhide HC).mono ?_; rintro e w' ⟨rfl, rfl⟩)
            go_roundw
            case rel =>
              refine ⟨k + 1, l, by go_num, rfl, by omega, ?_, (unhide HH).2⟩
              rw [unhide HSN, if_neg (by rw [unhide HT]; simp), (unhide HH).1]
            case measure => simp [intOf]; omega
        · have hk2 : k = p.sets.length := by omega
          subst hk2
          go_wp2
          go_ret
          exact ⟨ret_int (by rw [unhide HST2, (unhide HH).1]), (unhide HH).2.below⟩

end Go.Proofs.Ytibhlnhmejlhbab
