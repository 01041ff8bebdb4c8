/-
  Parts: repeat.
-/
import Derived.Test.YtobfpgoepaeknaaWe
namespace Go.Proofs.Ytobfpgoepaeknaa
open Go.RowKit
attribute [local go_sem ↓] Go.wp_at_zero Go.wp_at_succ

theorem PartAt.setP {w : World} {v : Value} {fs : List (Nat → Bool)} {p : Part} {b : Nat} (h : PartAt w v fs p) (hb : PartBlk w b) (o : Nat) (u : Value) : PartAt (w.setCell ⟨b, o, none⟩ u) v fs p := by
  obtain ⟨nv, sv, zs, h1, h2, h3, h4⟩ := h
  exact ⟨nv, sv, zs, h1, own_set_ty h2 hb (by decide) _ _, own_set_ty h3 hb (by decide) _ _, h4⟩

/-- Five cells are stored into a block that holds a part. -/
def set5 (w : World) (b : Nat) (u0 u1 u2 u3 u4 : Value) : World :=
  ((((w.setCell ⟨b, 0, none⟩ u0).setCell ⟨b, 1, none⟩ u1).setCell ⟨b, 2, none⟩ u2).setCell ⟨b, 3, none⟩ u3).setCell ⟨b, 4, none⟩ u4
theorem set5_below {w w0 : World} {B b : Nat} {u0 u1 u2 u3 u4 : Value} (h : Below B w0 w) (hb : B ≤ b) : Below B w0 (set5 w b u0 u1 u2 u3 u4) :=
  ((((h.setCell hb _).setCell hb _).setCell hb _).setCell hb _).setCell hb _
theorem set5_part {w : World} {v : Value} {fs : List (Nat → Bool)} {p : Part} {b : Nat} {u0 u1 u2 u3 u4 : Value} (h : PartAt w v fs p) (hb : PartBlk w b) : PartAt (set5 w b u0 u1 u2 u3 u4) v fs p :=
  ((((h.setP hb _ _).setP (hb.set _ _ _) _ _).setP ((hb.set _ _ _).set _ _ _) _ _).setP (((hb.set _ _ _).set _ _ _).set _ _ _) _ _).setP ((((hb.set _ _ _).set _ _ _).set _ _ _).set _ _ _) _ _
theorem set5_same {w : World} {b : Nat} {c0 c1 c2 c3 c4 u0 u1 u2 u3 u4 : Value} (h : w.heap[b]? = some (.cells #[c0, c1, c2, c3, c4] 80 (0, 0))) : (set5 w b u0 u1 u2 u3 u4).heap[b]? = some (.cells #[u0, u1, u2, u3, u4] 80 (0, 0)) := by
  simp [set5, World.setCell, Array.getElem?_modify, h]
theorem set5_other {w : World} {b c : Nat} {u0 u1 u2 u3 u4 : Value} (h : c ≠ b) : (set5 w b u0 u1 u2 u3 u4).heap[c]? = w.heap[c]? := by
  unfold set5
  rw [Below.heap_setCell _ _ _ _ (by simpa using h), Below.heap_setCell _ _ _ _ (by simpa using h), Below.heap_setCell _ _ _ _ (by simpa using h), Below.heap_setCell _ _ _ _ (by simpa using h), Below.heap_setCell _ _ _ _ (by simpa using h)]

/-- In the midst of repeat. -/
structure Rp (w wr : World) (A : Array Value) (c0 c1 c2 c3 c4 : Value) : Prop where
  below : Below w.heap.size w wr
  b0 : wr.heap[w.heap.size]? = some (.cells A 80 (0, 0))
  b1 : wr.heap[w.heap.size + 1]? = some (.cells zeroPart 80 (0, 0))
  b2 : wr.heap[w.heap.size + 1 + 1]? = some (.cells #[c0, c1, c2, c3, c4] 80 (0, 0))
theorem Rp.next {w wr w1 : World} {A : Array Value} {c0 c1 c2 c3 c4 : Value} (k : Rp w wr A c0 c1 c2 c3 c4) (hb : Below wr.heap.size wr w1) : Rp w w1 A c0 c1 c2 c3 c4 := by
  have l2 := (Array.getElem?_eq_some_iff.1 k.b2).1
  exact ⟨k.below.trans (hb.mono k.below.size), (hb.block _ (by omega)).trans k.b0, (hb.block _ (by omega)).trans k.b1, (hb.block _ (by omega)).trans k.b2⟩
theorem Rp.drew {w wr : World} {A : Array Value} {c0 c1 c2 c3 c4 : Value} (k : Rp w wr A c0 c1 c2 c3 c4) : Rp w wr.drew A c0 c1 c2 c3 c4 := ⟨k.below.drew, k.b0, k.b1, k.b2⟩
theorem Rp.put {w wr : World} {A : Array Value} {c0 c1 c2 c3 c4 : Value} (k : Rp w wr A c0 c1 c2 c3 c4) (u0 u1 u2 u3 u4 : Value) : Rp w (set5 wr (w.heap.size + 1 + 1) u0 u1 u2 u3 u4) A u0 u1 u2 u3 u4 :=
  ⟨set5_below k.below (by omega), (set5_other (by omega)).trans k.b0, (set5_other (by omega)).trans k.b1, set5_same k.b2⟩
theorem PartAt.drew {w : World} {v : Value} {fs : List (Nat → Bool)} {p : Part} (h : PartAt w v fs p) : PartAt w.drew v fs p := h

set_option maxHeartbeats 2000000 in
theorem repeat_any (w : World) (va : Value) (fs : List (Nat → Bool)) (a : Part) (low high : Nat) (ha : PartAt w va fs a) (oa : a.Ok) (hh : high ≤ 9) (hlo : low ≤ 9) (hl : a.next.length * high ≤ 50) :
    Calls Try.prog 81 #[va, .int .i64 (low : Int), .int .i64 (high : Int)] w fun e w' => ∃ v, e = .returned v ∧ PartAt w' v fs (repeatN a low high) ∧ Below w.heap.size w w' := by
  have HA := hide ha
  obtain ⟨anv, asv, az, rfl, a2, a3, a4⟩ := ha
  obtain ⟨ana, anc, rfl⟩ := a2.form
  obtain ⟨asa, asc, rfl⟩ := a3.form
  have HOA := hide oa
  have hmul : ∀ k, k < high → a.next.length * k + a.next.length ≤ 50 := fun k hk => by
    have : a.next.length * (k + 1) ≤ a.next.length * high := Nat.mul_le_mul_left _ hk
    rw [Nat.mul_succ] at this; omega
  have HMU := hide hmul
  have hhI : (high : Int) ≤ 9 := by omega
  have hloI : (low : Int) ≤ 9 := by omega
  clear a2 a3 a4 oa hl hh hlo hmul
  have t3 := three_blocks w (Obj.cells (partA a (.slice ana a.next.length anc) (.slice asa az.length asc)) 80) (Obj.cells zeroPart 80) (Obj.cells #[.bool true, .int .i64 0, .int .i64 0, .slice none 0 0, .slice none 0 0] 80)
  have hR0 : Rp w (((w.alloc (Obj.cells (partA a (.slice ana a.next.length anc) (.slice asa az.length asc)) 80)).alloc (Obj.cells zeroPart 80)).alloc (Obj.cells #[.bool true, .int .i64 0, .int .i64 0, .slice none 0 0, .slice none 0 0] 80)) (partA a (.slice ana a.next.length anc) (.slice asa az.length asc)) (.bool true) (.int .i64 0) (.int .i64 0) (.slice none 0 0) (.slice none 0 0) :=
    ⟨three_below _ _ _ _, t3.1, t3.2.1, t3.2.2⟩
  have HR0 := hide hR0
  clear t3 hR0
  go_enter Try.func81, Try.ntmps81
  go_wp2
  go_loopw [8] (fun ix wr => ∃ (k : Nat) (c0 : Bool) (c1 c2 : Nat) (n1 n2 : Option Addr) (m1 m2 p1 p2 : Nat), ix = .int .i64 (k : Nat) ∧ k ≤ high ∧ Hid (Rp w wr (partA a (.slice ana a.next.length anc) (.slice asa az.length asc)) (.bool c0) (.int .i64 (c1 : Int)) (.int .i64 (c2 : Int)) (.slice n1 m1 p1) (.slice n2 m2 p2) ∧ PartAt wr (.agg #[.bool c0, .int .i64 (c1 : Int), .int .i64 (c2 : Int), .slice n1 m1 p1, .slice n2 m2 p2]) fs (repeatN a low k))) (fun ix _ => high - (intOf ix).toNat)
  case atStart =>
    refine ⟨0, true, 0, 0, none, none, 0, 0, 0, 0, rfl, Nat.zero_le _, unhide HR0, ?_⟩
    exact ⟨_, _, [], rfl, World.ownsRow_nil _ _ _ _, World.ownsRow_nil _ _ _ _, rfl⟩
  case round =>
    rename World => wr
    obtain ⟨k, c0, c1, c2, n1, n2, m1, m2, p1, p2, rfl, hk, HH⟩ := hrel
    obtain ⟨x0, x1, x2, x3, x4⟩ := part_cells (unhide HH).1.b0
    obtain ⟨y0, y1, y2, y3, y4⟩ := part_cells (unhide HH).1.b2
    obtain ⟨z0, z1, z2, z3, z4⟩ := part_free (unhide HH).1.b2
    by_cases hlt : k < high
    · have hlt' : (k : Int) < (high : Int) := by omega
      have HRK := hide (repeatN_ok (unhide HOA) low k)
      have HLK := hide (show (repeatN a low k).next.length + a.next.length ≤ 50 by rw [repeatN_len]; exact unhide HMU k hlt)
      by_cases hkl : k < low
      · have hkl' : (k : Int) < (low : Int) := by omega
        have HC := hide (behind_any wr _ _ fs _ _ (unhide HH).2 ((unhide HA).below (unhide HH).1.below) (unhide HRK) (unhide HOA) (unhide HLK))
        have HSN : Hid (behindN (repeatN a low k) a = repeatN a low (k + 1)) := by show _ = _; rw [repeatN, if_pos hkl]
        clear hlt hkl
        go_wp2_with fail
        refine (unhide HC).mono ?_
        rintro e w3 ⟨v, rfl, hv, hw3⟩
        rw [unhide HSN] at hv
        obtain ⟨nv, sv, zs, rfl, v2, v3, v4⟩ := id hv
        obtain ⟨va1, vc1, rfl⟩ := v2.form
        obtain ⟨va2, vc2, rfl⟩ := v3.form
        have hr3 := (unhide HH).1.next hw3
        obtain ⟨y0', y1', y2', y3', y4'⟩ := part_cells hr3.b2
        obtain ⟨z0', z1', z2', z3', z4'⟩ := part_free hr3.b2
        have HR3 := hide hr3
        have HV := hide hv
        clear v2 v3 v4 hv hr3 hw3 HC
        go_wp2
        go_roundw
        case rel =>
          exact ⟨k + 1, _, _, _, _, _, _, _, _, _, by go_num, by omega, (unhide HR3).put _ _ _ _ _, set5_part (unhide HV) ⟨_, _, (unhide HR3).b2⟩⟩
        case measure => simp [intOf]; omega
      · have hkl' : (low : Int) ≤ (k : Int) := by omega
        have HC := hide (orEmpty_any wr.drew _ fs a ((unhide HA).below (unhide HH).1.below).drew)
        have HSN : Hid (behindN (repeatN a low k) (orEmptyN a) = repeatN a low (k + 1)) := by show _ = _; rw [repeatN, if_neg hkl]
        clear hlt hkl
        go_wp2
        go_region_with ((first
          | (go_at_call 61; refine (unhide HC).mono ?_; rintro e w2 ⟨v, rfl, hv, hw2⟩; have hr2 := (unhide HH).1.drew.next hw2; obtain ⟨y0', y1', y2', y3', y4'⟩ := part_cells hr2.b2; have HD := hide (behind_any w2 _ _ fs _ _ ((unhide HH).2.drew.below hw2) hv (unhide HRK) (orEmptyN_ok (unhide HOA)) (unhide HLK)); have HR2 := hide hr2; obtain ⟨nv, sv, zs, rfl, v2, v3, v4⟩ := id hv; obtain ⟨va1, vc1, rfl⟩ := v2.form; obtain ⟨va2, vc2, rfl⟩ := v3.form; clear hv hr2 hw2 v2 v3 v4)
          | (go_at_call 39; refine (unhide HD).mono ?_; rintro e w3 ⟨v', rfl, hv, hw3⟩; rw [unhide HSN] at hv; have hr3 := (unhide HR2).next hw3; obtain ⟨y0'', y1'', y2'', y3'', y4''⟩ := part_cells hr3.b2; obtain ⟨z0'', z1'', z2'', z3'', z4''⟩ := part_free hr3.b2; obtain ⟨nv', sv', zs', rfl, v2', v3', v4'⟩ := id hv; obtain ⟨va3, vc3, rfl⟩ := v2'.form; obtain ⟨va4, vc4, rfl⟩ := v3'.form; have HR3 := hide hr3; have HV := hide hv; clear hv hr3 hw3 v2' v3' v4')))
        all_goals
          go_wp2
          go_roundw
          case rel =>
            exact ⟨k + 1, _, _, _, _, _, _, _, _, _, by go_num, by omega, (unhide HR3).put _ _ _ _ _, set5_part (unhide HV) ⟨_, _, (unhide HR3).b2⟩⟩
          case measure => simp [intOf]; omega
    · have hk2 : k = high := by omega
      subst hk2
      obtain ⟨q0, q1, q2, q3, q4⟩ := part_cells (unhide HH).1.b1
      obtain ⟨r0, r1, r2, r3, r4⟩ := part_free (unhide HH).1.b1
      go_wp2
      refine bodyPost_ret (v := .agg #[.bool c0, .int .i64 (c1 : Int), .int .i64 (c2 : Int), .slice n1 m1 p1, .slice n2 m2 p2]) (by simp [results, Try.results81, go_sem, *]) rfl ?_
      exact ⟨_, rfl, set5_part (unhide HH).2 ⟨_, _, (unhide HH).1.b1⟩, set5_below (unhide HH).1.below (by omega)⟩

end Go.Proofs.Ytobfpgoepaeknaa
