/-
  Parts: partOf.
-/
import Derived.Test.YtobfpgoepaeknaaWg
namespace Go.Proofs.Ytobfpgoepaeknaa
open Go.RowKit

/-- In the midst of partOf. -/
structure Po (w wr : World) (T : Array Value) (n : Nd) : Prop where
  below : Below w.heap.size w wr
  b0 : wr.heap[w.heap.size]? = some (.cells T 50 (0, 0))
  b1 : wr.heap[w.heap.size + 1]? = some (.cells zeroPart 80 (0, 0))
  b2 : wr.heap[w.heap.size + 1 + 1]? = some (.cells (ndA n) 109 (0, 0))
theorem Po.start (w : World) (T : Array Value) (n : Nd) : Po w (((w.alloc (.cells T 50)).alloc (.cells zeroPart 80)).alloc (.cells (ndA n) 109)) T n :=
  ⟨three_below _ _ _ _, (three_blocks _ _ _ _).1, (three_blocks _ _ _ _).2.1, (three_blocks _ _ _ _).2.2⟩
theorem Po.next {w wr w1 : World} {T : Array Value} {n : Nd} (k : Po w wr T n) (hb : Below wr.heap.size wr w1) : Po w w1 T n := by
  have l2 := (Array.getElem?_eq_some_iff.1 k.b2).1
  exact ⟨k.below.trans (hb.mono k.below.size), (hb.block _ (by omega)).trans k.b0, (hb.block _ (by omega)).trans k.b1, (hb.block _ (by omega)).trans k.b2⟩
theorem Po.alloc {w wr : World} {T : Array Value} {n : Nd} (k : Po w wr T n) (o : Obj) : Po w (wr.alloc o) T n := k.next ((Below.refl _ _).alloc (Nat.le_refl _) _)
theorem Po.lt {w wr : World} {T : Array Value} {n : Nd} (k : Po w wr T n) : w.heap.size + 1 + 1 < wr.heap.size := (Array.getElem?_eq_some_iff.1 k.b2).1

/-- The node's cells, seen from partOf. -/
theorem node_at {w : World} {g cap : Nat} {ns : List Nd} (hn : NdRow w (.slice (some ⟨g, 0, none⟩) ns.length cap) ns) {i : Int} {n : Nd} (h0 : 0 ≤ i) (h : ns[i.toNat]? = some n) (hl : ns.length ≤ 1000) :
    ∃ k : Nat, i = (k : Int) ∧ (k : Int) < (ns.length : Int) ∧ (ns.length : Int) ≤ 1000 ∧ g < w.heap.size ∧
    w.cell? ⟨g, k * 6, none⟩ = some (.int .i64 n.kind) ∧ w.cell? ⟨g, k * 6 + 1, none⟩ = some (.int .i64 n.left) ∧ w.cell? ⟨g, k * 6 + 2, none⟩ = some (.int .i64 n.right) ∧
    w.cell? ⟨g, k * 6 + 3, none⟩ = some (.int .i64 n.low) ∧ w.cell? ⟨g, k * 6 + 4, none⟩ = some (.int .i64 n.high) ∧ w.cell? ⟨g, k * 6 + 5, none⟩ = some (.int .i64 n.set) := by
  obtain ⟨k, rfl⟩ := Int.eq_ofNat_of_zero_le h0
  rw [Int.toNat_natCast] at h
  have hk := (List.getElem?_eq_some_iff.1 h).1
  exact ⟨k, rfl, by omega, by omega, (World.ownsRow.lt hn g rfl).2, node_cells hn k n h⟩

section
variable {ns : List Nd} {fs : List (Nat → Bool)} {g cap sn sc : Nat} {sa : Option Addr}

set_option maxHeartbeats 400000 in
theorem partOf_blank {i : Int} {n : Nd} (hl : ns.length ≤ 1000) (h0 : 0 ≤ i) (h : ns[i.toNat]? = some n) (hk : n.kind = 0) :
    DoesP ns fs (.slice (some ⟨g, 0, none⟩) ns.length cap) (.slice sa sn sc) i emptyN := by
  intro w hn
  obtain ⟨k, rfl, h1, h2, h3, x0, x1, x2, x3, x4, x5⟩ := node_at hn h0 h hl
  rw [hk] at x0
  clear hn h h0 hl hk
  go_enter Try.func38, Try.ntmps38
  go_wp2
  refine bodyPost_ret (v := .agg #[.bool true, .int .i64 0, .int .i64 0, .slice none 0 0, .slice none 0 0]) (by simp [results, Try.results38, go_sem]) rfl ?_
  exact ⟨_, rfl, empty_at _ _, by exact three_below _ _ _ _⟩

set_option maxHeartbeats 400000 in
theorem partOf_one {i : Int} {n : Nd} {f : Nat → Bool} (hl : ns.length ≤ 1000) (h0 : 0 ≤ i) (h : ns[i.toNat]? = some n) (hk : n.kind = 1) (hs : 0 ≤ n.set) (hf : fs[n.set.toNat]? = some f) :
    DoesP ns fs (.slice (some ⟨g, 0, none⟩) ns.length cap) (.slice sa sn sc) i (oneN f) := by
  intro w hn
  obtain ⟨k, rfl, h1, h2, h3, x0, x1, x2, x3, x4, x5⟩ := node_at hn h0 h hl
  have HN := hide hn
  have HP0 := hide (Po.start w #[.slice (some ⟨g, 0, none⟩) ns.length cap, .slice sa sn sc] n)
  unfold ndA at HP0
  rw [hk] at x0 HP0
  have HO := hide (fun w => onePart_any w n.set fs f (by unfold setOf; rw [if_pos hs, hf]; rfl))
  clear hn h h0 hl hs hf HN hk
  go_enter Try.func38, Try.ntmps38
  go_wp2_with fail
  refine (unhide HO _).mono ?_
  rintro e w1 ⟨v1, rfl, hv1, hw1⟩
  have HV1 := hide hv1
  have HP1 := hide ((unhide HP0).next hw1)
  obtain ⟨nv1, sv1, zs1, rfl, v2, v3, v4⟩ := id hv1
  obtain ⟨na1, nc1, rfl⟩ := v2.form
  obtain ⟨sa1, sc1, rfl⟩ := v3.form
  clear v2 v3 v4 hv1 hw1
  obtain ⟨q0, q1, q2, q3, q4⟩ := part_cells (unhide HP1).b1
  obtain ⟨r0, r1, r2, r3, r4⟩ := part_free (unhide HP1).b1
  go_wp2
  refine bodyPost_ret (v := .agg #[.bool (oneN f).empty, .int .i64 ((oneN f).first : Int), .int .i64 ((oneN f).last : Int), .slice na1 (oneN f).next.length nc1, .slice sa1 zs1.length sc1]) (by simp [results, Try.results38, go_sem, *]) rfl ?_
  exact ⟨_, rfl, set5_part (unhide HV1) ⟨_, _, (unhide HP1).b1⟩, set5_below (unhide HP1).below (by omega)⟩

set_option maxHeartbeats 400000 in
theorem partOf_times {i : Int} {n : Nd} {p : Part} (hl : ns.length ≤ 1000) (h0 : 0 ≤ i) (h : ns[i.toNat]? = some n) (hk : n.kind = 7)
    (ht : ∀ w, NdRow w (.slice (some ⟨g, 0, none⟩) ns.length cap) ns → Calls Try.prog 59 #[.agg #[.slice (some ⟨g, 0, none⟩) ns.length cap, .slice sa sn sc], .agg (ndA n)] w fun e w' => ∃ v, e = .returned v ∧ PartAt w' v fs p ∧ Below w.heap.size w w') :
    DoesP ns fs (.slice (some ⟨g, 0, none⟩) ns.length cap) (.slice sa sn sc) i p := by
  intro w hn
  obtain ⟨k, rfl, h1, h2, h3, x0, x1, x2, x3, x4, x5⟩ := node_at hn h0 h hl
  have HN := hide hn
  have HP0 := hide (Po.start w #[.slice (some ⟨g, 0, none⟩) ns.length cap, .slice sa sn sc] n)
  unfold ndA at HP0
  rw [hk] at x0 HP0
  have HO := hide ht
  unfold ndA at HO
  rw [hk] at HO
  clear hn h h0 hl ht hk
  go_enter Try.func38, Try.ntmps38
  go_wp2_with fail
  refine (unhide HO _ ((unhide HN).below (by exact three_below _ _ _ _))).mono ?_
  rintro e w1 ⟨v1, rfl, hv1, hw1⟩
  have HV1 := hide hv1
  have HP1 := hide ((unhide HP0).next hw1)
  obtain ⟨nv1, sv1, zs1, rfl, v2, v3, v4⟩ := id hv1
  obtain ⟨na1, nc1, rfl⟩ := v2.form
  obtain ⟨sa1, sc1, rfl⟩ := v3.form
  clear v2 v3 v4 hv1 hw1
  obtain ⟨q0, q1, q2, q3, q4⟩ := part_cells (unhide HP1).b1
  obtain ⟨r0, r1, r2, r3, r4⟩ := part_free (unhide HP1).b1
  go_wp2
  refine bodyPost_ret (v := .agg #[.bool (p).empty, .int .i64 ((p).first : Int), .int .i64 ((p).last : Int), .slice na1 (p).next.length nc1, .slice sa1 zs1.length sc1]) (by simp [results, Try.results38, go_sem, *]) rfl ?_
  exact ⟨_, rfl, set5_part (unhide HV1) ⟨_, _, (unhide HP1).b1⟩, set5_below (unhide HP1).below (by omega)⟩

set_option maxHeartbeats 400000 in
theorem partOf_star {i : Int} {n : Nd} {p : Part} (hl : ns.length ≤ 1000) (h0 : 0 ≤ i) (h : ns[i.toNat]? = some n) (hk : n.kind = 4) (hp : p.Small)
    (ih : DoesP ns fs (.slice (some ⟨g, 0, none⟩) ns.length cap) (.slice sa sn sc) n.left p) :
    DoesP ns fs (.slice (some ⟨g, 0, none⟩) ns.length cap) (.slice sa sn sc) i (orEmptyN (againN p)) := by
  have hk' := hk
  intro w hn
  obtain ⟨k, rfl, h1, h2, h3, x0, x1, x2, x3, x4, x5⟩ := node_at hn h0 h hl
  have HN := hide hn
  have HP0 := hide (Po.start w #[.slice (some ⟨g, 0, none⟩) ns.length cap, .slice sa sn sc] n)
  unfold ndA at HP0
  rw [hk] at x0 HP0
  have HS := hide hp
  clear hp
  have HO := hide ih
  clear hn h h0 hl ih hk
  go_enter Try.func38, Try.ntmps38
  go_wp2_with fail
  refine (unhide HO _ ((unhide HN).below (by exact three_below _ _ _ _))).mono ?_
  rintro e w1 ⟨v1, rfl, hv1, hw1⟩
  have HV1 := hide hv1
  have HP1 := hide ((unhide HP0).next hw1)
  obtain ⟨nv1, sv1, zs1, rfl, v2, v3, v4⟩ := id hv1
  obtain ⟨na1, nc1, rfl⟩ := v2.form
  obtain ⟨sa1, sc1, rfl⟩ := v3.form
  have hl1 := (unhide HP1).lt
  have hl0 : w.heap.size + 1 < w1.heap.size := by omega
  have hl2 : w.heap.size < w1.heap.size := by omega
  have d0 := cell_of_row _ _ 0 _ _ _ (unhide HP1).b2
  have d2 := cell_of_row _ _ 2 _ _ _ (unhide HP1).b2
  have t0 := cell_of_row _ _ 0 _ _ _ (unhide HP1).b0
  have t1 := cell_of_row _ _ 1 _ _ _ (unhide HP1).b0
  simp only [ndA, List.getElem?_toArray, List.getElem?_cons_zero, List.getElem?_cons_succ, hk'] at d0 d2 t0 t1
  clear v2 v3 v4 hv1 hw1
  clear hk'
  have HA1 := hide ((unhide HV1).below ((Below.refl _ _).alloc (Nat.le_refl _) (Obj.cells #[.bool p.empty, .int .i64 (p.first : Int), .int .i64 (p.last : Int), .slice na1 p.next.length nc1, .slice sa1 zs1.length sc1] 80)))
  have HP1a := hide ((unhide HP1).alloc (Obj.cells #[.bool p.empty, .int .i64 (p.first : Int), .int .i64 (p.last : Int), .slice na1 p.next.length nc1, .slice sa1 zs1.length sc1] 80))
  go_wp2_with fail
  refine (again_any _ _ fs _ (unhide HA1) (unhide HS)).mono ?_
  rintro e w2 ⟨v2, rfl, hv2, hw2⟩
  have HV2 := hide hv2
  have HP2 := hide ((unhide HP1a).next hw2)
  obtain ⟨nv2, sv2, zs2, rfl, v2, v3, v4⟩ := id hv2
  obtain ⟨na2, nc2, rfl⟩ := v2.form
  obtain ⟨sa2, sc2, rfl⟩ := v3.form
  clear v2 v3 v4 hv2 hw2
  go_wp2_with fail
  refine (orEmpty_any _ _ fs _ (unhide HV2)).mono ?_
  rintro e w3 ⟨v3, rfl, hv3, hw3⟩
  have HV3 := hide hv3
  have HP3 := hide ((unhide HP2).next hw3)
  obtain ⟨nv3, sv3, zs3, rfl, v2, v3, v4⟩ := id hv3
  obtain ⟨na3, nc3, rfl⟩ := v2.form
  obtain ⟨sa3, sc3, rfl⟩ := v3.form
  clear v2 v3 v4 hv3 hw3
  obtain ⟨q0, q1, q2, q3, q4⟩ := part_cells (unhide HP3).b1
  obtain ⟨r0, r1, r2, r3, r4⟩ := part_free (unhide HP3).b1
  go_wp2
  refine bodyPost_ret (v := .agg #[.bool (orEmptyN (againN p)).empty, .int .i64 ((orEmptyN (againN p)).first : Int), .int .i64 ((orEmptyN (againN p)).last : Int), .slice na3 (orEmptyN (againN p)).next.length nc3, .slice sa3 zs3.length sc3]) (by simp [results, Try.results38, go_sem, *]) rfl ?_
  exact ⟨_, rfl, set5_part (unhide HV3) ⟨_, _, (unhide HP3).b1⟩, set5_below (unhide HP3).below (by omega)⟩

set_option maxHeartbeats 400000 in
theorem partOf_plus {i : Int} {n : Nd} {p : Part} (hl : ns.length ≤ 1000) (h0 : 0 ≤ i) (h : ns[i.toNat]? = some n) (hk : n.kind = 5) (hp : p.Small)
    (ih : DoesP ns fs (.slice (some ⟨g, 0, none⟩) ns.length cap) (.slice sa sn sc) n.left p) :
    DoesP ns fs (.slice (some ⟨g, 0, none⟩) ns.length cap) (.slice sa sn sc) i (againN p) := by
  have hk' := hk
  intro w hn
  obtain ⟨k, rfl, h1, h2, h3, x0, x1, x2, x3, x4, x5⟩ := node_at hn h0 h hl
  have HN := hide hn
  have HP0 := hide (Po.start w #[.slice (some ⟨g, 0, none⟩) ns.length cap, .slice sa sn sc] n)
  unfold ndA at HP0
  rw [hk] at x0 HP0
  have HS := hide hp
  clear hp
  have HO := hide ih
  clear hn h h0 hl ih hk
  go_enter Try.func38, Try.ntmps38
  go_wp2_with fail
  refine (unhide HO _ ((unhide HN).below (by exact three_below _ _ _ _))).mono ?_
  rintro e w1 ⟨v1, rfl, hv1, hw1⟩
  have HV1 := hide hv1
  have HP1 := hide ((unhide HP0).next hw1)
  obtain ⟨nv1, sv1, zs1, rfl, v2, v3, v4⟩ := id hv1
  obtain ⟨na1, nc1, rfl⟩ := v2.form
  obtain ⟨sa1, sc1, rfl⟩ := v3.form
  have hl1 := (unhide HP1).lt
  have hl0 : w.heap.size + 1 < w1.heap.size := by omega
  have hl2 : w.heap.size < w1.heap.size := by omega
  have d0 := cell_of_row _ _ 0 _ _ _ (unhide HP1).b2
  have d2 := cell_of_row _ _ 2 _ _ _ (unhide HP1).b2
  have t0 := cell_of_row _ _ 0 _ _ _ (unhide HP1).b0
  have t1 := cell_of_row _ _ 1 _ _ _ (unhide HP1).b0
  simp only [ndA, List.getElem?_toArray, List.getElem?_cons_zero, List.getElem?_cons_succ, hk'] at d0 d2 t0 t1
  clear v2 v3 v4 hv1 hw1
  clear hk'
  have HA1 := hide ((unhide HV1).below ((Below.refl _ _).alloc (Nat.le_refl _) (Obj.cells #[.bool p.empty, .int .i64 (p.first : Int), .int .i64 (p.last : Int), .slice na1 p.next.length nc1, .slice sa1 zs1.length sc1] 80)))
  have HP1a := hide ((unhide HP1).alloc (Obj.cells #[.bool p.empty, .int .i64 (p.first : Int), .int .i64 (p.last : Int), .slice na1 p.next.length nc1, .slice sa1 zs1.length sc1] 80))
  go_wp2_with fail
  refine (again_any _ _ fs _ (unhide HA1) (unhide HS)).mono ?_
  rintro e w2 ⟨v2, rfl, hv2, hw2⟩
  have HV2 := hide hv2
  have HP2 := hide ((unhide HP1a).next hw2)
  obtain ⟨nv2, sv2, zs2, rfl, v2, v3, v4⟩ := id hv2
  obtain ⟨na2, nc2, rfl⟩ := v2.form
  obtain ⟨sa2, sc2, rfl⟩ := v3.form
  clear v2 v3 v4 hv2 hw2
  obtain ⟨q0, q1, q2, q3, q4⟩ := part_cells (unhide HP2).b1
  obtain ⟨r0, r1, r2, r3, r4⟩ := part_free (unhide HP2).b1
  go_wp2
  refine bodyPost_ret (v := .agg #[.bool (againN p).empty, .int .i64 ((againN p).first : Int), .int .i64 ((againN p).last : Int), .slice na2 (againN p).next.length nc2, .slice sa2 zs2.length sc2]) (by simp [results, Try.results38, go_sem, *]) rfl ?_
  exact ⟨_, rfl, set5_part (unhide HV2) ⟨_, _, (unhide HP2).b1⟩, set5_below (unhide HP2).below (by omega)⟩

set_option maxHeartbeats 400000 in
theorem partOf_opt {i : Int} {n : Nd} {p : Part} (hl : ns.length ≤ 1000) (h0 : 0 ≤ i) (h : ns[i.toNat]? = some n) (hk : n.kind = 6) (hp : p.Small)
    (ih : DoesP ns fs (.slice (some ⟨g, 0, none⟩) ns.length cap) (.slice sa sn sc) n.left p) :
    DoesP ns fs (.slice (some ⟨g, 0, none⟩) ns.length cap) (.slice sa sn sc) i (orEmptyN p) := by
  have hk' := hk
  intro w hn
  obtain ⟨k, rfl, h1, h2, h3, x0, x1, x2, x3, x4, x5⟩ := node_at hn h0 h hl
  have HN := hide hn
  have HP0 := hide (Po.start w #[.slice (some ⟨g, 0, none⟩) ns.length cap, .slice sa sn sc] n)
  unfold ndA at HP0
  rw [hk] at x0 HP0
  have HS := hide hp
  clear hp
  have HO := hide ih
  clear hn h h0 hl ih hk
  go_enter Try.func38, Try.ntmps38
  go_wp2_with fail
  refine (unhide HO _ ((unhide HN).below (by exact three_below _ _ _ _))).mono ?_
  rintro e w1 ⟨v1, rfl, hv1, hw1⟩
  have HV1 := hide hv1
  have HP1 := hide ((unhide HP0).next hw1)
  obtain ⟨nv1, sv1, zs1, rfl, v2, v3, v4⟩ := id hv1
  obtain ⟨na1, nc1, rfl⟩ := v2.form
  obtain ⟨sa1, sc1, rfl⟩ := v3.form
  have hl1 := (unhide HP1).lt
  have hl0 : w.heap.size + 1 < w1.heap.size := by omega
  have hl2 : w.heap.size < w1.heap.size := by omega
  have d0 := cell_of_row _ _ 0 _ _ _ (unhide HP1).b2
  have d2 := cell_of_row _ _ 2 _ _ _ (unhide HP1).b2
  have t0 := cell_of_row _ _ 0 _ _ _ (unhide HP1).b0
  have t1 := cell_of_row _ _ 1 _ _ _ (unhide HP1).b0
  simp only [ndA, List.getElem?_toArray, List.getElem?_cons_zero, List.getElem?_cons_succ, hk'] at d0 d2 t0 t1
  clear v2 v3 v4 hv1 hw1
  clear hk'
  have HA1 := hide ((unhide HV1).below ((Below.refl _ _).alloc (Nat.le_refl _) (Obj.cells #[.bool p.empty, .int .i64 (p.first : Int), .int .i64 (p.last : Int), .slice na1 p.next.length nc1, .slice sa1 zs1.length sc1] 80)))
  have HP1a := hide ((unhide HP1).alloc (Obj.cells #[.bool p.empty, .int .i64 (p.first : Int), .int .i64 (p.last : Int), .slice na1 p.next.length nc1, .slice sa1 zs1.length sc1] 80))
  go_wp2_with fail
  refine (orEmpty_any _ _ fs _ (unhide HA1)).mono ?_
  rintro e w2 ⟨v2, rfl, hv2, hw2⟩
  have HV2 := hide hv2
  have HP2 := hide ((unhide HP1a).next hw2)
  obtain ⟨nv2, sv2, zs2, rfl, v2, v3, v4⟩ := id hv2
  obtain ⟨na2, nc2, rfl⟩ := v2.form
  obtain ⟨sa2, sc2, rfl⟩ := v3.form
  clear v2 v3 v4 hv2 hw2
  obtain ⟨q0, q1, q2, q3, q4⟩ := part_cells (unhide HP2).b1
  obtain ⟨r0, r1, r2, r3, r4⟩ := part_free (unhide HP2).b1
  go_wp2
  refine bodyPost_ret (v := .agg #[.bool (orEmptyN p).empty, .int .i64 ((orEmptyN p).first : Int), .int .i64 ((orEmptyN p).last : Int), .slice na2 (orEmptyN p).next.length nc2, .slice sa2 zs2.length sc2]) (by simp [results, Try.results38, go_sem, *]) rfl ?_
  exact ⟨_, rfl, set5_part (unhide HV2) ⟨_, _, (unhide HP2).b1⟩, set5_below (unhide HP2).below (by omega)⟩

set_option maxHeartbeats 1000000 in
theorem partOf_seq {i : Int} {n : Nd} {p q : Part} (hl : ns.length ≤ 1000) (h0 : 0 ≤ i) (h : ns[i.toNat]? = some n) (hk : n.kind = 2) (op : p.Ok) (oq : q.Ok) (hpq : p.next.length + q.next.length ≤ 50)
    (ih : DoesP ns fs (.slice (some ⟨g, 0, none⟩) ns.length cap) (.slice sa sn sc) n.left p) (ih2 : DoesP ns fs (.slice (some ⟨g, 0, none⟩) ns.length cap) (.slice sa sn sc) n.right q) :
    DoesP ns fs (.slice (some ⟨g, 0, none⟩) ns.length cap) (.slice sa sn sc) i (behindN p q) := by
  have hk' := hk
  intro w hn
  obtain ⟨k, rfl, h1, h2, h3, x0, x1, x2, x3, x4, x5⟩ := node_at hn h0 h hl
  have HN := hide hn
  have HP0 := hide (Po.start w #[.slice (some ⟨g, 0, none⟩) ns.length cap, .slice sa sn sc] n)
  unfold ndA at HP0
  rw [hk] at x0 HP0
  have HS := hide (And.intro op (And.intro oq hpq))
  have HO2 := hide ih2
  clear op oq hpq ih2
  have HO := hide ih
  clear hn h h0 hl ih hk
  go_enter Try.func38, Try.ntmps38
  go_wp2_with fail
  refine (unhide HO _ ((unhide HN).below (by exact three_below _ _ _ _))).mono ?_
  rintro e w1 ⟨v1, rfl, hv1, hw1⟩
  have HV1 := hide hv1
  have HP1 := hide ((unhide HP0).next hw1)
  obtain ⟨nv1, sv1, zs1, rfl, v2, v3, v4⟩ := id hv1
  obtain ⟨na1, nc1, rfl⟩ := v2.form
  obtain ⟨sa1, sc1, rfl⟩ := v3.form
  have hl1 := (unhide HP1).lt
  have hl0 : w.heap.size + 1 < w1.heap.size := by omega
  have hl2 : w.heap.size < w1.heap.size := by omega
  have d0 := cell_of_row _ _ 0 _ _ _ (unhide HP1).b2
  have d2 := cell_of_row _ _ 2 _ _ _ (unhide HP1).b2
  have t0 := cell_of_row _ _ 0 _ _ _ (unhide HP1).b0
  have t1 := cell_of_row _ _ 1 _ _ _ (unhide HP1).b0
  simp only [ndA, List.getElem?_toArray, List.getElem?_cons_zero, List.getElem?_cons_succ, hk'] at d0 d2 t0 t1
  clear v2 v3 v4 hv1 hw1
  clear hk'
  have HA1 := hide ((unhide HV1).below ((Below.refl _ _).alloc (Nat.le_refl _) (Obj.cells #[.bool p.empty, .int .i64 (p.first : Int), .int .i64 (p.last : Int), .slice na1 p.next.length nc1, .slice sa1 zs1.length sc1] 80)))
  have HP1a := hide ((unhide HP1).alloc (Obj.cells #[.bool p.empty, .int .i64 (p.first : Int), .int .i64 (p.last : Int), .slice na1 p.next.length nc1, .slice sa1 zs1.length sc1] 80))
  have HL1 := hide (heap_alloc_new w1 (Obj.cells #[.bool p.empty, .int .i64 (p.first : Int), .int .i64 (p.last : Int), .slice na1 p.next.length nc1, .slice sa1 zs1.length sc1] 80))
  go_wp2_with fail
  refine (unhide HO2 _ ((unhide HN).below (by exact (unhide HP1a).below))).mono ?_
  rintro e w2 ⟨v2', rfl, hv2, hw2⟩
  have HV2 := hide hv2
  have HP2 := hide ((unhide HP1a).next hw2)
  obtain ⟨nv2, sv2, zs2, rfl, v2, v3, v4⟩ := id hv2
  obtain ⟨na2, nc2, rfl⟩ := v2.form
  obtain ⟨sa2, sc2, rfl⟩ := v3.form
  have hq2 := (hw2.block w1.heap.size (by simp)).trans (unhide HL1)
  have hl3 : w1.heap.size < w2.heap.size := (Array.getElem?_eq_some_iff.1 hq2).1
  obtain ⟨c0, c1, c2, c3, c4⟩ := part_cells hq2
  have HA2 := hide (((unhide HA1).below hw2).below ((Below.refl _ _).alloc (Nat.le_refl _) (Obj.cells #[.bool q.empty, .int .i64 (q.first : Int), .int .i64 (q.last : Int), .slice na2 q.next.length nc2, .slice sa2 zs2.length sc2] 80)))
  have HB2 := hide ((unhide HV2).below ((Below.refl _ _).alloc (Nat.le_refl _) (Obj.cells #[.bool q.empty, .int .i64 (q.first : Int), .int .i64 (q.last : Int), .slice na2 q.next.length nc2, .slice sa2 zs2.length sc2] 80)))
  have HP2a := hide ((unhide HP2).alloc (Obj.cells #[.bool q.empty, .int .i64 (q.first : Int), .int .i64 (q.last : Int), .slice na2 q.next.length nc2, .slice sa2 zs2.length sc2] 80))
  clear v2 v3 v4 hv2 hw2 hq2 d0 d2 t0 t1
  go_wp2_with fail
  refine (behind_any _ _ _ fs _ _ (unhide HA2) (unhide HB2) (unhide HS).1 (unhide HS).2.1 (unhide HS).2.2).mono ?_
  rintro e w3 ⟨v3', rfl, hv3, hw3⟩
  have HV3 := hide hv3
  have HP3 := hide ((unhide HP2a).next hw3)
  obtain ⟨nv3, sv3, zs3, rfl, v2, v3, v4⟩ := id hv3
  obtain ⟨na3, nc3, rfl⟩ := v2.form
  obtain ⟨sa3, sc3, rfl⟩ := v3.form
  clear v2 v3 v4 hv3 hw3 c0 c1 c2 c3 c4
  obtain ⟨q0, q1, q2, q3, q4⟩ := part_cells (unhide HP3).b1
  obtain ⟨r0, r1, r2, r3, r4⟩ := part_free (unhide HP3).b1
  go_wp2
  refine bodyPost_ret (v := .agg #[.bool (behindN p q).empty, .int .i64 ((behindN p q).first : Int), .int .i64 ((behindN p q).last : Int), .slice na3 (behindN p q).next.length nc3, .slice sa3 zs3.length sc3]) (by simp [results, Try.results38, go_sem, *]) rfl ?_
  exact ⟨_, rfl, set5_part (unhide HV3) ⟨_, _, (unhide HP3).b1⟩, set5_below (unhide HP3).below (by omega)⟩

set_option maxHeartbeats 1000000 in
theorem partOf_alt {i : Int} {n : Nd} {p q : Part} (hl : ns.length ≤ 1000) (h0 : 0 ≤ i) (h : ns[i.toNat]? = some n) (hk : n.kind = 3) (op : p.Ok) (oq : q.Ok) (hpq : p.next.length + q.next.length ≤ 50)
    (ih : DoesP ns fs (.slice (some ⟨g, 0, none⟩) ns.length cap) (.slice sa sn sc) n.left p) (ih2 : DoesP ns fs (.slice (some ⟨g, 0, none⟩) ns.length cap) (.slice sa sn sc) n.right q) :
    DoesP ns fs (.slice (some ⟨g, 0, none⟩) ns.length cap) (.slice sa sn sc) i (besideN p q) := by
  have hk' := hk
  intro w hn
  obtain ⟨k, rfl, h1, h2, h3, x0, x1, x2, x3, x4, x5⟩ := node_at hn h0 h hl
  have HN := hide hn
  have HP0 := hide (Po.start w #[.slice (some ⟨g, 0, none⟩) ns.length cap, .slice sa sn sc] n)
  unfold ndA at HP0
  rw [hk] at x0 HP0
  have HS := hide (And.intro op (And.intro oq hpq))
  have HO2 := hide ih2
  clear op oq hpq ih2
  have HO := hide ih
  clear hn h h0 hl ih hk
  go_enter Try.func38, Try.ntmps38
  go_wp2_with fail
  refine (unhide HO _ ((unhide HN).below (by exact three_below _ _ _ _))).mono ?_
  rintro e w1 ⟨v1, rfl, hv1, hw1⟩
  have HV1 := hide hv1
  have HP1 := hide ((unhide HP0).next hw1)
  obtain ⟨nv1, sv1, zs1, rfl, v2, v3, v4⟩ := id hv1
  obtain ⟨na1, nc1, rfl⟩ := v2.form
  obtain ⟨sa1, sc1, rfl⟩ := v3.form
  have hl1 := (unhide HP1).lt
  have hl0 : w.heap.size + 1 < w1.heap.size := by omega
  have hl2 : w.heap.size < w1.heap.size := by omega
  have d0 := cell_of_row _ _ 0 _ _ _ (unhide HP1).b2
  have d2 := cell_of_row _ _ 2 _ _ _ (unhide HP1).b2
  have t0 := cell_of_row _ _ 0 _ _ _ (unhide HP1).b0
  have t1 := cell_of_row _ _ 1 _ _ _ (unhide HP1).b0
  simp only [ndA, List.getElem?_toArray, List.getElem?_cons_zero, List.getElem?_cons_succ, hk'] at d0 d2 t0 t1
  clear v2 v3 v4 hv1 hw1
  clear hk'
  have HA1 := hide ((unhide HV1).below ((Below.refl _ _).alloc (Nat.le_refl _) (Obj.cells #[.bool p.empty, .int .i64 (p.first : Int), .int .i64 (p.last : Int), .slice na1 p.next.length nc1, .slice sa1 zs1.length sc1] 80)))
  have HP1a := hide ((unhide HP1).alloc (Obj.cells #[.bool p.empty, .int .i64 (p.first : Int), .int .i64 (p.last : Int), .slice na1 p.next.length nc1, .slice sa1 zs1.length sc1] 80))
  have HL1 := hide (heap_alloc_new w1 (Obj.cells #[.bool p.empty, .int .i64 (p.first : Int), .int .i64 (p.last : Int), .slice na1 p.next.length nc1, .slice sa1 zs1.length sc1] 80))
  go_wp2_with fail
  refine (unhide HO2 _ ((unhide HN).below (by exact (unhide HP1a).below))).mono ?_
  rintro e w2 ⟨v2', rfl, hv2, hw2⟩
  have HV2 := hide hv2
  have HP2 := hide ((unhide HP1a).next hw2)
  obtain ⟨nv2, sv2, zs2, rfl, v2, v3, v4⟩ := id hv2
  obtain ⟨na2, nc2, rfl⟩ := v2.form
  obtain ⟨sa2, sc2, rfl⟩ := v3.form
  have hq2 := (hw2.block w1.heap.size (by simp)).trans (unhide HL1)
  have hl3 : w1.heap.size < w2.heap.size := (Array.getElem?_eq_some_iff.1 hq2).1
  obtain ⟨c0, c1, c2, c3, c4⟩ := part_cells hq2
  have HA2 := hide (((unhide HA1).below hw2).below ((Below.refl _ _).alloc (Nat.le_refl _) (Obj.cells #[.bool q.empty, .int .i64 (q.first : Int), .int .i64 (q.last : Int), .slice na2 q.next.length nc2, .slice sa2 zs2.length sc2] 80)))
  have HB2 := hide ((unhide HV2).below ((Below.refl _ _).alloc (Nat.le_refl _) (Obj.cells #[.bool q.empty, .int .i64 (q.first : Int), .int .i64 (q.last : Int), .slice na2 q.next.length nc2, .slice sa2 zs2.length sc2] 80)))
  have HP2a := hide ((unhide HP2).alloc (Obj.cells #[.bool q.empty, .int .i64 (q.first : Int), .int .i64 (q.last : Int), .slice na2 q.next.length nc2, .slice sa2 zs2.length sc2] 80))
  clear v2 v3 v4 hv2 hw2 hq2 d0 d2 t0 t1
  go_wp2_with fail
  refine (beside_any _ _ _ fs _ _ (unhide HA2) (unhide HB2) (unhide HS).1 (unhide HS).2.1 (unhide HS).2.2).mono ?_
  rintro e w3 ⟨v3', rfl, hv3, hw3⟩
  have HV3 := hide hv3
  have HP3 := hide ((unhide HP2a).next hw3)
  obtain ⟨nv3, sv3, zs3, rfl, v2, v3, v4⟩ := id hv3
  obtain ⟨na3, nc3, rfl⟩ := v2.form
  obtain ⟨sa3, sc3, rfl⟩ := v3.form
  clear v2 v3 v4 hv3 hw3 c0 c1 c2 c3 c4
  obtain ⟨q0, q1, q2, q3, q4⟩ := part_cells (unhide HP3).b1
  obtain ⟨r0, r1, r2, r3, r4⟩ := part_free (unhide HP3).b1
  go_wp2
  refine bodyPost_ret (v := .agg #[.bool (besideN p q).empty, .int .i64 ((besideN p q).first : Int), .int .i64 ((besideN p q).last : Int), .slice na3 (besideN p q).next.length nc3, .slice sa3 zs3.length sc3]) (by simp [results, Try.results38, go_sem, *]) rfl ?_
  exact ⟨_, rfl, set5_part (unhide HV3) ⟨_, _, (unhide HP3).b1⟩, set5_below (unhide HP3).below (by omega)⟩

end

/-- partOf gives the part of the pattern that the node stands for. -/
theorem partOf_any {ns : List Nd} {fs : List (Nat → Bool)} {g cap sn sc : Nat} {sa : Option Addr} (hl : ns.length ≤ 1000) : ∀ (R : Re) (i : Int), Dn ns fs R i → R.wt ≤ 50 → DoesP ns fs (.slice (some ⟨g, 0, none⟩) ns.length cap) (.slice sa sn sc) i (partN R) := by
  have small : ∀ R : Re, R.wt ≤ 50 → (partN R).Small := fun R h => (partN_ok R).small (by have := partN_len R; omega)
  intro R
  induction R using Re.ind with
  | blank => rintro i ⟨n, h0, h1, h2⟩ _; exact partOf_blank hl h0 h1 h2
  | set f => rintro i ⟨n, h0, h1, h2, h3, h4⟩ _; exact partOf_one hl h0 h1 h2 h3 h4
  | seq a b iha ihb =>
    rintro i ⟨n, h0, h1, h2, _, _, h5, h6⟩ hw
    have := a.wt_pos; have := b.wt_pos; have ea := partN_len a; have eb := partN_len b
    rw [Re.wt_seq] at hw
    rw [partN_seq]
    exact partOf_seq hl h0 h1 h2 (partN_ok a) (partN_ok b) (by omega) (iha _ h5 (by omega)) (ihb _ h6 (by omega))
  | alt a b iha ihb =>
    rintro i ⟨n, h0, h1, h2, _, _, h5, h6⟩ hw
    have := a.wt_pos; have := b.wt_pos; have ea := partN_len a; have eb := partN_len b
    rw [Re.wt_alt] at hw
    rw [partN_alt]
    exact partOf_alt hl h0 h1 h2 (partN_ok a) (partN_ok b) (by omega) (iha _ h5 (by omega)) (ihb _ h6 (by omega))
  | star a iha => rintro i ⟨n, h0, h1, h2, _, h5⟩ hw; exact partOf_star hl h0 h1 h2 (small a hw) (iha _ h5 hw)
  | plus a iha => rintro i ⟨n, h0, h1, h2, _, h5⟩ hw; exact partOf_plus hl h0 h1 h2 (small a hw) (iha _ h5 hw)
  | opt a iha => rintro i ⟨n, h0, h1, h2, _, h5⟩ hw; exact partOf_opt hl h0 h1 h2 (small a hw) (iha _ h5 hw)
  | times x y a iha =>
    rintro i ⟨n, h0, h1, h2, hx, hy, x9, y9, _, h5⟩ hw
    have key : y ≠ 0 → a.wt ≤ 50 ∧ ((partN a).next.length : Int) * (y : Int) ≤ 50 := by
      intro hy0
      have hp := a.wt_pos
      have ea := partN_len a
      have m1 : a.wt * 1 ≤ a.wt * (y : Int) := Int.mul_le_mul_of_nonneg_left (by omega) (by omega)
      have m2 : ((partN a).next.length : Int) * (y : Int) ≤ a.wt * (y : Int) := Int.mul_le_mul_of_nonneg_right ea (by omega)
      rw [Re.wt_times] at hw
      simp only [max1] at hw
      split at hw <;> omega
    refine partOf_times hl h0 h1 h2 (fun w hn => timesPart_of ns fs g cap sn sc sa n x y a hx hy x9 y9 (fun _ hy0 => iha _ h5 (key hy0).1) (fun _ hy0 => ?_) w hn)
    have := (key hy0).2
    exact Int.ofNat_le.1 (by push_cast; exact this)

end Go.Proofs.Ytobfpgoepaeknaa
