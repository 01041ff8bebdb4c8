/-
  The automaton: Build.
-/
import Derived.Test.YtibhlnhmejlhbabWk
namespace Go.Proofs.Ytibhlnhmejlhbab
open Go.RowKit
attribute [local go_sem ↓] Go.wp_at_zero Go.wp_at_succ wp_build_set2
attribute [local go_sem] cells_agg size_setA

theorem own_set3 {w : World} {B e z : Nat} {v : Value} {n : Nat} {xs : List Value} {b : Nat} {cs : Array Value} {ty : TypeId} (h : w.ownsRow B e z v n xs) (hb : w.heap[b]? = some (.cells cs ty (0, 0))) (hne : e ≠ ty) (u0 u1 u2 : Value) : (((w.setCell ⟨b, 0, none⟩ u0).setCell ⟨b, 1, none⟩ u1).setCell ⟨b, 2, none⟩ u2).ownsRow B e z v n xs :=
  own_set_any (own_set_any (own_set_any h hb hne _ _) (heap_setCell_same _ _ _ _ _ _ hb) hne _ _) (heap_setCell_same _ _ _ _ _ _ (heap_setCell_same _ _ _ _ _ _ hb)) hne _ _

set_option maxHeartbeats 2000000 in
theorem Build_any (w : World) (g cap sc : Nat) (sa : Option Addr) (ns : List Nd) (fs : List (Nat → Bool)) (R : Re) (hn : NdRow w (.slice (some ⟨g, 0, none⟩) ns.length cap) ns) (hf : FsRow w 0 (.slice sa fs.length sc) fs)
    (hl : ns.length ≤ 1000) (hfl : fs.length ≤ 1000) (hd : Dn ns fs R ((ns.length : Int) - 1)) (hwt : R.wt ≤ 40) :
    Calls Try.prog 13 #[.agg #[.slice (some ⟨g, 0, none⟩) ns.length cap, .slice sa fs.length sc]] w fun e w' => ∃ v, e = .returned v ∧ AutAt w' v (autN (partN R)) ∧ Below w.heap.size w w' := by
  have HF := hide hf
  have hlI : (ns.length : Int) ≤ 1000 := by omega
  have hb2 : Below w.heap.size w ((w.alloc (.cells #[.slice (some ⟨g, 0, none⟩) ns.length cap, .slice sa fs.length sc] 37)).alloc (.cells zeroAut 42)) := ((Below.refl _ _).alloc (Nat.le_refl _) _).alloc (by simp) _
  have HP := hide (partOf_any (g := g) (cap := cap) (sn := fs.length) (sc := sc) (sa := sa) hl R _ hd (by omega) _ (hn.below hb2))
  have hok := partN_ok R
  have hlen := partN_len R
  have HOK := hide hok
  have HLEN : Hid ((oneN fun _ => false).next.length + (partN R).next.length ≤ 50) := by show _ ≤ _; simp [oneN]; omega
  have HFL := hide hfl
  clear hn hf hl hd hwt hb2 hok hlen hfl
  go_enter Try.func13, Try.ntmps13
  go_wp2_with fail
  refine (unhide HP).mono ?_
  rintro e w1 ⟨v1, rfl, hv1, hw1⟩
  have hV1 := hv1.below ((Below.refl w1.heap.size w1).alloc (Nat.le_refl _) (Obj.cells v1.cells 51))
  obtain ⟨nv1, sv1, zs1, rfl, v2, v3, v4⟩ := id hv1
  obtain ⟨na1, nc1, rfl⟩ := v2.form
  obtain ⟨sa1, sc1, rfl⟩ := v3.form
  have hB1 := Bu.start (w := w) (T := #[.slice (some ⟨g, 0, none⟩) ns.length cap, .slice sa fs.length sc]) (P := #[.bool (partN R).empty, .int .i64 ((partN R).first : Int), .int .i64 ((partN R).last : Int), .slice na1 (partN R).next.length nc1, .slice sa1 zs1.length sc1]) (w1 := w1) (by simpa using hw1)
  have HB1 := hide hB1
  have HV1 : Hid (PartAt (w1.alloc (Obj.cells #[.bool (partN R).empty, .int .i64 ((partN R).first : Int), .int .i64 ((partN R).last : Int), .slice na1 (partN R).next.length nc1, .slice sa1 zs1.length sc1] 51)) (.agg #[.bool (partN R).empty, .int .i64 ((partN R).first : Int), .int .i64 ((partN R).last : Int), .slice na1 (partN R).next.length nc1, .slice sa1 zs1.length sc1]) fs (partN R)) := hV1
  obtain ⟨t0, t1⟩ := tree_cells hB1.b0
  obtain ⟨y0, y1, y2, y3, y4⟩ := part_cells hB1.b3
  obtain ⟨z0, z1, z2, z3, z4⟩ := part_free hB1.b3
  clear v2 v3 v4 hv1 hw1 hV1 hB1 HP
  go_upto_region 2 with fail
  go_cut [] (fun wx => ∃ (c0 : Bool) (c1 c2 : Nat) (n1 n2 : Option Addr) (m1 m2 p1 p2 : Nat), Hid (Bu w wx w1.heap.size #[.slice (some ⟨g, 0, none⟩) ns.length cap, .slice sa fs.length sc] #[.bool c0, .int .i64 (c1 : Int), .int .i64 (c2 : Int), .slice n1 m1 p1, .slice n2 m2 p2] ∧ PartAt wx (.agg #[.bool c0, .int .i64 (c1 : Int), .int .i64 (c2 : Int), .slice n1 m1 p1, .slice n2 m2 p2]) fs (autN (partN R))))
  case first =>
    generalize w1.alloc (Obj.cells #[.bool (partN R).empty, .int .i64 ((partN R).first : Int), .int .i64 ((partN R).last : Int), .slice na1 (partN R).next.length nc1, .slice sa1 zs1.length sc1] 51) = wa at *
    generalize w1.heap.size = g3 at *
    go_region_with ((first
      | (go_at_call 20; refine (onePart_any _ (-1) fs (fun _ => false) (setOf_neg (by decide))).mono ?_; rintro e w2 ⟨v, rfl, hv, hw2⟩; have hb2 := (unhide HB1).drew.next hw2; obtain ⟨y0', y1', y2', y3', y4'⟩ := part_cells hb2.b3; have HD := hide (behind_any w2 _ _ fs _ _ hv ((unhide HV1).drew.below hw2) (oneN_ok _) (unhide HOK) (unhide HLEN)); have HB2 := hide hb2; obtain ⟨nv, sv, zs, rfl, v2, v3, v4⟩ := id hv; obtain ⟨va1, vc1, rfl⟩ := v2.form; obtain ⟨va2, vc2, rfl⟩ := v3.form; clear hv hb2 hw2 v2 v3 v4)
      | (go_at_call 19; refine (unhide HD).mono ?_; rintro e w3 ⟨v', rfl, hv, hw3⟩; have hb3 := (unhide HB2).next hw3; obtain ⟨y0'', y1'', y2'', y3'', y4''⟩ := part_cells hb3.b3; obtain ⟨z0'', z1'', z2'', z3'', z4''⟩ := part_free hb3.b3; obtain ⟨nv', sv', zs', rfl, v2', v3', v4'⟩ := id hv; obtain ⟨va3, vc3, rfl⟩ := v2'.form; obtain ⟨va4, vc4, rfl⟩ := v3'.form; have HB3 := hide hb3; have HV := hide hv; clear hv hb3 hw3 v2' v3' v4')))
    all_goals
      go_wp2_with fail
      go_meet
      exact ⟨_, _, _, _, _, _, _, _, _, (unhide HB3).put _ _ _ _ _, set5_part (unhide HV) ⟨_, _, (unhide HB3).b3⟩⟩
  case rest =>
    rename World => wx
    obtain ⟨c0, c1, c2, n1, n2, m1, m2, p1, p2, HC⟩ := hcut
    clear y0 y1 y2 y3 y4 z0 z1 z2 z3 z4 t0 t1 HB1 HV1
    generalize w1.heap.size = g3 at *
    obtain ⟨nvv, svv, zs, he, h2, h3, h4⟩ := (unhide HC).2
    simp only [Value.agg.injEq, Array.mk.injEq, List.cons.injEq, Value.bool.injEq, Value.int.injEq, true_and, and_true] at he
    obtain ⟨-, -, hc2, rfl, rfl⟩ := he
    have hm1 : m1 = (autN (partN R)).next.length := by
      obtain ⟨a', c', e'⟩ := h2.form
      simp only [Value.slice.injEq] at e'; exact e'.2.1
    have hm2 : m2 = zs.length := by
      obtain ⟨a', c', e'⟩ := h3.form
      simp only [Value.slice.injEq] at e'; exact e'.2.1
    have hb4 : Below wx.heap.size wx (wx.alloc (Obj.cells #[.slice n1 m1 p1, .slice none 0 0, .int .i64 (c2 : Int)] 42)) := (Below.refl _ _).alloc (Nat.le_refl _) _
    have HL : Hid (BuL w (wx.alloc (Obj.cells #[.slice n1 m1 p1, .slice none 0 0, .int .i64 (c2 : Int)] 42)) g3 wx.heap.size #[.slice (some ⟨g, 0, none⟩) ns.length cap, .slice sa fs.length sc] #[.bool c0, .int .i64 (c1 : Int), .int .i64 (c2 : Int), .slice n1 m1 p1, .slice n2 m2 p2] (.slice n1 m1 p1) (.slice none 0 0) (.slice n2 m2 p2) (c2 : Int) (autN (partN R)).next zs []) :=
      ⟨(unhide HC).1.next hb4, heap_alloc_new _ _, (unhide HC).1.lt, h2.below hb4, h3.below hb4, World.ownsRow_nil _ _ _ _⟩
    have HZS := hide h4
    have HC2 := hide hc2
    have hzl : zs.length ≤ 50 := by
      have e1 := congrArg List.length h4
      rw [List.length_map, (autN_ok (unhide HOK)).1] at e1
      have e2 : (autN (partN R)).next.length = (oneN fun _ => false).next.length + (partN R).next.length := behindN_len _ _
      have := unhide HLEN
      omega
    have HZL := hide hzl
    have hm2I : (m2 : Int) ≤ 50 := by omega
    have HM2 := hide hm2
    obtain ⟨q0, q1, q2, q3, q4⟩ := part_cells (unhide HC).1.b3
    have hg3 := (unhide HC).1.lt
    have HH3 := hide (unhide HC).1.h3
    clear h2 h3 h4 hb4 hc2 hzl hm1 HC HM2
    subst hm2
    obtain ⟨i, i0, i1, i2, i3⟩ := info_of info84
    have HI := hide (And.intro i0 (And.intro i1 (And.intro i2 i3)))
    clear i0 i1 i2 i3
    go_wp2_with fail
    clear q0 q1 q2 q3 q4
    generalize wx.heap.size = g4 at *
    go_loopw [5] (fun ix w4 => ∃ (k : Nat) (sva : Option Addr) (m svc : Nat), ix = .int .i64 (k : Int) ∧ k ≤ zs.length ∧ Hid (BuL w w4 g3 g4 #[.slice (some ⟨g, 0, none⟩) ns.length cap, .slice sa fs.length sc] #[.bool c0, .int .i64 (c1 : Int), .int .i64 (c2 : Int), .slice n1 m1 p1, .slice n2 zs.length p2] (.slice n1 m1 p1) (.slice sva m svc) (.slice n2 zs.length p2) (c2 : Int) (autN (partN R)).next zs ((zs.take k).map (setOf fs)))) (fun ix _ => zs.length - (intOf ix).toNat)
    case atStart => exact ⟨0, none, 0, 0, rfl, Nat.zero_le _, by exact unhide HL⟩
    case round =>
      rename World => w4
      obtain ⟨k, sva, m, svc, rfl, hk, HH⟩ := hrel
      obtain ⟨x0, x1, x2, x3, x4⟩ := part_cells (unhide HH).bu.b3
      obtain ⟨y0, y1, y2⟩ := aut_cells (unhide HH).b4
      obtain ⟨t0, t1⟩ := tree_cells (unhide HH).bu.b0
      have hz1 := frozen_of_row w4 g4 1 _ _ (unhide HH).b4
      have h4 := (unhide HH).lt
      by_cases hlt : k < zs.length
      · obtain ⟨gz, cz, he, hc⟩ := (unhide HH).zr.at hlt
        simp only [Value.slice.injEq, true_and] at he
        obtain ⟨rfl, rfl⟩ := he
        have hlt' : (k : Int) < (zs.length : Int) := by omega
        have HSN := hide (zs_snoc (fs := fs) hlt)
        have HK : Hid (((zs.take k).map (setOf fs)).length ≤ 100) := by have := unhide HZL; show _ ≤ _; simp; omega
        have HFW := hide ((unhide HF).below (unhide HH).bu.below)
        clear hlt x0 x1 x2 x3 y0 y2
        generalize zs.getD k 0 = x at *
        go_wp2
        go_region_law (first
          | (refine step_append_own (by rfl) _ _ _ (by rfl) (g4 + 1) 56 i (.agg (setA fun _ => false)) 256 256 Try.underlying35 (unhide HI).1 (unhide HI).2.1 (unhide HI).2.2.1 (unhide HI).2.2.2 zsz pos256 _ _ _ (by rfl) (by exact (unhide HB6).fr) ⟨w5.heap.size, 0, none⟩ 1 1 (setA (setOf fs x)).toList (by rfl) (len_setA _) (by exact unhide HCN) (setA_toList_one _) (by have := unhide HK; unfold maxLen; omega) (by have := unhide HK; omega) (by simp; omega) ?_; intro v' w6 ho6 hgrow; have hS6 := BuL.grown (unhide HB6) hgrow; have z6 := frozen_of_row w6 g4 1 _ _ hS6.2.1; have y6 := (aut_cells hS6.2.1).2.1; have HG6 := hide (BuL.step (unhide HB6) hgrow ho6); obtain ⟨va6, n6, vc6, rfl⟩ := own_slice ho6; clear hS6 ho6 hgrow)
          | (go_simp; go_at_call 21; refine (setAt_any _ _ _ _ _ fs x 0 (by exact unhide HFW) (unhide HFL)).mono ?_; rintro e w5 ⟨rfl, hw5⟩; have hL5 := (unhide HH).drew.next hw5; have y5 := (aut_cells hL5.b4).2.1; have z5 := frozen_of_row w5 g4 1 _ _ hL5.b4; have l5 := hL5.lt; have HB6 := hide (hL5.next ((Below.refl w5.heap.size w5).alloc (Nat.le_refl _) (Obj.cells (setA (setOf fs x)) 56))); have HCN : Hid (∀ j u, (setA (setOf fs x)).toList[j]? = some u → (w5.alloc (Obj.cells (setA (setOf fs x)) 56)).cell? ((⟨w5.heap.size, 0, none⟩ : Addr).add j) = some u) := (by have := cells_new w5 (setA (setOf fs x)).toList 56; simp only [Array.toArray_toList] at this; exact this); clear hL5 hw5))
        all_goals
          go_wp2
          go_roundw
          case rel =>
            refine ⟨k + 1, va6, n6, vc6, by go_num, by omega, ?_⟩
            rw [unhide HSN]
            exact unhide HG6
          case measure => simp [intOf]; omega
      · have hk2 : k = zs.length := by omega
        subst hk2
        have hZ := unhide HH
        rw [List.take_length, unhide HZS] at hZ
        have HZ := hide hZ
        obtain ⟨q0, q1, q2⟩ := aut_cells hZ.bu.b1
        have hf0 := frozen_of_row w4 (w.heap.size + 1) 0 _ _ hZ.bu.b1
        have hf1 := frozen_of_row w4 (w.heap.size + 1) 1 _ _ hZ.bu.b1
        have hf2 := frozen_of_row w4 (w.heap.size + 1) 2 _ _ hZ.bu.b1
        have h3 := unhide HH3
        clear hZ
        go_wp2
        refine bodyPost_ret (v := .agg #[.slice n1 m1 p1, .slice sva m svc, .int .i64 (c2 : Int)]) (by simp [results, Try.results13, go_sem, *]) rfl ?_
        have hA : ∀ u0 u1 u2, Below w.heap.size w (((w4.setCell ⟨w.heap.size + 1, 0, none⟩ u0).setCell ⟨w.heap.size + 1, 1, none⟩ u1).setCell ⟨w.heap.size + 1, 2, none⟩ u2) :=
          fun _ _ _ => (((unhide HZ).bu.below.setCell (by simp) _).setCell (by simp) _).setCell (by simp) _
        refine ⟨_, rfl, ⟨_, _, by rw [unhide HC2], ?_, ?_⟩, hA _ _ _⟩
        · exact own_set3 (unhide HZ).nr (unhide HZ).bu.b1 (by decide) _ _ _
        · exact own_set3 (ownsRow_less (unhide HZ).fr (Nat.zero_le _)) (unhide HZ).bu.b1 (by decide) _ _ _

end Go.Proofs.Ytibhlnhmejlhbab
