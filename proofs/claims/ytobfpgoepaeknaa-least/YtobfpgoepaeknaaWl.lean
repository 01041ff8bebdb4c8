/-
  The automaton: Build.
-/
import Derived.Test.YtobfpgoepaeknaaT11
namespace Go.Proofs.Ytobfpgoepaeknaa
open Go.RowKit
attribute [local go_sem ↓] Go.wp_at_zero Go.wp_at_succ zvA zvS wp_alloc_set wp_store_new wp_store_old
attribute [local go_sem] cells_agg size_setA zcA_size zcA_ne zcS_size zcS_ne is256_set ptrBlock_at

set_option maxRecDepth 2000 in
set_option maxHeartbeats 1000000 in
theorem Build_any (w : World) (g cap sc : Nat) (sa : Option Addr) (ns : List Nd) (fs : List (Nat → Bool)) (R : Re) (hn : NdRow w (.slice (some ⟨g, 0, none⟩) ns.length cap) ns) (hf : FsRow w 0 (.slice sa fs.length sc) fs)
    (hl : ns.length ≤ 1000) (hfl : fs.length ≤ 1000) (hd : Dn ns fs R ((ns.length : Int) - 1)) (hwt : R.wt ≤ 40) :
    Calls Try.prog 27 #[.agg #[.slice (some ⟨g, 0, none⟩) ns.length cap, .slice sa fs.length sc]] w fun e w' => ∃ v, e = .returned v ∧ AutV w' v (autN (partN R)) ∧ Below w.heap.size w w' := by
  have HF := hide hf
  have hlI : (ns.length : Int) ≤ 1000 := by omega
  have hb2 : Below w.heap.size w ((w.alloc (.cells #[.slice (some ⟨g, 0, none⟩) ns.length cap, .slice sa fs.length sc] 50)).alloc (.cells zcA 56)) := ((Below.refl _ _).alloc (Nat.le_refl _) _).alloc (by simp) _
  have HP := hide (partOf_any (g := g) (cap := cap) (sn := fs.length) (sc := sc) (sa := sa) hl R _ hd (by omega) _ (hn.below hb2))
  have hok := partN_ok R
  have hlen := partN_len R
  have HOK := hide hok
  have HLEN : Hid ((oneN fun _ => false).next.length + (partN R).next.length ≤ 50) := by show _ ≤ _; simp [oneN]; omega
  have HFL := hide hfl
  clear hn hf hl hd hwt hb2 hok hlen hfl
  go_enter Try.func27, Try.ntmps27
  go_wp2_with fail
  refine (unhide HP).mono ?_
  rintro e w1 ⟨v1, rfl, hv1, hw1⟩
  have hV1 := hv1.below ((Below.refl w1.heap.size w1).alloc (Nat.le_refl _) (Obj.cells v1.cells 80))
  obtain ⟨nv1, sv1, zs1, rfl, v2, v3, v4⟩ := id hv1
  obtain ⟨na1, nc1, rfl⟩ := v2.form
  obtain ⟨sa1, sc1, rfl⟩ := v3.form
  have hB1 := Bu.start (w := w) (T := #[.slice (some ⟨g, 0, none⟩) ns.length cap, .slice sa fs.length sc]) (P := #[.bool (partN R).empty, .int .i64 ((partN R).first : Int), .int .i64 ((partN R).last : Int), .slice na1 (partN R).next.length nc1, .slice sa1 zs1.length sc1]) (w1 := w1) (by simpa using hw1)
  have HB1 := hide hB1
  have HV1 : Hid (PartAt (w1.alloc (Obj.cells #[.bool (partN R).empty, .int .i64 ((partN R).first : Int), .int .i64 ((partN R).last : Int), .slice na1 (partN R).next.length nc1, .slice sa1 zs1.length sc1] 80)) (.agg #[.bool (partN R).empty, .int .i64 ((partN R).first : Int), .int .i64 ((partN R).last : Int), .slice na1 (partN R).next.length nc1, .slice sa1 zs1.length sc1]) fs (partN R)) := hV1
  obtain ⟨t0, t1⟩ := tree_cells hB1.b0
  obtain ⟨y0, y1, y2, y3, y4⟩ := part_cells hB1.b3
  obtain ⟨z0, z1, z2, z3, z4⟩ := part_free hB1.b3
  clear v2 v3 v4 hv1 hw1 hV1 hB1 HP
  go_upto_region 2 with fail
  go_cut [] (fun wx => ∃ (c0 : Bool) (c1 c2 : Nat) (n1 n2 : Option Addr) (m1 m2 p1 p2 : Nat), Hid (Bu w wx w1.heap.size #[.slice (some ⟨g, 0, none⟩) ns.length cap, .slice sa fs.length sc] #[.bool c0, .int .i64 (c1 : Int), .int .i64 (c2 : Int), .slice n1 m1 p1, .slice n2 m2 p2] ∧ PartAt wx (.agg #[.bool c0, .int .i64 (c1 : Int), .int .i64 (c2 : Int), .slice n1 m1 p1, .slice n2 m2 p2]) fs (autN (partN R))))
  case first =>
    generalize w1.alloc (Obj.cells #[.bool (partN R).empty, .int .i64 ((partN R).first : Int), .int .i64 ((partN R).last : Int), .slice na1 (partN R).next.length nc1, .slice sa1 zs1.length sc1] 80) = wa at *
    generalize w1.heap.size = g3 at *
    go_region_with ((first
      | (go_at_call 40; refine (onePart_any _ (-1) fs (fun _ => false) (setOf_neg (by decide))).mono ?_; rintro e w2 ⟨v, rfl, hv, hw2⟩; have hb2 := (unhide HB1).drew.next hw2; obtain ⟨y0', y1', y2', y3', y4'⟩ := part_cells hb2.b3; have HD := hide (behind_any w2 _ _ fs _ _ hv ((unhide HV1).drew.below hw2) (oneN_ok _) (unhide HOK) (unhide HLEN)); have HB2 := hide hb2; obtain ⟨nv, sv, zs, rfl, v2, v3, v4⟩ := id hv; obtain ⟨va1, vc1, rfl⟩ := v2.form; obtain ⟨va2, vc2, rfl⟩ := v3.form; clear hv hb2 hw2 v2 v3 v4)
      | (go_at_call 39; refine (unhide HD).mono ?_; rintro e w3 ⟨v', rfl, hv, hw3⟩; have hb3 := (unhide HB2).next hw3; obtain ⟨y0'', y1'', y2'', y3'', y4''⟩ := part_cells hb3.b3; obtain ⟨z0'', z1'', z2'', z3'', z4''⟩ := part_free hb3.b3; obtain ⟨nv', sv', zs', rfl, v2', v3', v4'⟩ := id hv; obtain ⟨va3, vc3, rfl⟩ := v2'.form; obtain ⟨va4, vc4, rfl⟩ := v3'.form; have HB3 := hide hb3; have HV := hide hv; clear hv hb3 hw3 v2' v3' v4')))
    all_goals
      go_wp2_with fail
      go_meet
      exact ⟨_, _, _, _, _, _, _, _, _, (unhide HB3).put _ _ _ _ _, set5_part (unhide HV) ⟨_, _, (unhide HB3).b3⟩⟩
  case rest =>
    rename World => wx
    obtain ⟨c0, c1, c2, n1, n2, m1, m2, p1, p2, HC⟩ := hcut
    clear y0 y1 y2 y3 y4 z0 z1 z2 z3 z4 t0 t1 HB1 HV1
    generalize w1.heap.size = g3 at *
    obtain ⟨nvv, svv, zs, he, h2, h3, h4⟩ := (unhide HC).2
    simp only [Value.agg.injEq, Array.mk.injEq, List.cons.injEq, Value.bool.injEq, Value.int.injEq, true_and, and_true] at he
    obtain ⟨-, -, hc2, rfl, rfl⟩ := he
    have hm1 : m1 = (autN (partN R)).next.length := by
      obtain ⟨a', c', e'⟩ := h2.form
      simp only [Value.slice.injEq] at e'; exact e'.2.1
    have hm2 : m2 = zs.length := by
      obtain ⟨a', c', e'⟩ := h3.form
      simp only [Value.slice.injEq] at e'; exact e'.2.1
    have hb4 : Below wx.heap.size wx (wx.alloc (Obj.cells (autA (.slice n1 m1 p1) (fun _ => 0) (c2 : Int)) 56)) := (Below.refl _ _).alloc (Nat.le_refl _) _
    have HL : Hid (BuL w (wx.alloc (Obj.cells (autA (.slice n1 m1 p1) (fun _ => 0) (c2 : Int)) 56)) g3 wx.heap.size #[.slice (some ⟨g, 0, none⟩) ns.length cap, .slice sa fs.length sc] #[.bool c0, .int .i64 (c1 : Int), .int .i64 (c2 : Int), .slice n1 m1 p1, .slice n2 m2 p2] (.slice n1 m1 p1) (.slice n2 m2 p2) (c2 : Int) (autN (partN R)).next zs (fun _ => 0)) :=
      ⟨(unhide HC).1.next hb4, heap_alloc_new _ _, (unhide HC).1.lt, h2.below hb4, h3.below hb4⟩
    have HZS := hide h4
    have HC2 := hide hc2
    have hzl : zs.length ≤ 50 := by
      have e1 := congrArg List.length h4
      rw [List.length_map, (autN_ok (unhide HOK)).1] at e1
      have e2 : (autN (partN R)).next.length = (oneN fun _ => false).next.length + (partN R).next.length := behindN_len _ _
      have := unhide HLEN
      omega
    have HZL := hide hzl
    have hm2I : (m2 : Int) ≤ 50 := by omega
    have HM2 := hide hm2
    obtain ⟨q0, q1, q2, q3, q4⟩ := part_cells (unhide HC).1.b3
    have hg3 := (unhide HC).1.lt
    have HH3 := hide (unhide HC).1.h3
    clear h2 h3 h4 hb4 hc2 hzl hm1 HC HM2
    subst hm2
    go_wp2_with (refine wpList_store_row0 rfl 56 _ _ rfl rfl wx.heap.size _ rfl rfl 56 _ (heap_alloc_new _ _) (by rw [autA_build, autA_size]; kernel_rfl) (by rw [autA_build, autA_size, zcA_size]) (by rw [autA_build]; exact autA_one _ _ _ _ _) ?_; rw [autA_build, setRow_alloc])
    clear q0 q1 q2 q3 q4
    generalize wx.heap.size = g4 at *
    go_loopw [5] (fun ix w4 => ∃ (k : Nat), ix = .int .i64 (k : Int) ∧ k ≤ zs.length ∧ Hid (BuL w w4 g3 g4 #[.slice (some ⟨g, 0, none⟩) ns.length cap, .slice sa fs.length sc] #[.bool c0, .int .i64 (c1 : Int), .int .i64 (c2 : Int), .slice n1 m1 p1, .slice n2 zs.length p2] (.slice n1 m1 p1) (.slice n2 zs.length p2) (c2 : Int) (autN (partN R)).next zs (fun b => fitN (zs.map (setOf fs)) b k))) (fun ix _ => zs.length - (intOf ix).toNat)
    case atStart => exact ⟨0, rfl, Nat.zero_le _, by exact unhide HL⟩
    case round =>
      rename World => w4
      obtain ⟨k, rfl, hk, HH⟩ := hrel
      obtain ⟨x0, x1, x2, x3, x4⟩ := part_cells (unhide HH).bu.b3
      obtain ⟨t0, t1⟩ := tree_cells (unhide HH).bu.b0
      by_cases hlt : k < zs.length
      · obtain ⟨gz, cz, he, hc⟩ := (unhide HH).zr.at hlt
        simp only [Value.slice.injEq, true_and] at he
        obtain ⟨rfl, rfl⟩ := he
        have hlt' : (k : Int) < (zs.length : Int) := by omega
        have HKZ := hide hlt
        have hgz : gz < w4.heap.size := ((unhide HH).zr.lt gz rfl).2
        have hg3' : g3 < w4.heap.size := (unhide HH).bu.lt
        have hg0 : w.heap.size < w4.heap.size := by have := unhide HH3; omega
        have HFW := hide ((unhide HF).below (unhide HH).bu.below)
        clear hlt x0 x1 x2 x3
        generalize hx : zs.getD k 0 = x at *
        have HX := hide hx
        clear hx
        go_upto_region 7 with fail
        go_cut [6] from 22 to 51 (fun sx wx => ∃ g6, sx = .pointer (some ⟨g6, 0, none⟩) ∧ Hid (BuL w wx g3 g4 #[.slice (some ⟨g, 0, none⟩) ns.length cap, .slice sa fs.length sc] #[.bool c0, .int .i64 (c1 : Int), .int .i64 (c2 : Int), .slice n1 m1 p1, .slice (some ⟨gz, 0, none⟩) zs.length p2] (.slice n1 m1 p1) (.slice (some ⟨gz, 0, none⟩) zs.length p2) (c2 : Int) (autN (partN R)).next zs (fun b => fitN (zs.map (setOf fs)) b k) ∧ wx.heap[g6]? = some (.cells (setA (setOf fs x)) 85 (0, 0)) ∧ g4 < g6))
        case first =>
          go_region_with (go_at_call 41; refine (setAt_any _ _ _ _ _ fs x 0 (by first | exact unhide HFW | exact FsRow.below (w := w4.drew) (unhide HFW) ((Below.refl _ _).alloc (Nat.le_refl _) _) | exact FsRow.below (w := w4) (unhide HFW) ((Below.refl _ _).alloc (Nat.le_refl _) _).drew) (unhide HFL)).mono ?_; rintro e w5 ⟨rfl, hw5⟩; try have hz5 : w5.heap[w4.heap.size]? = some (.cells zcS 85 (0, 0)) := ((hw5.block w4.heap.size (by simp)).trans (heap_alloc_new w4 _)))
          all_goals
            go_wp2_with fail
            go_meet
            first
              | exact ⟨_, rfl, (unhide HH).drew.next (hw5.trans ((Below.refl _ _).alloc (Nat.le_refl _) _ |>.mono hw5.size)), heap_alloc_new _ _, Nat.lt_of_lt_of_le (unhide HH).lt hw5.size⟩
              | exact ⟨_, rfl, BuL.row ((unhide HH).next (((Below.refl _ _).alloc (Nat.le_refl _) _).drew.trans (hw5.mono (by simp)))) (unhide HH).lt _ (fun q hq => Nat.ne_of_lt ((unhide HH).nr.lt q hq).2) (fun q hq => Nat.ne_of_lt ((unhide HH).zr.lt q hq).2), setRow_heap _ _ _ _ _ _ hz5, (unhide HH).lt⟩
        case rest =>
          rename World => w5
          obtain ⟨g6, rfl, HC⟩ := hcut
          clear hc hgz hg3' hg0 x4 t0 t1 HFW HH
          have HKI : Hid (k < 59) := by have := unhide HKZ; have := unhide HZL; show _ < _; omega
          have HSA : Hid (∀ b, setAtN (zs.map (setOf fs)) k b = setOf fs x b) := fun b => by rw [← unhide HX]; exact setAtN_zs (unhide HKZ) b
          have HMV : Hid (∀ w, Calls Try.prog 42 #[.int .i64 1, .int .i64 (k : Int)] w fun e w' => e = .returned (.int .i64 ((2 ^ k : Nat) : Int)) ∧ w' = w) := fun w => by
            have := move_any 1 k w (by have := unhide HKI; omega) (by rw [Nat.one_mul]; exact pow_top (by have := unhide HKI; omega))
            rwa [Nat.one_mul] at this
          go_wp2_with fail
          go_loopw [7] (fun bx w6 => ∃ b : Nat, bx = .int .i64 (b : Int) ∧ Hid (b ≤ 256) ∧ Hid (BuL w w6 g3 g4 #[.slice (some ⟨g, 0, none⟩) ns.length cap, .slice sa fs.length sc] #[.bool c0, .int .i64 (c1 : Int), .int .i64 (c2 : Int), .slice n1 m1 p1, .slice (some ⟨gz, 0, none⟩) zs.length p2] (.slice n1 m1 p1) (.slice (some ⟨gz, 0, none⟩) zs.length p2) (c2 : Int) (autN (partN R)).next zs (fitTo (zs.map (setOf fs)) k b) ∧ w6.heap[g6]? = some (.cells (setA (setOf fs x)) 85 (0, 0)) ∧ g4 < g6)) (fun bx _ => left256 bx)
          case atStart => exact ⟨0, rfl, Nat.zero_le _, (unhide HC).1.congr (fun b _ => fitTo_zero _ _ b), (unhide HC).2⟩
          case round =>
            rename World => w6
            obtain ⟨b, rfl, HB, HH⟩ := hrel
            by_cases hbl : b < 256
            · have hbI : (b : Int) < 256 := by omega
              have HBL := hide hbl
              have hcs : w6.cell? ⟨g6, b, none⟩ = some (.bool (setOf fs x b)) := by rw [cell_of_row _ _ _ _ _ _ (unhide HH).2.1, get_setA _ _ hbl]
              have hcf := (unhide HH).1.fit hbl
              have hfz := frozen_of_row w6 g4 (1 + b) _ _ (unhide HH).1.b4
              have e1 := (i64_or_nat _ (2 ^ k) (fitTo_lt (zs.map (setOf fs)) k b b (unhide HKI)) (pow_top (show k < 60 by have := unhide HKI; omega)))
              generalize hf : fitTo (zs.map (setOf fs)) k b b = y at *
              have HFB := hide hf
              have HSB := hide (unhide HSA b)
              clear hbl hf
              generalize hq : 2 ^ k = q at *
              have HQ := hide hq.symm
              clear hq
              generalize setOf fs x b = z at *
              cases z
              · go_wp2
                go_roundw
                case rel => exact ⟨b + 1, by go_num, (unhide HBL), (unhide HH).1.congr (fun c _ => fitTo_no (unhide HSB) c), (unhide HH).2⟩
                case measure => have := unhide HBL; simp [left256, intOf]; omega
              · go_wp2
                go_region_with (go_at_call 42; refine (unhide HMV _).mono ?_; rintro e w' ⟨rfl, rfl⟩)
                all_goals
                  go_wp2
                  go_roundw
                  case rel =>
                    refine ⟨b + 1, by go_num, (unhide HBL), (((unhide HH).1.step (unhide HBL) (y ||| q)).drew.congr (fun c _ => ?_)), ?_, (unhide HH).2.2⟩
                    · rw [← unhide HFB, unhide HQ]; exact fitTo_yes (unhide HSB) c
                    · show (w6.setCell _ _).heap[g6]? = _; rw [Below.heap_setCell _ _ _ _ (by have := (unhide HH).2.2; simp; omega)]; exact (unhide HH).2.1
                  case measure => have := unhide HBL; simp [left256, intOf]; omega
            · have hb2 : b = 256 := by have := unhide HB; omega
              subst hb2
              have HZ := hide ((unhide HH).1.congr (fun c hc => fitTo_all _ _ c hc))
              go_wp2
              go_roundw
              case rel => exact ⟨k + 1, by go_num, unhide HKZ, unhide HZ⟩
              case measure => have := unhide HKZ; simp [intOf]; omega
      · have hk2 : k = zs.length := by omega
        subst hk2
        have hZ := unhide HH
        have hsl : (zs.map (setOf fs)).length = zs.length := List.length_map _
        have hF : (fun b => fitN (zs.map (setOf fs)) b zs.length) = fitP (autN (partN R)) := by
          funext b; unfold fitP; rw [← unhide HZS, hsl]
        rw [hF, unhide HC2] at hZ
        have HZ := hide hZ
        have h3 := unhide HH3
        clear hZ hF hsl x0 x1 x2 x3
        go_wp2_with (first
          | refine wpList_load_row rfl 56 _ rfl g4 rfl 56 _ (0, 0) _ (unhide HZ).b4 Try.underlying56 rfl (by rw [autA_size]; kernel_rfl) ?_
          | refine wpList_store_row rfl 56 _ _ rfl (w.heap.size + 1) _ rfl rfl 56 _ (unhide HZ).bu.b1 (by rw [autA_size]; kernel_rfl) (by rw [autA_size, zcA_size]) (autA_one _ _ _ _ _) ?_)
        refine bodyPost_ret (v := .agg (autA (.slice n1 m1 p1) (fitP (autN (partN R))) ((autN (partN R)).last : Int)))
          (results_cell_row (p := 2) (ty := 56) rfl _ _ (w.heap.size + 1) 56 _ (0, 0) _ rfl (setRow_heap _ _ _ _ _ _ (unhide HZ).bu.b1) Try.underlying56 rfl (by rw [autA_size]; kernel_rfl)) rfl
          ⟨_, rfl, ⟨_, rfl, own_setRow (unhide HZ).nr (fun q hq e => ?_) _⟩, below_setRow (unhide HZ).bu.below (by omega) _⟩
        have hb1 := (unhide HZ).bu.b1
        rw [← e] at hb1
        exact own_not_at (unhide HZ).nr hq hb1 (by decide)

end Go.Proofs.Ytobfpgoepaeknaa
