/-
  The graph: Draw.
-/
import Derived.Test.YtobfpgoepaeknaaT25
namespace Go.Proofs.Ytobfpgoepaeknaa
open Go.RowKit
attribute [local go_sem ↓] Go.wp_at_zero Go.wp_at_succ zvG
attribute [local go_sem] zcG_size zcG_ne cells_agg

theorem setRow_alloc2 (w : World) (o : Obj) (A B : Array Value) (t : TypeId) : ((w.alloc o).alloc (Obj.cells A t)).setRow (w.heap.size + 1) B = (w.alloc o).alloc (Obj.cells B t) := by
  have := setRow_alloc (w.alloc o) A B t
  simpa using this
/-- Where a letter leads. -/
def dlP (p : Part) (hb : List Nat) : Nat → Nat → Nat := fun s c => reachP p s &&& fitP p (hb.getD c 0)
theorem dlP_lt {p : Part} (hp : p.Ok) (hb : List Nat) (s c : Nat) : dlP p hb s c < 2 ^ p.next.length :=
  Nat.lt_of_le_of_lt Nat.and_le_left (reachN_lt hp.2.2.2 s _)
/-- What is told of the states so far. -/
def GrTo (p : Part) (st : List Nat) (grs : List Bool) : Prop := ∀ i, i < grs.length → grs.getD i false = decide (st.getD i 0 &&& p.last ≠ 0)
theorem GrTo.snoc {p : Part} {st : List Nat} {grs : List Bool} (h : GrTo p st grs) : GrTo p st (grs ++ [decide (st.getD grs.length 0 &&& p.last ≠ 0)]) := fun i hi => by
  by_cases e : i = grs.length
  · subst e; simp [List.getD_eq_getElem?_getD]
  · have : i < grs.length := by simp at hi; omega
    rw [List.getD_eq_getElem?_getD, List.getElem?_append_left this, ← List.getD_eq_getElem?_getD]; exact h i this
theorem GrTo.more {p : Part} {st : List Nat} {grs : List Bool} (h : GrTo p st grs) (s : Nat) (hl : grs.length ≤ st.length) : GrTo p (st ++ [s]) grs := fun i hi => by
  rw [getD_snoc_old (by omega)]; exact h i hi

/-- In the midst of drawing: e edges are drawn, the states from 0 to f have been told. -/
structure DwJ (w wr : World) (gM : Nat) (p : Part) (F : Nat → Nat) (hb st : List Nat) (e f : Nat) (lv stv : Value) : Prop where
  ex : ∃ nus nxs grs gv nv nuv, DwI w wr gM p F hb st nus nxs grs lv gv nv stv nuv ∧ RollOk (2 ^ p.next.length) st nus ∧ Drawn (2 ^ p.next.length) hb.length (dlP p hb) st e nxs ∧ GrTo p st grs ∧ grs.length = f ∧ f ≤ st.length

set_option maxRecDepth 20000 in
set_option maxHeartbeats 2000000 in
theorem Draw_any (w : World) (ga : Nat) (p : Part) (hA : AutB w ga p) (hp : p.Ok) (hl : p.next.length ≤ 13) (hl1 : 1 ≤ p.next.length) :
    Calls Try.prog 53 #[.pointer (some ⟨ga, 0, none⟩)] w fun e w' => ∃ lv F gv nv hb st nxs grs, e = .returned (.agg (graphA lv F gv nv)) ∧ Below w.heap.size w w' ∧ NRow w' w.heap.size lv (hb.map (fitP p)) ∧ BRow w' w.heap.size gv grs ∧ NRow w' w.heap.size nv nxs ∧
      Sorted 256 (fun b b' => fitP p b = fitP p b') hb F ∧ Drawn (2 ^ p.next.length) hb.length (dlP p hb) st (st.length * hb.length) nxs ∧ GrTo p st grs ∧ grs.length = st.length := by
  have HA := hide hA
  have HP := hide hp
  have HL := hide hl
  have HL1 := hide hl1
  have hB0 : Below w.heap.size w ((w.alloc (.cells zcG 101)).alloc (.cells zcG 101)) := ((Below.refl _ _).alloc (Nat.le_refl _) _).alloc (by simp) _
  have HSB := hide (sortBytes_any _ (w.heap.size + 1) ga p (.slice none 0 0) (.slice none 0 0) (hA.below hB0) (heap_alloc2_new w _ (Obj.cells zcG 101)))
  have HB0 := hide hB0
  clear hA hp hl hl1 hB0
  go_enter Try.func53, Try.ntmps53
  go_wp2_with (refine wpList_store_row0 rfl 101 _ _ rfl rfl (w.heap.size + 1) _ rfl rfl 101 _ (heap_alloc2_new w _ (Obj.cells zcG 101)) (by rw [zcG_size]; kernel_rfl) (by rw [zcG_size]) (graphA_one _ _ _ _ _ _ _ _ _ _) ?_; rw [setRow_alloc2])
  refine (unhide HSB).mono ?_
  rintro e w1 ⟨rfl, lv, F, hb, hsb⟩
  have hw1 : Below w.heap.size w w1 := (unhide HB0).trans ⟨hsb.fr.os, hsb.fr.tape, hsb.fr.output, hsb.fr.size, fun k hk => hsb.fr.block k (by simp; omega) (by simp; omega)⟩
  have hA1 := (unhide HA).below hw1
  obtain ⟨av, ha, har⟩ := id hA1
  obtain ⟨aa, ac, rfl⟩ := har.form
  have y0 : w1.cell? ⟨ga, 0, none⟩ = some (.slice aa p.next.length ac) := by rw [cell_of_row _ _ _ _ _ _ ha, autA_0]
  have hbR : w1.heap[w.heap.size]? = some (.cells zcG 101 (0, 0)) := hsb.fr.at (heap_alloc2_old w _ _) (by simp)
  have hsz : w.heap.size + 2 ≤ w1.heap.size := by have := hsb.fr.size; simpa using this
  have hnI : (p.next.length : Int) ≤ 13 := by have := unhide HL; omega
  have HBP : Hid (2 ^ p.next.length ≤ 10000) := by
    have : 2 ^ p.next.length ≤ 2 ^ 13 := Nat.pow_le_pow_right (by omega) (unhide HL)
    show _ ≤ _
    omega
  have HMV : Hid (∀ w, Calls Try.prog 42 #[.int .i64 1, .int .i64 (p.next.length : Int)] w fun e w' => e = .returned (.int .i64 ((2 ^ p.next.length : Nat) : Int)) ∧ w' = w) := fun w => by
    have := move_any 1 p.next.length w (by have := unhide HL; omega) (by rw [Nat.one_mul]; exact pow_top (by have := unhide HL; omega))
    rwa [Nat.one_mul] at this
  have HB1 : Hid (1 < 2 ^ p.next.length) := by
    have : 2 ^ 1 ≤ 2 ^ p.next.length := Nat.pow_le_pow_right (by omega) (unhide HL1)
    show _ < _
    omega
  have HPB : Hid (∀ s c, dlP p hb s c < 2 ^ p.next.length) := dlP_lt (unhide HP) hb
  obtain ⟨i, i0, i1, i2, i3⟩ := info_of info3
  have HI := hide (And.intro i0 (And.intro i1 (And.intro i2 i3)))
  have HSO := hide hsb.so
  have HHB : Hid (hb.length ≤ 256) := hsb.so.len_le
  have HM0 : Hid (0 < hb.length) := (hsb.so.zero (by decide)).1
  -- what lies in memory when the roll has been made
  have h1 : Below w1.heap.size w1 ((w1.alloc (.cells (madeCells #[.int .i64 0] (2 ^ p.next.length)) 3)).alloc (.cells #[.slice none 0 0, .slice (some ⟨w1.heap.size, 0, none⟩) (2 ^ p.next.length) (2 ^ p.next.length)] 124)) := ((Below.refl _ _).alloc (Nat.le_refl _) _).alloc (by simp) _
  have hru : NRow (w1.alloc (.cells (madeCells #[.int .i64 0] (2 ^ p.next.length)) 3)) w.heap.size (.slice (some ⟨w1.heap.size, 0, none⟩) (2 ^ p.next.length) (2 ^ p.next.length)) (List.replicate (2 ^ p.next.length) 0) := NRow.new (by omega) (by have := unhide HBP; unfold maxLen; omega)
  have HD0 : Hid (DwI w ((w1.alloc (.cells (madeCells #[.int .i64 0] (2 ^ p.next.length)) 3)).alloc (.cells #[.slice none 0 0, .slice (some ⟨w1.heap.size, 0, none⟩) (2 ^ p.next.length) (2 ^ p.next.length)] 124)) (w1.heap.size + 1) p F hb [] (List.replicate (2 ^ p.next.length) 0) [] [] lv (.slice none 0 0) (.slice none 0 0) (.slice none 0 0) (.slice (some ⟨w1.heap.size, 0, none⟩) (2 ^ p.next.length) (2 ^ p.next.length))) :=
    ⟨hw1.trans (h1.mono hw1.size), (h1.block _ (by omega)).trans hbR, (h1.block _ (by omega)).trans hsb.bg, heap_alloc2_new w1 _ _, by omega, ownsRow_less (hsb.row.below h1) (by simp; omega), World.ownsRow_nil _ _ _ _, World.ownsRow_nil _ _ _ _, World.ownsRow_nil _ _ _ _, World.ownsRow.alloc hru _, (Dj.nil _).symm, (Dj.nil _).symm, fun q h1 h2 => (by have : w1.heap.size = q := (by simpa [Value.ownBlock] using h2); have := (hsb.row.lt q h1).2; omega), Dj.nil _, Dj.nil _, Dj.nil _⟩
  have hr0 : RollOk (2 ^ p.next.length) [] (List.replicate (2 ^ p.next.length) 0) := RollOk.start
  have HN0 := hide (number_new _ (w1.heap.size + 1) w.heap.size _ _ _ _ 1 (unhide HD0).bM (unhide HD0).rs (unhide HD0).ru (unhide HD0).d6 (unhide HD0).below.size (by rw [List.length_replicate]; exact unhide HB1) (by rw [List.length_replicate]; exact unhide HBP) (by simp) (by simp [List.getD_eq_getElem?_getD, unhide HB1]))
  have HR0 := hide hr0
  have HW1 := hide hw1
  clear i0 i1 i2 i3 ha har hA1 hbR hsb hw1 h1 hru hr0 HB0 HSB
  generalize hq : 2 ^ p.next.length = q at *
  have HQ := hide hq
  have hqI : (q : Int) ≤ 10000 := by have := unhide HBP; omega
  have HQ2 := HBP
  clear hq
  go_wp2_with (first
    | (go_at_call 42; refine (unhide HMV _).mono ?_; rintro e w' ⟨rfl, hww⟩; obtain rfl : w1 = w' := hww.symm)
    | (refine wpList_make_row _ rfl _ _ 53 rfl 3 i (.int .i64 0) Try.underlying53 (unhide HI).1 (unhide HI).2.1 (unhide HI).2.2.1 rfl .i64 .i64 q rfl rfl (by rw [(unhide HI).2.2.2]; have := unhide HQ2; omega) (by have := unhide HQ2; omega) ?_))
  refine (unhide HN0).mono ?_
  rintro e w2 ⟨rfl, g0, cap0, hfr, hlies, hbM, hst, hnu⟩
  have HJ : Hid (∃ stv, DwJ w w2 (w1.heap.size + 1) p F hb [1] 0 0 lv stv) := by
    refine ⟨_, ⟨_, _, _, _, _, _, (unhide HD0).meet hfr hlies hbM hst hnu, ?_, ?_, fun i hi => absurd hi (Nat.not_lt_zero _), rfl, Nat.zero_le _⟩⟩
    · rw [unhide HQ]; exact (unhide HR0).new (unhide HB1)
    · rw [unhide HQ]; exact Drawn.start (unhide HB1)
  clear hfr hlies hbM hst hnu HN0 HD0 HR0 y0
  generalize w1.heap.size + 1 = gM at *
  obtain ⟨j, j0, j1, j2, j3⟩ := info_of infoBool
  have HJ2 := hide (And.intro j0 (And.intro j1 (And.intro j2 j3)))
  clear j0 j1 j2 j3
  go_wp2_with fail
  go_loopw [5] (fun ix wr => ∃ (m : Nat) (st : List Nat) (stv : Value), ix = .int .i64 (m : Int) ∧ Hid (m ≤ st.length ∧ DwJ w wr gM p F hb st (m * hb.length) m lv stv)) (fun ix _ => q - (intOf ix).toNat)
  case atStart =>
    obtain ⟨stv, h⟩ := unhide HJ
    exact ⟨0, [1], stv, rfl, Nat.zero_le _, by rw [Nat.zero_mul]; exact h⟩
  case round =>
    rename_i wr
    obtain ⟨m, st, stv, rfl, HH⟩ := hrel
    obtain ⟨hms, ⟨nus, nxs, grs, gv, nv, nuv, hI, hR, hD, hG, hgl, hgs⟩⟩ := unhide HH
    rw [unhide HQ] at hR hD
    have hsq : st.length ≤ q := hD.size
    have HSQ : Hid (st.length ≤ q) := hsq
    have hsI : (st.length : Int) ≤ 10000 := by have := unhide HQ2; omega
    obtain ⟨sa, sc, rfl⟩ := hI.rs.form
    have c0 : wr.cell? ⟨gM, 0, none⟩ = some (.slice sa st.length sc) := by rw [cell_of_row _ _ _ _ _ _ hI.bM]; rfl
    by_cases hlt : m < st.length
    · have hltI : (m : Int) < (st.length : Int) := by omega
      obtain ⟨gs, caps, he, hc⟩ := hI.rs.at hlt
      simp only [Value.slice.injEq, true_and] at he
      obtain ⟨rfl, rfl⟩ := he
      obtain ⟨ggr, capg, rfl⟩ := hI.rg.form
      have y257 : wr.cell? ⟨w.heap.size + 1, 257, none⟩ = some (.slice ggr grs.length capg) := by rw [cell_of_row _ _ _ _ _ _ hI.bG, graphA_257]
      have HLT := hide hlt
      have hxt : st.getD m 0 < top := Nat.lt_of_lt_of_le (hD.bound m hlt) (by have := unhide HQ2; unfold top; omega)
      have HXT := hide hxt
      have HI1 := hide hI
      have HR := hide hR
      have HD := hide hD
      have HG := hide hG
      have HGL := hide hgl
      generalize hx : st.getD m 0 = x at *
      have HX := hide hx
      have HAW := hide ((unhide HA).below hI.below)
      have hg1 : w.heap.size + 1 < wr.heap.size := Nat.lt_trans hI.hM hI.lt
      have HGN : Hid (grs.length ≤ 10000) := by have := unhide HQ2; show _ ≤ _; omega
      have HGR : Hid (∀ W, AutB W ga p → Calls Try.prog 44 #[.pointer (some ⟨ga, 0, none⟩), .int .i64 (x : Int)] W fun e w' => e = .returned (.bool (decide (x &&& p.last ≠ 0))) ∧ w' = W) := fun W hW => grants_any W ga p x hW (unhide HP) (by have := unhide HL; omega) (unhide HXT)
      have HRC : Hid (∀ W, AutB W ga p → Calls Try.prog 43 #[.pointer (some ⟨ga, 0, none⟩), .int .i64 (x : Int)] W fun e w' => e = .returned (.int .i64 ((reachP p x : Nat) : Int)) ∧ w' = W) := fun W hW => reach_any W ga p x hW (unhide HP) (by have := unhide HL; omega) (unhide HXT)
      have HRT : Hid (reachP p x < top) := reachP_lt (unhide HP) (by have := unhide HL; omega) x
      generalize hy : decide (x &&& p.last ≠ 0) = y at *
      have HY := hide hy
      have HO2 := hide (World.ownsRow.alloc (unhide HI1).rg (Obj.cells #[.bool y] 4))
      have HS2 := hide ((unhide HI1).alloc (Obj.cells #[.bool y] 4)).drew
      have hz257 := frozen_of_row wr (w.heap.size + 1) 257 _ _ (unhide HI1).bG
      have HSZ : Hid (w.heap.size ≤ wr.heap.size) := (unhide HI1).below.size
      have HOFF : Hid (∀ q, (Value.slice ggr grs.length capg).ownBlock = some q → q ≠ w.heap.size + 1) := own_off (unhide HI1).rg (unhide HI1).bG (by decide)
      clear hlt hms hI hR hD hG hgl hgs hsq hxt hx HH hy
      go_upto_region 9 with fail
      go_cut [] from 22 to 65 (fun wx => ∃ v', Hid (DwI w wx gM p F hb st nus nxs (grs ++ [y]) lv v' nv (.slice (some ⟨gs, 0, none⟩) st.length sc) nuv))
      case first =>
        go_region_law (first
          | (refine step_append_own (by rfl) _ _ _ (by rfl) w.heap.size 4 j (.bool false) 1 1 Try.underlying66 (unhide HJ2).1 (unhide HJ2).2.1 (unhide HJ2).2.2.1 (unhide HJ2).2.2.2 rfl (by decide) _ _ _ (by rfl) (by exact unhide HO2) ⟨wr.heap.size, 0, none⟩ 1 1 [.bool y] (by rfl) rfl (by exact cell_one_new _ _ _) (by intro u hu; simp at hu; subst hu; rfl) (by have := unhide HGN; unfold maxLen; omega) (by have := unhide HGN; omega) (by have := unhide HSZ; simp; omega) ?_; intro v' w3 ho3 hgrow; have hb3 : w3.heap[w.heap.size + 1]? = _ := (hgrow.block (w.heap.size + 1) (by simp; omega) (fun e => unhide HOFF _ e.symm rfl)).trans (unhide HS2).bG; have y0 : w3.cell? ⟨w.heap.size + 1, 257, none⟩ = some (.slice ggr grs.length capg) := (by rw [cell_of_row _ _ _ _ _ _ hb3, graphA_257]); have z0 := frozen_of_row w3 (w.heap.size + 1) 257 _ _ hb3; have HN := hide (DwI.grant (unhide HS2) hgrow ho3); obtain ⟨va3, n3, vc3, rfl⟩ := own_slice ho3; clear hb3 ho3 hgrow)
          | (go_simp; go_at_call 44; refine (unhide HGR _ (by exact (unhide HAW).drew)).mono ?_; rintro e w' ⟨rfl, hww⟩; obtain rfl : wr.drew = w' := hww.symm))
        all_goals
          go_wp2_with fail
          go_meet
          exact ⟨_, unhide HN⟩
      case rest =>
        rename World => w3
        obtain ⟨v', HC⟩ := hcut
        clear c0 hc y257 hg1 hz257 HI1 HAW HS2 HO2 HOFF HSZ HGR
        have HAW := hide ((unhide HA).below (unhide HC).below)
        go_wp2_with fail
        refine (unhide HRC _ (unhide HAW)).mono ?_
        rintro e w4 ⟨rfl, hww⟩
        obtain rfl : w3 = w4 := hww.symm
        clear hww HRC
        have HJ3 : Hid (DwJ w w3 gM p F hb st (m * hb.length + 0) (m + 1) lv (.slice (some ⟨gs, 0, none⟩) st.length sc)) := by
          refine ⟨_, _, _, _, _, _, unhide HC, by rw [unhide HQ]; exact unhide HR, by rw [unhide HQ]; exact unhide HD, ?_, by simp [unhide HGL], by have := unhide HLT; omega⟩
          have := (unhide HG).snoc
          rw [unhide HGL, unhide HX, unhide HY] at this
          exact this
        clear HC HR HD HG HGL
        go_wp2_with fail
        go_loopw [8] (fun kx w6 => ∃ (k : Nat) (st2 : List Nat) (stv2 : Value), kx = .int .i64 (k : Int) ∧ Hid (k ≤ hb.length ∧ DwJ w w6 gM p F hb st2 (m * hb.length + k) (m + 1) lv stv2 ∧ st2.getD m 0 = x)) (fun kx _ => hb.length - (intOf kx).toNat)
        case atStart => exact ⟨0, st, _, rfl, Nat.zero_le _, unhide HJ3, unhide HX⟩
        case round =>
          rename World => w6
          obtain ⟨k, st2, stv2, rfl, HH⟩ := hrel
          obtain ⟨hk, ⟨nus2, nxs2, grs2, gv2, nv2, nuv2, hI, hR, hD, hG, hgl, hgs⟩, hx2⟩ := unhide HH
          rw [unhide HQ] at hR hD
          obtain ⟨la, lc, hlv⟩ := hI.rl.form
          rw [List.length_map] at hlv
          subst hlv
          have y0 : w6.cell? ⟨w.heap.size + 1, 0, none⟩ = some (.slice la hb.length lc) := by rw [cell_of_row _ _ _ _ _ _ hI.bG, graphA_0]
          have hbI : (hb.length : Int) ≤ 256 := by have := unhide HHB; omega
          have HI1 := hide hI
          by_cases hlt : k < hb.length
          · have hltI : (k : Int) < (hb.length : Int) := by omega
            obtain ⟨gl, capl, he, hc⟩ := hI.rl.at (k := k) (by rw [List.length_map]; exact hlt)
            rw [getD_map_fit p hlt] at hc
            simp only [Value.slice.injEq, List.length_map, true_and] at he
            obtain ⟨rfl, rfl⟩ := he
            have HLT2 := hide hlt
            have HSL : Hid (st2.length ≤ q) := hD.size
            have hs : dlP p hb x k < q := unhide HPB x k
            have HS := hide hs
            have e1 := i64_and_nat _ _ (unhide HRT) (fitP_lt (unhide HP) (by have := unhide HL; omega) (hb.getD k 0))
            have HR := hide hR
            have HD := hide hD
            have HG := hide hG
            have HGL := hide hgl
            have HGS := hide hgs
            have HX2 := hide hx2
            have hdm : (m * hb.length + k) / hb.length = m ∧ (m * hb.length + k) % hb.length = k := edge_div hlt
            have HDM := hide hdm
            have hnl : nxs2.length = m * hb.length + k := hD.len
            have HNL : Hid (nxs2.length ≤ 2560000) := by
              have h1 : m * hb.length ≤ 10000 * 256 := Nat.mul_le_mul (by have := unhide HQ2; omega) (unhide HHB)
              have h2 : (m + 1) * hb.length ≤ 10000 * 256 := Nat.mul_le_mul (by have := unhide HQ2; omega) (unhide HHB)
              rw [Nat.add_mul] at h2
              show _ ≤ _
              omega
            generalize hdl : dlP p hb x k = s at *
            have hsd : reachP p x &&& fitP p (hb.getD k 0) = s := hdl
            rw [hsd] at e1
            have HDL := hide hdl
            have hg1 : w.heap.size + 1 < w6.heap.size := Nat.lt_trans hI.hM hI.lt
            obtain ⟨na2, nc2, rfl⟩ := hI.rn.form
            clear hlt hk hI hR hD hG hgl hgs hx2 HH hdl hsd hdm hnl hs
            generalize fitP p (hb.getD k 0) = yf at *
            generalize reachP p x = rx at *
            go_upto_region 14 with fail
            go_cut [9] from 45 to 65 (fun nx wx => ∃ (n : Nat) (st3 nus3 : List Nat) (stv3 : Value), nx = .int .i64 (n : Int) ∧ Hid (DwI w wx gM p F hb st3 nus3 nxs2 grs2 (.slice (some ⟨gl, 0, none⟩) hb.length lc) gv2 (.slice na2 nxs2.length nc2) stv3 nuv2 ∧ RollOk q st3 nus3 ∧ Drawn q hb.length (dlP p hb) st3 (m * hb.length + k + 1) (nxs2 ++ [n]) ∧ GrTo p st3 grs2 ∧ m + 1 ≤ st3.length ∧ st3.getD m 0 = x))
            case first =>
              by_cases h0 : nus2.getD s 0 = 0
              · have HN1 := hide (number_new _ gM w.heap.size _ _ _ _ s (unhide HI1).bM (unhide HI1).rs (unhide HI1).ru (unhide HI1).d6 (unhide HI1).below.size (by rw [(unhide HR).len]; exact unhide HS) (by rw [(unhide HR).len]; exact unhide HQ2) (Nat.le_trans (unhide HSL) (unhide HQ2)) h0)
                have HH0 := hide h0
                clear h0
                go_wp2_with fail
                refine (unhide HN1).mono ?_
                rintro e w7 ⟨rfl, g3, cap3, hfr, hlies, hbM, hst, hnu⟩
                have HM7 := hide ((unhide HI1).meet hfr hlies hbM hst hnu)
                clear hfr hlies hbM hst hnu
                go_wp2_with fail
                go_meet
                have hml := unhide HGS
                refine ⟨_, _, _, _, rfl, unhide HM7, (unhide HR).new (unhide HS), (unhide HD).new (unhide HM0) (by rw [(unhide HDM).1]; omega) (by rw [(unhide HDM).1, (unhide HDM).2, unhide HX2]; exact (unhide HDL).symm) (unhide HS) ((unhide HR).no s (unhide HS) (unhide HH0)), (unhide HG).more s (by rw [unhide HGL]; exact hml), by simp; omega, by rw [getD_snoc_old (by omega)]; exact unhide HX2⟩
              · obtain ⟨n, hn⟩ : ∃ n, nus2.getD s 0 = n + 1 := ⟨nus2.getD s 0 - 1, by omega⟩
                have hyes := (unhide HR).yes s (unhide HS) h0
                rw [hn, Nat.add_sub_cancel] at hyes
                have HYES := hide hyes
                have HN1 := hide (number_old _ gM w.heap.size _ _ _ s n (unhide HI1).bM (unhide HI1).ru (by rw [(unhide HR).len]; exact unhide HS) (by rw [(unhide HR).len]; exact unhide HQ2) hn (by have := unhide HSL; have := unhide HQ2; omega))
                clear h0 hn hyes
                go_wp2_with fail
                refine (unhide HN1).mono ?_
                rintro e w7 ⟨rfl, hww⟩
                obtain rfl : w6 = w7 := hww.symm
                clear hww
                go_wp2_with fail
                go_meet
                have hml := unhide HGS
                exact ⟨_, _, _, _, rfl, unhide HI1, unhide HR, (unhide HD).old (unhide HM0) (by rw [(unhide HDM).1]; omega) (unhide HYES).1 (by rw [(unhide HDM).1, (unhide HDM).2, unhide HX2, (unhide HYES).2]; exact (unhide HDL).symm), unhide HG, hml, unhide HX2⟩
            case rest =>
              rename World => w7
              obtain ⟨n, st3, nus3, stv3, rfl, HC⟩ := hcut
              clear y0 hc hg1 HI1 HR HD HG HX2 HGS
              have HO2 := hide (World.ownsRow.alloc (unhide HC).1.rn (Obj.cells #[.int .i64 (n : Int)] 3))
              have HS2 := hide ((unhide HC).1.alloc (Obj.cells #[.int .i64 (n : Int)] 3))
              have y258 : w7.cell? ⟨w.heap.size + 1, 258, none⟩ = some (.slice na2 nxs2.length nc2) := by rw [cell_of_row _ _ _ _ _ _ (unhide HC).1.bG, graphA_258]
              have HOFF : Hid (∀ q, (Value.slice na2 nxs2.length nc2).ownBlock = some q → q ≠ w.heap.size + 1) := own_off (unhide HC).1.rn (unhide HC).1.bG (by decide)
              have HSZ : Hid (w.heap.size ≤ w7.heap.size) := (unhide HC).1.below.size
              have hg1 : w.heap.size + 1 < w7.heap.size := Nat.lt_trans (unhide HC).1.hM (unhide HC).1.lt
              go_wp2_with (at_builtin; refine wpList_append_lies _ rfl (.tmp 61) (.tmp 63) 53 rfl w.heap.size 3 i (.int .i64 0) 1 8 Try.underlying53 (unhide HI).1 (unhide HI).2.1 (unhide HI).2.2.1 (unhide HI).2.2.2 rfl (by decide) _ _ _ rfl (unhide HO2) ⟨w7.heap.size, 0, none⟩ 1 1 [.int .i64 (n : Int)] rfl rfl (cell_one_new _ _ _) (by intro u hu; simp at hu; subst hu; rfl) (by decide) (by have := unhide HNL; unfold maxLen; omega) (by have := unhide HNL; omega) (by have := unhide HSZ; simp; omega) (w7.heap.size + 1) (by simp) ?_; intro g5 cap5 w8 ho hgrow hlies hlt5; have hb3 : w8.heap[w.heap.size + 1]? = _ := (hgrow.block (w.heap.size + 1) (by simp; omega) (fun e => unhide HOFF _ e.symm rfl)).trans (unhide HS2).bG; have y8 : w8.cell? ⟨w.heap.size + 1, 258, none⟩ = some (.slice na2 nxs2.length nc2) := (by rw [cell_of_row _ _ _ _ _ _ hb3, graphA_258]); have z8 := frozen_of_row w8 (w.heap.size + 1) 258 _ _ hb3; have HN := hide (DwI.edge (unhide HS2) hgrow ho (hlies.elim Or.inl (fun e => Or.inr (by rw [e]; simp)))); clear hb3 ho hgrow hlies)
              go_roundw
              case rel =>
                obtain ⟨c1, c2, c3, c4, c5, c6⟩ := unhide HC
                exact ⟨k + 1, st3, _, by go_num, unhide HLT2, ⟨_, _, _, _, _, _, unhide HN, by rw [unhide HQ]; exact c2, by rw [unhide HQ]; exact c3, c4, unhide HGL, c5⟩, c6⟩
              case measure => have := unhide HLT2; simp [intOf]; omega
          · have hk2 : k = hb.length := by omega
            subst hk2
            have HRES : Hid (m + 1 ≤ st2.length ∧ DwJ w w6 gM p F hb st2 ((m + 1) * hb.length) (m + 1) (.slice la hb.length lc) stv2) := by
              refine ⟨hgs, ⟨nus2, nxs2, grs2, gv2, nv2, nuv2, hI, ?_, ?_, hG, hgl, hgs⟩⟩
              · rw [unhide HQ]; exact hR
              · rw [unhide HQ, Nat.add_mul, Nat.one_mul]; exact hD
            have HMQ : Hid (m + 1 ≤ q) := Nat.le_trans hgs hD.size
            clear hI hR hD hG hgl hgs hx2 HH
            go_wp2
            go_roundw
            case rel => exact ⟨m + 1, st2, stv2, by go_num, unhide HRES⟩
            case measure => have := unhide HMQ; simp [intOf]; omega
    · have hk2 : m = st.length := by omega
      subst hk2
      have HI1 := hide hI
      have HR := hide hR
      have HD := hide hD
      have HG := hide hG
      have HGL := hide hgl
      obtain ⟨ggr, capg, rfl⟩ := hI.rg.form
      obtain ⟨nna, ncn, rfl⟩ := hI.rn.form
      obtain ⟨la, lc, rfl⟩ := hI.rl.form
      clear hI hR hD hG hgl hgs hsq hms HH
      go_wp2_with (first
        | refine wpList_load_row rfl 101 _ rfl (w.heap.size + 1) rfl 101 _ (0, 0) _ (unhide HI1).bG Try.underlying101 rfl (by rw [graphA_size]; kernel_rfl) ?_
        | refine wpList_store_row rfl 101 _ _ rfl w.heap.size _ rfl rfl 101 _ (unhide HI1).bR (by rw [graphA_size]; kernel_rfl) (by rw [graphA_size, zcG_size]) (graphA_one _ _ _ _ _ _ _ _ _ _) ?_)
      refine bodyPost_ret (v := .agg (graphA (.slice la (hb.map (fitP p)).length lc) F (.slice ggr grs.length capg) (.slice nna nxs.length ncn)))
        (results_cell_row (p := 2) (ty := 101) rfl _ _ w.heap.size 101 _ (0, 0) _ rfl (setRow_heap _ _ _ _ _ _ (unhide HI1).bR) Try.underlying101 rfl (by rw [graphA_size]; kernel_rfl)) rfl
        ⟨_, _, _, _, hb, st, nxs, grs, rfl, below_setRow (unhide HI1).below (Nat.le_refl _) _, own_setRow (unhide HI1).rl (own_off (unhide HI1).rl (unhide HI1).bR (by decide)) _, own_setRow (unhide HI1).rg (own_off (unhide HI1).rg (unhide HI1).bR (by decide)) _, own_setRow (unhide HI1).rn (own_off (unhide HI1).rn (unhide HI1).bR (by decide)) _, unhide HSO, by rw [unhide HQ]; exact unhide HD, unhide HG, unhide HGL⟩

end Go.Proofs.Ytobfpgoepaeknaa
