/-
  table.ofGraph: the table of a graph.
-/
import Derived.Test.YtobfpgoepaeknaaT27
namespace Go.Proofs.Ytobfpgoepaeknaa
open Go.RowKit
attribute [local go_sem ↓] Go.wp_at_zero Go.wp_at_succ zvT
attribute [local go_sem] zcT_size zcT_ne cells_agg

theorem fold_small {N : Nat} {E : Nat → Nat → Prop} {ks hs : List Nat} (hN : N ≤ 10000) (h1 : hs.length ≤ 24) (h2 : ks.length = N) (h3 : Sorted N E hs (fun i => ks.getD i 0)) : SmallF ks hs := by
  refine ⟨by omega, h1, fun k => ?_⟩
  by_cases hk : k < hs.length
  · have := (h3.head k hk).1; omega
  · rw [List.getD_eq_getElem?_getD, List.getElem?_eq_none (by omega)]; simp

set_option maxRecDepth 20000 in
set_option maxHeartbeats 4000000 in
theorem ofGraph_any (w : World) (g : Nat) (hb : List Nat) (F : Nat → Nat) (grs : List Bool) (nxs : List Nat) (h : GraphB w g hb.length F grs nxs) (sm : Small hb.length grs nxs) (E0 : Nat → Nat → Prop) (hl : Sorted 256 E0 hb F)
    (L : List Nat → Prop) (hd : BfsDfa L grs.length (fun i b => nlM nxs hb.length i (F b)) (fun i => grs.getD i false)) :
    Calls Try.prog 54 #[.pointer (some ⟨g, 0, none⟩)] w fun e w' => Below w.heap.size w w' ∧ ((∃ v, e = .returned (.tuple #[v, .int .i64 0]) ∧ TabV w' w.heap.size v L) ∨ (e = .returned (.tuple #[.agg zcT, .int .i64 3]) ∧ (ManyStates L ∨ ManyClasses L))) := by
  have hB0 : Below w.heap.size w (w.alloc (.cells zcT 68)) := (Below.refl _ _).alloc (Nat.le_refl _) _
  have HFO := hide (fold_any (w.alloc (.cells zcT 68)) g hb F grs nxs (h.below hB0) sm E0 hl L hd)
  have HG := hide h
  have HSM := hide sm
  have HL := hide hl
  have HB0 := hide hB0
  clear h sm hl hd hB0
  go_enter Try.func54, Try.ntmps54
  go_wp2_with fail
  refine (unhide HFO).mono ?_
  rintro e w1 ⟨kv, hv, ks, hs, rfl, hb1, hk1, hh1, hpost⟩
  clear HFO
  obtain ⟨ka, kc, rfl⟩ := hk1.form
  obtain ⟨ha, hc, rfl⟩ := hh1.form
  have hR1 : w1.heap[w.heap.size]? = some (.cells zcT 68 (0, 0)) := (hb1.block _ (by simp)).trans (heap_alloc_new w _)
  have hbw1 : Below w.heap.size w w1 := (unhide HB0).trans (hb1.mono (by simp))
  have hsz1 : w.heap.size < w1.heap.size := (Array.getElem?_eq_some_iff.1 hR1).1
  have hR2 : (w1.alloc (.cells #[.slice ka ks.length kc, .slice ha hs.length hc] 126)).heap[w.heap.size]? = some (.cells zcT 68 (0, 0)) := by rw [Below.heap_alloc _ _ _ hsz1]; exact hR1
  have hbw2 : Below w.heap.size w (w1.alloc (.cells #[.slice ka ks.length kc, .slice ha hs.length hc] 126)) := below_then hbw1 _
  have hb12 : Below w1.heap.size w1 (w1.alloc (.cells #[.slice ka ks.length kc, .slice ha hs.length hc] 126)) := (Below.refl _ _).alloc (Nat.le_refl _) _
  have hfb : FoldB (w1.alloc (.cells #[.slice ka ks.length kc, .slice ha hs.length hc] 126)) w1.heap.size ks hs := ⟨_, _, _, _, heap_alloc_new _ _, (hk1.below hb12).zero, (hh1.below hb12).zero⟩
  have HR2 := hide hR2
  have HBW2 := hide hbw2
  have HFB := hide hfb
  rcases hpost with ⟨h24, hmany⟩ | ⟨h24, hkl, ⟨E, hso⟩, hmin⟩
  · have h24I : (24 : Int) < (hs.length : Int) := by omega
    have HMANY := hide hmany
    clear hb1 hk1 hh1 hR1 hbw1 hR2 hbw2 hb12 hfb h24 hmany
    go_wp2_with (refine wpList_store_row0 rfl 68 _ _ rfl rfl w.heap.size _ rfl rfl 68 _ (unhide HR2) (by rw [zcT_size]; kernel_rfl) (by rw [zcT_size]) (tabA_one _ _ _ _ _ _ _ _) ?_)
    exact bodyPost_ret (v := .tuple #[.agg zcT, .int .i64 3])
      (results_cell_row_tmp (p := 2) (u := 3) (ty := 68) rfl _ _ w.heap.size 68 _ (0, 0) _ rfl (setRow_heap _ _ _ _ _ _ (unhide HR2)) Try.underlying68 rfl (by rw [zcT_size]; kernel_rfl) _ rfl) rfl
      ⟨below_setRow (unhide HBW2) (Nat.le_refl _) _, .inr ⟨rfl, .inl (unhide HMANY)⟩⟩
  · have h24I : (hs.length : Int) ≤ 24 := by omega
    have hsf := fold_small (unhide HSM).g h24 hkl hso
    have HSF := hide hsf
    have HMIN : Hid (MinDfa L hs.length (fun k b => nfT ks hs nxs hb.length k (F b)) (fun k => grs.getD (hs.getD k 0) false)) := hmin
    have HSL := hide (sortLetters_any _ g w1.heap.size hb.length F grs nxs ks hs ((unhide HG).below hbw2) hfb (unhide HSM) hsf)
    have H24 := hide h24
    clear hb1 hk1 hh1 hR1 hbw1 hR2 hbw2 hb12 hfb h24 hkl hso hmin hsf
    go_wp2_with fail
    refine (unhide HSL).mono ?_
    rintro e w3 ⟨cv, fv, cs, fs, rfl, hb3, hc3, hf3, hsp⟩
    clear HSL
    obtain ⟨ca, cc, rfl⟩ := hc3.form
    obtain ⟨fa, fc, rfl⟩ := hf3.form
    have hbw3 : Below w.heap.size w w3 := (unhide HBW2).trans (hb3.mono (unhide HBW2).size)
    have hR3 : w3.heap[w.heap.size]? = some (.cells zcT 68 (0, 0)) := (hb3.block _ (by simp; omega)).trans (unhide HR2)
    have HR3 := hide hR3
    have HBW3 := hide hbw3
    have HF3 := hide ((unhide HFB).below hb3)
    have HC3 := hide hc3.zero
    have HFS3 := hide hf3.zero
    rcases hsp with ⟨f25, n, kd, hn, hso⟩ | ⟨f24, hcl, hso⟩
    · have f25I : (24 : Int) < (fs.length : Int) := by omega
      have HMANY := hide (many_of (unhide HL) (unhide HMIN) hn hso (by omega))
      clear hb3 hc3 hf3 hbw3 hR3 f25 hn hso
      go_wp2_with (refine wpList_store_row0 rfl 68 _ _ rfl rfl w.heap.size _ rfl rfl 68 _ (unhide HR3) (by rw [zcT_size]; kernel_rfl) (by rw [zcT_size]) (tabA_one _ _ _ _ _ _ _ _) ?_)
      exact bodyPost_ret (v := .tuple #[.agg zcT, .int .i64 3])
        (results_cell_row_tmp (p := 2) (u := 3) (ty := 68) rfl _ _ w.heap.size 68 _ (0, 0) _ rfl (setRow_heap _ _ _ _ _ _ (unhide HR3)) Try.underlying68 rfl (by rw [zcT_size]; kernel_rfl) _ rfl) rfl
        ⟨below_setRow (unhide HBW3) (Nat.le_refl _) _, .inr ⟨rfl, .inr (unhide HMANY)⟩⟩
    · have f24I : (fs.length : Int) ≤ 24 := by omega
      have HTAB := hide (tab_of (unhide HL) (unhide HMIN) hso (unhide H24) f24)
      have HFX : Hid (∀ c, c < fs.length → fs.getD c 0 ≤ 256) := fun c hc => by
        have := (hso.head c hc).1; have := (unhide HSM).m; omega
      have HF24 := hide f24
      have HCL := hide hcl
      have HG3 := hide ((unhide HG).below hbw3)
      clear hb3 hc3 hf3 hbw3 hR3 f24 hcl hso HG HBW2 HR2 HFB
      have HO0 := hide (OgI.start w3 fs.length)
      go_wp2_with (refine wpList_store_row0 rfl 68 _ _ rfl rfl w3.heap.size _ rfl rfl 68 _ (heap_alloc_new _ _) (by rw [tabA_build, tabA_size]; kernel_rfl) (by rw [tabA_build, tabA_size, zcT_size]) (by rw [tabA_build]; exact tabA_one _ _ _ _ _ _ _ _) ?_; rw [tabA_build, setRow_alloc])
      go_loopw [8] (fun bx wr => ∃ b : Nat, bx = .int .i64 (b : Int) ∧ Hid (b ≤ 256 ∧ OgI w3 wr (fun c => if c < b then cs.getD (F c) 0 else 0) fs.length (.slice none 0 0) (.slice none 0 0) [] [])) (fun bx _ => left256 bx)
      case atStart => exact ⟨0, rfl, Nat.zero_le _, (unhide HO0).congr (fun b _ => by rw [if_neg (Nat.not_lt_zero _)])⟩
      case round =>
        clear HO0
        rename World => wr
        obtain ⟨b, rfl, HH⟩ := hrel
        obtain ⟨hb256, hI⟩ := unhide HH
        by_cases hlt : b < 256
        · have hbI : (b : Int) < 256 := by omega
          have HLT := hide hlt
          have HLE := hide (Letter_any wr g hb.length F grs nxs ((unhide HG3).below hI.below) b hlt)
          have HAT := hide (at_any wr 0 _ cs (F b) ((unhide HC3).below hI.below) (by have := unhide HCL; have := (unhide HSM).m; omega))
          have y0 : wr.cell? ⟨w3.heap.size, b, none⟩ = some (.int .i64 (((if b < b then cs.getD (F b) 0 else 0 : Nat)) : Int)) := by rw [cell_of_row _ _ _ _ _ _ hI.bT, tabA_b _ _ _ _ hlt]
          have z0 := frozen_of_row wr w3.heap.size b _ _ hI.bT
          rw [if_neg (Nat.lt_irrefl _)] at y0
          have hw8 := wrapB b hlt
          have HN : Hid (OgI w3 (wr.setCell ⟨w3.heap.size, b, none⟩ (.int .i64 ((cs.getD (F b) 0 : Nat) : Int))) (fun c => if c < b + 1 then cs.getD (F c) 0 else 0) fs.length (.slice none 0 0) (.slice none 0 0) [] []) := (hI.cls hlt (cs.getD (F b) 0)).congr (fun c _ => by
            by_cases e : c = b
            · subst e; rw [if_pos rfl, if_pos (by omega)]
            · rw [if_neg e]
              by_cases e2 : c < b
              · rw [if_pos e2, if_pos (by omega)]
              · rw [if_neg e2, if_neg (by omega)])
          generalize cs.getD (F b) 0 = x at *
          generalize F b = fb at *
          clear hlt hI hb256 HH
          go_wp2_with fail
          refine (unhide HLE).mono ?_
          rintro e wq ⟨rfl, hww⟩
          obtain rfl : wr = wq := hww.symm
          clear hww
          go_wp2_with fail
          refine (unhide HAT).mono ?_
          rintro e wq ⟨rfl, hww⟩
          obtain rfl : wr = wq := hww.symm
          clear hww
          go_wp2_with fail
          go_roundw
          case rel => exact ⟨b + 1, by go_num, unhide HLT, unhide HN⟩
          case measure => have := unhide HLT; simp [left256, intOf]; omega
        · have hb2 : b = 256 := by omega
          subst hb2
          have HI2 : Hid (OgI w3 wr (fun c => cs.getD (F c) 0) fs.length (.slice none 0 0) (.slice none 0 0) [] []) := hI.congr (fun c hc => by rw [if_pos hc])
          clear hlt hI hb256 HH
          obtain ⟨gr, hgr⟩ : ∃ gr : Nat → Bool, ∀ k, gr k = grs.getD (hs.getD k 0) false := ⟨fun k => grs.getD (hs.getD k 0) false, fun _ => rfl⟩
          obtain ⟨nc, hnc⟩ : ∃ nc : Nat → Nat → Nat, ∀ k c, nc k c = nfT ks hs nxs hb.length k (fs.getD c 0) := ⟨fun k c => nfT ks hs nxs hb.length k (fs.getD c 0), fun _ _ => rfl⟩
          have HT2 : Hid (TabOf L hs.length fs.length (fun k b => nfT ks hs nxs hb.length k (F b)) gr (fun c => cs.getD (F c) 0) nc) := by
            have e1 : gr = (fun k => grs.getD (hs.getD k 0) false) := funext hgr
            have e2 : nc = (fun k c => nfT ks hs nxs hb.length k (fs.getD c 0)) := funext fun k => funext fun c => hnc k c
            rw [e1, e2]; exact unhide HTAB
          have HGR := hide hgr
          have HNC := hide hnc
          clear HTAB hgr hnc
          generalize (fun c => cs.getD (F c) 0) = cl at *
          obtain ⟨j, j0, j1, j2, j3⟩ := info_of infoBool
          have HJ2 := hide (And.intro j0 (And.intro j1 (And.intro j2 j3)))
          obtain ⟨i, i0, i1, i2, i3⟩ := info_of info3
          have HI := hide (And.intro i0 (And.intro i1 (And.intro i2 i3)))
          clear j0 j1 j2 j3 i0 i1 i2 i3
          go_wp2_with fail
          go_loopw [9] (fun kx wq => ∃ (k : Nat) (gv nv : Value), kx = .int .i64 (k : Int) ∧ Hid (k ≤ hs.length ∧ OgI w3 wq cl fs.length gv nv ((List.range k).map gr) ((List.range k).flatMap (fun i => (List.range fs.length).map (nc i))))) (fun kx _ => hs.length - (intOf kx).toNat)
          case atStart => exact ⟨0, _, _, rfl, Nat.zero_le _, unhide HI2⟩
          case round =>
            clear HI2
            rename World => wq
            obtain ⟨k, gv, nv, rfl, HH⟩ := hrel
            obtain ⟨hk, hI⟩ := unhide HH
            obtain ⟨ka', kc', ha', hc', h1, -, h3⟩ := ((unhide HF3).below hI.below).ex
            have c1 : wq.cell? ⟨w1.heap.size, 1, none⟩ = some (.slice ha' hs.length hc') := by rw [cell_of_row _ _ _ _ _ _ h1]; rfl
            have hl1 : w1.heap.size < wq.heap.size := (Array.getElem?_eq_some_iff.1 h1).1
            have hl3 : w3.heap.size < wq.heap.size := hI.lt
            obtain ⟨bs, hbs⟩ : ∃ bs, bs = (List.range k).map gr := ⟨_, rfl⟩
            obtain ⟨ns, hns⟩ : ∃ ns, ns = (List.range k).flatMap (fun i => (List.range fs.length).map (nc i)) := ⟨_, rfl⟩
            rw [← hbs, ← hns] at hI
            have HBS := hide hbs
            have HNS := hide hns
            have HBL : Hid (bs.length = k) := by rw [unhide HBS]; simp [Hid]
            have HNL : Hid (ns.length = k * fs.length) := by rw [unhide HNS]; exact flat_len _ _ _
            obtain ⟨ga, gc, rfl⟩ := hI.rg.form
            obtain ⟨na, nn, rfl⟩ := hI.rn.form
            by_cases hlt : k < hs.length
            · have hkI : (k : Int) < (hs.length : Int) := by omega
              have HLT := hide hlt
              obtain ⟨gh, ch, he, hx⟩ := h3.at hlt
              simp only [Value.slice.injEq, true_and] at he
              obtain ⟨rfl, rfl⟩ := he
              have hlh : gh < wq.heap.size := (h3.lt gh rfl).2
              have y257 : wq.cell? ⟨w3.heap.size, 257, none⟩ = some (.slice ga bs.length gc) := by rw [cell_of_row _ _ _ _ _ _ hI.bT, tabA_257]
              have z257 := frozen_of_row wq w3.heap.size 257 _ _ hI.bT
              have HGQ := hide ((unhide HG3).below hI.below)
              have HGN : Hid (∀ W, GraphB W g hb.length F grs nxs → Calls Try.prog 75 #[.pointer (some ⟨g, 0, none⟩), .int .i64 ((hs.getD k 0 : Nat) : Int)] W fun e w' => e = .returned (.bool (gr k)) ∧ w' = W) := fun W hW => by
                rw [unhide HGR]; exact Granted_any W g hb.length F grs nxs hW _ (unhide HSM).g
              have HYG : Hid (bs ++ [gr k] = (List.range (k + 1)).map gr) := by rw [unhide HBS]; exact (map_snoc gr k).symm
              generalize hs.getD k 0 = x at *
              generalize gr k = y at *
              have HO2 := hide (World.ownsRow.alloc hI.rg (Obj.cells #[.bool y] 4))
              have HS2 := hide (hI.alloc (Obj.cells #[.bool y] 4)).drew
              have HOFF : Hid (∀ q, (Value.slice ga bs.length gc).ownBlock = some q → q ≠ w3.heap.size) := own_off hI.rg hI.bT (by decide)
              have HBN : Hid (bs.length ≤ 24) := by have := unhide HBL; have := unhide H24; show _ ≤ _; omega
              clear hlt hI hk h1 h3 HH hbs hns
              go_upto_region 15 with fail
              go_cut [] from 43 to 79 (fun wx => ∃ gv2, Hid (OgI w3 wx cl fs.length gv2 (.slice na ns.length nn) (bs ++ [y]) ns))
              case first =>
                go_region_law (first
                  | (refine step_append_own (by rfl) _ _ _ (by rfl) w3.heap.size 4 j (.bool false) 1 1 Try.underlying66 (unhide HJ2).1 (unhide HJ2).2.1 (unhide HJ2).2.2.1 (unhide HJ2).2.2.2 rfl (by decide) _ _ _ (by rfl) (by exact unhide HO2) ⟨wq.heap.size, 0, none⟩ 1 1 [.bool y] (by rfl) rfl (by exact cell_one_new _ _ _) (by intro u hu; simp at hu; subst hu; rfl) (by have := unhide HBN; unfold maxLen; omega) (by have := unhide HBN; omega) (by simp; omega) ?_; intro v' w5 ho3 hgrow; have hb3 : w5.heap[w3.heap.size]? = _ := (hgrow.block w3.heap.size (by simp; omega) (fun e => unhide HOFF _ e.symm rfl)).trans (unhide HS2).bT; have y0 : w5.cell? ⟨w3.heap.size, 257, none⟩ = some (.slice ga bs.length gc) := (by rw [cell_of_row _ _ _ _ _ _ hb3, tabA_257]); have z0 := frozen_of_row w5 w3.heap.size 257 _ _ hb3; have HN := hide (OgI.grant (unhide HS2) hgrow ho3); obtain ⟨va3, n3, vc3, rfl⟩ := own_slice ho3; clear hb3 ho3 hgrow)
                  | (go_simp; go_at_call 75; refine (unhide HGN _ (by exact (unhide HGQ).drew)).mono ?_; rintro e w' ⟨rfl, hww⟩; obtain rfl : wq.drew = w' := hww.symm))
                all_goals
                  go_wp2_with fail
                  go_meet
                  exact ⟨_, unhide HN⟩
              case rest =>
                rename World => w5
                obtain ⟨gv2, HC⟩ := hcut
                clear c1 hx y257 z257 hlh hl1 hl3 HS2 HO2 HOFF HGQ HGN
                go_wp2_with fail
                go_loopw [10] (fun cx wy => ∃ (c : Nat) (nv2 : Value), cx = .int .i64 (c : Int) ∧ Hid (c ≤ fs.length ∧ OgI w3 wy cl fs.length gv2 nv2 (bs ++ [y]) (ns ++ (List.range c).map (nc k)))) (fun cx _ => fs.length - (intOf cx).toNat)
                case atStart => exact ⟨0, _, rfl, Nat.zero_le _, by simpa using unhide HC⟩
                case round =>
                  clear HC
                  rename World => wy
                  obtain ⟨c, nv2, rfl, HH⟩ := hrel
                  obtain ⟨hc, hI⟩ := unhide HH
                  obtain ⟨ms, hms⟩ : ∃ ms, ms = ns ++ (List.range c).map (nc k) := ⟨_, rfl⟩
                  rw [← hms] at hI
                  have HMS := hide hms
                  obtain ⟨na2, nn2, rfl⟩ := hI.rn.form
                  have HML : Hid (ms.length ≤ 1000) := by
                    rw [unhide HMS, List.length_append, unhide HNL, List.length_map, List.length_range]
                    have h1 : k * fs.length ≤ 24 * 24 := Nat.mul_le_mul (by have := unhide HLT; have := unhide H24; omega) (unhide HF24)
                    have := unhide HF24
                    show _ ≤ _
                    omega
                  by_cases hlt : c < fs.length
                  · have hcI : (c : Int) < (fs.length : Int) := by omega
                    have HCT := hide hlt
                    obtain ⟨gq, cq, he, hx⟩ := ((unhide HFS3).below hI.below).at hlt
                    have hlq : gq < wy.heap.size := by
                      rw [he] at HFS3
                      exact (((unhide HFS3).below hI.below).lt gq rfl).2
                    simp only [Value.slice.injEq, true_and] at he
                    obtain ⟨rfl, rfl⟩ := he
                    have hl3 : w3.heap.size < wy.heap.size := hI.lt
                    have y258 : wy.cell? ⟨w3.heap.size, 258, none⟩ = some (.slice na2 ms.length nn2) := by rw [cell_of_row _ _ _ _ _ _ hI.bT, tabA_258]
                    have z258 := frozen_of_row wy w3.heap.size 258 _ _ hI.bT
                    have HGQ := hide ((unhide HG3).below hI.below)
                    have HFQ := hide ((unhide HF3).below hI.below)
                    have HNX : Hid (∀ W, GraphB W g hb.length F grs nxs → FoldB W w1.heap.size ks hs → Calls Try.prog 76 #[.pointer (some ⟨w1.heap.size, 0, none⟩), .pointer (some ⟨g, 0, none⟩), .int .i64 (k : Int), .int .i64 ((fs.getD c 0 : Nat) : Int)] W fun e w' => e = .returned (.int .i64 ((nc k c : Nat) : Int)) ∧ w' = W.drew) := fun W hW hF => by
                      rw [unhide HNC]; exact next_any W g w1.heap.size hb.length F grs nxs ks hs hW hF (unhide HSM) (unhide HSF) k _ (unhide HFX c hlt)
                    have HYN : Hid (ms ++ [nc k c] = ns ++ (List.range (c + 1)).map (nc k)) := by
                      rw [unhide HMS, map_snoc, List.append_assoc]; exact rfl
                    generalize fs.getD c 0 = x2 at *
                    generalize nc k c = z at *
                    have HO2 := hide (World.ownsRow.alloc hI.rn (Obj.cells #[.int .i64 (z : Int)] 3))
                    have HS2 := hide (hI.alloc (Obj.cells #[.int .i64 (z : Int)] 3)).drew.drew
                    have HOFF : Hid (∀ q, (Value.slice na2 ms.length nn2).ownBlock = some q → q ≠ w3.heap.size) := own_off hI.rn hI.bT (by decide)
                    clear hlt hI hc HH hms
                    go_upto_region 19 with fail
                    go_region_law (first
                      | (refine step_append_own (by rfl) _ _ _ (by rfl) w3.heap.size 3 i (.int .i64 0) 1 8 Try.underlying53 (unhide HI).1 (unhide HI).2.1 (unhide HI).2.2.1 (unhide HI).2.2.2 rfl (by decide) _ _ _ (by rfl) (by exact unhide HO2) ⟨wy.heap.size, 0, none⟩ 1 1 [.int .i64 (z : Int)] (by rfl) rfl (by exact cell_one_new _ _ _) (by intro u hu; simp at hu; subst hu; rfl) (by have := unhide HML; unfold maxLen; omega) (by have := unhide HML; omega) (by simp; omega) ?_; intro v' w6 ho3 hgrow; have hb3 : w6.heap[w3.heap.size]? = _ := (hgrow.block w3.heap.size (by simp; omega) (fun e => unhide HOFF _ e.symm rfl)).trans (unhide HS2).bT; have y0 : w6.cell? ⟨w3.heap.size, 258, none⟩ = some (.slice na2 ms.length nn2) := (by rw [cell_of_row _ _ _ _ _ _ hb3, tabA_258]); have z0 := frozen_of_row w6 w3.heap.size 258 _ _ hb3; have HN := hide (OgI.edge (unhide HS2) hgrow ho3); obtain ⟨va3, n3, vc3, rfl⟩ := own_slice ho3; clear hb3 ho3 hgrow)
                      | (go_simp; go_at_call 76; refine (unhide HNX _ (by exact (unhide HGQ).drew) (by exact ⟨(unhide HFQ).ex⟩)).mono ?_; rintro e w' ⟨rfl, hww⟩; obtain rfl : wy.drew.drew = w' := hww.symm))
                    all_goals
                      go_wp2_with fail
                      go_roundw
                      case rel => exact ⟨c + 1, by go_num, .slice va3 n3 vc3, unhide HCT, by rw [← unhide HYN]; exact unhide HN⟩
                      case measure => have := unhide HCT; simp [intOf]; omega
                  · have hc2 : c = fs.length := by omega
                    subst hc2
                    have HR : Hid (OgI w3 wy cl fs.length gv2 (.slice na2 ms.length nn2) ((List.range (k + 1)).map gr) ((List.range (k + 1)).flatMap (fun i => (List.range fs.length).map (nc i)))) := by
                      have e1 : ms = (List.range (k + 1)).flatMap (fun i => (List.range fs.length).map (nc i)) := by rw [flat_snoc, ← unhide HNS]; exact hms
                      rw [← unhide HYG, ← e1]; exact hI
                    clear hI hc hms HH hlt
                    go_wp2_with fail
                    go_roundw
                    case rel => exact ⟨k + 1, gv2, _, by go_num, unhide HLT, unhide HR⟩
                    case measure => have := unhide HLT; simp [intOf]; omega
            · have hk2 : k = hs.length := by omega
              subst hk2
              have HI1 := hide hI
              have hRq : wq.heap[w.heap.size]? = some (.cells zcT 68 (0, 0)) := (hI.below.block _ (Array.getElem?_eq_some_iff.1 (unhide HR3)).1).trans (unhide HR3)
              have HRQ := hide hRq
              have HBQ : Hid (Below w.heap.size w wq) := (unhide HBW3).trans (hI.below.mono (unhide HBW3).size)
              have HS3 : Hid (w.heap.size ≤ w3.heap.size) := (unhide HBW3).size
              clear hI hk hlt h1 h3 HH hbs hns hRq
              go_wp2_with (first
                | refine wpList_load_row rfl 68 _ rfl w3.heap.size rfl 68 _ (0, 0) _ (unhide HI1).bT Try.underlying68 rfl (by rw [tabA_size]; kernel_rfl) ?_
                | refine wpList_store_row rfl 68 _ _ rfl w.heap.size _ rfl rfl 68 _ (unhide HRQ) (by rw [tabA_size]; kernel_rfl) (by rw [tabA_size, zcT_size]) (tabA_one _ _ _ _ _ _ _ _) ?_)
              refine bodyPost_ret (v := .tuple #[.agg (tabA cl fs.length (.slice ga bs.length gc) (.slice na ns.length nn)), .int .i64 0])
                (results_cell_row_tmp (p := 2) (u := 3) (ty := 68) rfl _ _ w.heap.size 68 _ (0, 0) _ rfl (setRow_heap _ _ _ _ _ _ (unhide HRQ)) Try.underlying68 rfl (by rw [tabA_size]; kernel_rfl) _ rfl) rfl
                ⟨below_setRow (unhide HBQ) (Nat.le_refl _) _, .inl ⟨_, rfl, ?_⟩⟩
              refine ⟨_, _, _, _, _, _, _, _, rfl, ?_, ?_, unhide HT2⟩
              · rw [← unhide HBS]; exact own_setRow (ownsRow_less (unhide HI1).rg (unhide HS3)) (own_off (unhide HI1).rg (unhide HRQ) (by decide)) _
              · rw [← unhide HNS]; exact own_setRow (ownsRow_less (unhide HI1).rn (unhide HS3)) (own_off (unhide HI1).rn (unhide HRQ) (by decide)) _

end Go.Proofs.Ytobfpgoepaeknaa
