/-
  veilref: Reach.first, Reach.says.
-/
import Derived.Test.YtnkdbcicphnmiaaDe
namespace Go.Proofs.Ytnkdbcicphnmiaa
namespace Mc
open Go.RowKit
attribute [local go_sem ↓] Go.wp_at_zero Go.wp_at_succ

/-- What first answers. -/
def FiA (most : Nat) (P : List Nat → Bool) (e : Ending) : Prop :=
  (∃ u, Byt u ∧ u.length ≤ most ∧ P u = true ∧ (∀ v, Byt v → P v = true → nv u ≤ nv v) ∧ e = .returned (.tuple #[.string (mkV u), .bool true])) ∨
  ((∀ v, Byt v → v.length ≤ most → P v = false) ∧ e = .returned (.tuple #[.string ⟨#[]⟩, .bool false]))
theorem NrI.next {w wr w2 : World} {va : Option Addr} {vc : Nat} {xs : List Nat} (h : NrI w wr va vc xs) (hb : Below wr.heap.size wr w2) : NrI w w2 va vc xs := ⟨h.below.trans (hb.mono h.below.size), (Fr.ofBelow hb).own h.row (by simp)⟩
set_option maxRecDepth 20000 in
set_option maxHeartbeats 4000000 in
theorem rfirst_any (w : World) (gr : Nat) (W : World) (tv : Value) (fa : Option Addr) (fc : Nat) (F : List (List Nat)) (us : List Value) (na : Option Addr) (nc : Nat) (Nx : List (List Nat)) (ns : List Value) (h : ReI w gr W tv fa fc F us na nc Nx ns) (m : Nat) (ts : Nat → TabN) (hnx : NxOk m ts F Nx) (hnl : Nx.length = F.length) (h0 : 0 < F.length) (hF : F.length ≤ 256) (B : Nat) (wv : Value) (wn : List Bool) (hw : BR W B wv wn) (hwl : wn.length = F.length) (most : Nat) (hm : most ≤ 256) :
    Calls Try.prog 48 #[.pointer (some ⟨gr, 0, none⟩), wv, .int .i64 (most : Int)] W fun e w' => Below W.heap.size W w' ∧ FiA most (fun v => wn.getD (runI (nxF Nx) 0 v) false) e := by
  have HDI := hide (distances_any w gr W tv fa fc F us na nc Nx ns h m ts hnx hnl h0 hF B wv wn hw hwl)
  obtain ⟨wa, wc, rfl⟩ := hw.form
  have HRE := hide h
  have HNX := hide hnx
  have HNL := hide hnl
  have H0 := hide h0
  have HF := hide hF
  have HM := hide hm
  have HNB := hide (nxB_of hnx hnl)
  have hFI : (F.length : Int) ≤ 256 := by omega
  have hF0 : (0 : Int) < (F.length : Int) := by omega
  have hmI : (most : Int) ≤ 256 := by omega
  clear h hnx hnl h0 hF hw hwl hm
  go_enter Try.func48, Try.ntmps48
  go_wp2_with fail
  refine (unhide HDI).mono ?_
  rintro e w1 ⟨dv, dc, d, rfl, hI, hD, hC⟩
  obtain ⟨gd, cd, he, c0⟩ := hI.row.at (k := 0) (by rw [hD.len]; exact unhide H0)
  simp only [Value.slice.injEq, true_and] at he
  obtain ⟨rfl, rfl⟩ := he
  have hgd : gd < w1.heap.size := (World.ownsRow.lt hI.row gd rfl).2
  have HI := hide hI
  have HD := hide hD
  have HC := hide hC
  clear HDI
  by_cases hmost : most < d.getD 0 0
  · have hmo : (most : Int) < ((d.getD 0 0 : Nat) : Int) := by omega
    have HNO : Hid (∀ v, Byt v → v.length ≤ most → (fun v => wn.getD (runI (nxF Nx) 0 v) false) v = false) := fun v hv hl => by
      cases hh : wn.getD (runI (nxF Nx) 0 v) false
      · exact hh
      · have := hD.least (unhide HNB) hC v 0 (unhide H0) hv hh
        omega
    clear hI hD hC hmost
    generalize d.getD 0 0 = d0 at *
    go_wp2_with fail
    refine bodyPost_ret (v := .tuple #[.string ⟨#[]⟩, .bool false]) (by simp [results, Try.results48, go_sem]) rfl ?_
    exact ⟨(unhide HI).below, .inr ⟨unhide HNO, rfl⟩⟩
  · have hmo : ¬ (most : Int) < ((d.getD 0 0 : Nat) : Int) := by omega
    have HMO : Hid (d.getD 0 0 ≤ most) := by show _ ≤ _; omega
    clear hI hD hC hmost
    generalize hd0 : d.getD 0 0 = d0 at c0 hmo
    have HD0 := hide hd0
    clear hd0
    go_wp2_with fail
    go_loopw [9, 10] (fun sx ax wr => ∃ (s : List Nat) (a : Nat), sx = .string (mkV s) ∧ ax = .int .i64 (a : Int) ∧ Hid (NrI W wr (some ⟨gd, 0, none⟩) dc d ∧ GrI F.length (nxF Nx) (fun k => wn.getD k false) d s a)) (fun _ ax _ => d.getD (intOf ax).toNat 0)
    case atStart => exact ⟨[], 0, rfl, rfl, unhide HI, GrI.start (unhide H0)⟩
    case round =>
      clear HI c0 hgd hmo
      rename World => wr
      obtain ⟨s, a, rfl, rfl, HH⟩ := hrel
      obtain ⟨hI, hG⟩ := unhide HH
      clear HH
      have ha := hG.lt
      have ha0 : (0 : Int) ≤ (a : Int) := by omega
      have ha1 : ((a : Int)).toNat = a := by omega
      have haI : (a : Int) < (F.length : Int) := by omega
      have hgd : gd < wr.heap.size := (World.ownsRow.lt hI.row gd rfl).2
      obtain ⟨gd', cd', he, ca⟩ := hI.row.at (k := a) (by rw [(unhide HD).len]; exact ha)
      simp only [Value.slice.injEq, true_and, Option.some.injEq, Addr.mk.injEq, and_true] at he
      obtain ⟨rfl, rfl⟩ := he
      have hlen := hG.len
      have hsm : s.length + d.getD a 0 ≤ 256 := by have := unhide HMO; have := unhide HM; omega
      have hdaI : ((d.getD a 0 : Nat) : Int) ≤ 256 := by omega
      by_cases hz : d.getD a 0 = 0
      · have HLA := hide (hG.last (unhide HNB) (unhide HD) (unhide HC) hz (unhide H0))
        have HBY := hide hG.byt
        have HBW := hide hI.below
        rw [hz] at ca
        clear hI hG hz ha hlen hsm hdaI
        go_wp2_with fail
        refine bodyPost_ret (v := .tuple #[.string (mkV s), .bool true]) (by simp [results, Try.results48, go_sem]) rfl ?_
        exact ⟨unhide HBW, .inl ⟨s, unhide HBY, by rw [(unhide HLA).2.1]; exact unhide HMO, (unhide HLA).1, (unhide HLA).2.2, rfl⟩⟩
      · have hzI : (0 : Int) < ((d.getD a 0 : Nat) : Int) := by omega
        obtain ⟨b0, hb0, hbe⟩ := hG.some (unhide HNB) (unhide HD) (unhide HC) (by omega) (by omega)
        have HG := hide hG
        have HI := hide hI
        have HB0 := hide hb0
        have HBE := hide hbe
        have HA := hide ha
        have HSL : Hid (s.length ≤ 256) := by show _ ≤ _; omega
        obtain ⟨da, hda⟩ : ∃ x, d.getD a 0 = x := ⟨_, rfl⟩
        have HDA := hide hda
        rw [hda] at ca hzI hdaI
        clear hI hG hz ha hlen hsm hb0 hbe hda
        go_wp2_with fail
        go_loopw [11] (fun bx wy => ∃ b : Nat, bx = .int .i64 (b : Int) ∧ Hid (b ≤ b0 ∧ (∃ n, wy = wr.drewN n) ∧ ∀ c, c < b → d.getD (nxF Nx a c) 0 + 1 ≠ d.getD a 0)) (fun bx _ => lenLeft 256 bx)
        case atStart => exact ⟨0, rfl, Nat.zero_le _, ⟨0, rfl⟩, fun c hc => by omega⟩
        case round =>
          rename World => wy
          obtain ⟨b, rfl, HH⟩ := hrel
          obtain ⟨hb, ⟨n, rfl⟩, hno⟩ := unhide HH
          clear HH
          have hb256 : b < 256 := by have := unhide HB0; omega
          have hbI : (b : Int) < 256 := by omega
          have hb0' : (0 : Int) ≤ (b : Int) := by omega
          have hb1 : ((b : Int)).toNat = b := by omega
          have hRE := (unhide HRE).next (unhide HI).below
          obtain ⟨σ, row, hs, hr, hrl, hxe, -⟩ := nxF_at (unhide HNX) (unhide HNL) (unhide HA) hb256
          have hxl := (unhide HNB).lt a b (unhide HA) hb256
          have c2 := hRE.c2
          obtain ⟨gn, u, hna, hgn, -, cu, hu⟩ := hRE.at2 hr
          subst hna
          obtain ⟨gu, cu2, rfl, hcu⟩ := hu.at (k := b) (by omega)
          rw [← hxe] at hcu
          rw [hrl] at cu
          have hgu : gu < wr.heap.size := World.block_lt_of_cell? wr ⟨gu, b, none⟩ hcu
          have hgr := hRE.lt
          obtain ⟨gd', cd', he, c3⟩ := (unhide HI).row.at (k := nxF Nx a b) (by rw [(unhide HD).len]; exact hxl)
          simp only [Value.slice.injEq, true_and, Option.some.injEq, Addr.mk.injEq, and_true] at he
          obtain ⟨rfl, rfl⟩ := he
          have hnlI : (a : Int) < (Nx.length : Int) := by rw [unhide HNL]; have := unhide HA; omega
          have hxI : ((nxF Nx a b : Nat) : Int) < (F.length : Int) := by omega
          have hx0 : (0 : Int) ≤ ((nxF Nx a b : Nat) : Int) := by omega
          have hx1 : (((nxF Nx a b : Nat) : Int)).toNat = nxF Nx a b := by omega
          have hd3 : ((d.getD (nxF Nx a b) 0 : Nat) : Int) ≤ 1000000 := by have := (unhide HD).le _ hxl; omega
          by_cases he : d.getD (nxF Nx a b) 0 + 1 = d.getD a 0
          · have heI : ((d.getD (nxF Nx a b) 0 : Nat) : Int) = (da : Int) - 1 := by have := unhide HDA; omega
            have HST := hide ((unhide HG).step (unhide HNB) (unhide HD) (unhide HC) hb256 he hno)
            have HM2 : Hid (d.getD (nxF Nx a b) 0 < da) := by have := unhide HDA; show _ < _; omega
            have hwr := u8_wrap b hb256
            have HCV := hide (fun n => conv_one (w := wr.drewN n) hb256)
            have hsz : ¬ (mkV s).size + (mkV [b]).size > 9223372036854775807 := by rw [mkV_size, mkV_size]; have := unhide HSL; simp; omega
            have HAP := hide (mkV_app s [b])
            clear hb hno hRE hs hr hu hrl hxe he hb256
            generalize hdx : d.getD (nxF Nx a b) 0 = y at c3 heI hd3
            have HDX := hide hdx
            clear hdx
            generalize hxx : nxF Nx a b = x at *
            generalize mkV [b] = sb at *
            generalize hss : mkV s = ss at *
            go_wp2_with fail
            go_quiet (fail)
            have e2 : ((wr.drewN (n + nq)).alloc (.cells #[.int .u8 (b : Int)] 5)).cell? ⟨gr, 2, none⟩ = some (.slice (some ⟨gn, 0, none⟩) Nx.length nc) := (Fr.ofAlloc (wr.drewN (n + nq)) _).cell c2 (by simp)
            have e3 : ((wr.drewN (n + nq)).alloc (.cells #[.int .u8 (b : Int)] 5)).cell? ⟨gn, a, none⟩ = some (.slice (some ⟨gu, 0, none⟩) 256 cu2) := (Fr.ofAlloc (wr.drewN (n + nq)) _).cell cu (by simp)
            have e4 : ((wr.drewN (n + nq)).alloc (.cells #[.int .u8 (b : Int)] 5)).cell? ⟨gu, b, none⟩ = some (.int .i64 (x : Int)) := (Fr.ofAlloc (wr.drewN (n + nq)) _).cell hcu (by simp)
            have hcv : (convert 100 9 (.slice (some ⟨wr.heap.size, 0, none⟩) 1 1)).run Try.prog ((wr.drewN (n + nq)).alloc (.cells #[.int .u8 (b : Int)] 5)) = .ok (.string sb) ((wr.drewN (n + nq)).alloc (.cells #[.int .u8 (b : Int)] 5)) := unhide HCV (n + nq)
            have HI2 := hide (((unhide HI).drewN (n + nq)).alloc (Obj.cells #[.int .u8 (b : Int)] 5))
            go_wp2_with fail
            go_roundw
            case rel => exact ⟨s ++ [b], x, by rw [unhide HAP], rfl, unhide HI2, unhide HST⟩
            case measure => have h1 := unhide HM2; rw [← unhide HDA] at h1; simpa [intOf] using h1
          · have heI : ¬ ((d.getD (nxF Nx a b) 0 : Nat) : Int) = (da : Int) - 1 := by have := unhide HDA; omega
            have HNO2 : Hid (∀ c, c < b + 1 → d.getD (nxF Nx a c) 0 + 1 ≠ d.getD a 0) := fun c hc => by
              by_cases e : c = b
              · rw [e]; exact he
              · exact hno c (by omega)
            have HLE : Hid (b + 1 ≤ b0) := by
              show _ ≤ _
              by_cases e : b = b0
              · subst e; exact absurd (unhide HBE) he
              · omega
            clear hb hno hRE hs hr hu hrl hxe he
            generalize d.getD (nxF Nx a b) 0 = y at *
            generalize nxF Nx a b = x at *
            go_wp2_with fail
            go_quiet (fail)
            go_wp2_with fail
            go_roundw
            case rel => exact ⟨b + 1, by go_num, unhide HLE, ⟨n + nq, by first | rfl | simp⟩, unhide HNO2⟩
            case measure => have := unhide HLE; have := unhide HB0; simp [lenLeft, intOf]; omega

set_option maxRecDepth 20000 in
set_option maxHeartbeats 2000000 in
theorem says_any (W : World) (gr gt m tc : Nat) (tb : Nat → ByteArray) (ts : Nat → TabN) (hT : TbD m tb ts) (h8 : m ≤ 8) (hc0 : W.cell? ⟨gr, 0, none⟩ = some (.slice (some ⟨gt, 0, none⟩) m tc)) (hct : ∀ i, i < m → W.cell? ⟨gt, i, none⟩ = some (.string (tb i))) (B : Nat) (u : Value) (t : List Nat) (ht : NR W B u t) (htl : t.length = m) (hts : ∀ i, i < m → t.getD i 0 < (ts i).S) (f : ByteArray) (fr n R : Nat) (hn : fr + n ≤ m) (hn4 : n ≤ 4) (hR : R ≤ 4) (hf : f.size ≤ 1000) (hfm : fscan R f f.size 0 0 0 = none) :
    Calls Try.prog 47 #[.pointer (some ⟨gr, 0, none⟩), .string f, u, .int .i64 (fr : Int), .int .i64 (n : Int)] W fun e w' => e = .returned (.bool (trueF f ((List.range n).map fun i => (ts (fr + i)).gr (t.getD (fr + i) 0)))) ∧ ∃ k, w' = W.drewN k := by
  obtain ⟨ua, uc, rfl⟩ := ht.form
  have HVF := hide (fun (tr : List Bool) (hl : tr.length ≤ 4) => vform_true tr hl hR hf hfm)
  have HT := hide hT
  have HTR := hide ht
  have HTL := hide htl
  have HTS := hide hts
  have HCT := hide hct
  have HN := hide hn
  have HN4 := hide hn4
  have hnI : (n : Int) ≤ 4 := by omega
  have hmI : (m : Int) ≤ 8 := by omega
  have hfrI : (fr : Int) ≤ 8 := by omega
  have hgr : gr < W.heap.size := World.block_lt_of_cell? W ⟨gr, 0, none⟩ hc0
  clear hT h8 hct ht hts hn hn4 hR hf hfm
  rw [htl]
  clear htl
  go_enter Try.func47, Try.ntmps47
  go_wp2_with fail
  go_loopw [11, 12] (fun mx kx wr => ∃ k : Nat, mx = .int .i64 ((sumG 0 ((List.range k).map fun i => (ts (fr + i)).gr (t.getD (fr + i) 0)) : Nat) : Int) ∧ kx = .int .i64 (k : Int) ∧ Hid (k ≤ n ∧ ∃ j, wr = W.drewN j)) (fun _ kx _ => lenLeft n kx)
  case atStart => exact ⟨0, rfl, rfl, Nat.zero_le _, 0, rfl⟩
  case round =>
    rename World => wr
    obtain ⟨k, rfl, rfl, HH⟩ := hrel
    obtain ⟨hk, j, rfl⟩ := unhide HH
    clear HH
    by_cases hlt : k < n
    · have hkI : (k : Int) < (n : Int) := by omega
      have hfm : fr + k < m := by have := unhide HN; omega
      have hfI : (fr : Int) + (k : Int) < (m : Int) := by omega
      have hf0 : (0 : Int) ≤ (fr : Int) + (k : Int) := by omega
      have hf1 : ((fr : Int) + (k : Int)).toNat = fr + k := by omega
      have hwk : IntKind.i64.wrap ((fr : Int) + (k : Int)) = (fr : Int) + (k : Int) := by have := wrap_i64 (fr + k) (by omega); rwa [Int.natCast_add] at this
      have c1 := unhide HCT (fr + k) hfm
      have hgt : gt < W.heap.size := World.block_lt_of_cell? W ⟨gt, fr + k, none⟩ c1
      obtain ⟨gu, cu, he, c2⟩ := (unhide HTR).at (k := fr + k) (by rw [unhide HTL]; exact hfm)
      rw [unhide HTL] at he
      simp only [Value.slice.injEq, true_and] at he
      obtain ⟨rfl, rfl⟩ := he
      have hgu : gu < W.heap.size := World.block_lt_of_cell? W ⟨gu, fr + k, none⟩ c2
      have HGR := hide (fun W => (unhide HT).gr (fr + k) hfm (t.getD (fr + k) 0) W (unhide HTS _ hfm))
      have HSN := hide (bmap_snoc k (fun i => (ts (fr + i)).gr (t.getD (fr + i) 0)))
      have HLN := hide (bmap_len k (fun i => (ts (fr + i)).gr (t.getD (fr + i) 0)))
      have HLT := hide hlt
      have hk0 : (0 : Int) ≤ (k : Int) := by omega
      have hkn : ((k : Int)).toNat = k := by omega
      clear hk hlt hfm
      generalize (List.range k).map (fun i => (ts (fr + i)).gr (t.getD (fr + i) 0)) = tr at *
      generalize (ts (fr + k)).gr (t.getD (fr + k) 0) = v at *
      generalize t.getD (fr + k) 0 = q at *
      generalize tb (fr + k) = tx at *
      have d0 : (W.drewN j).cell? ⟨gr, 0, none⟩ = some (.slice (some ⟨gt, 0, none⟩) m tc) := hc0
      have d1 : (W.drewN j).cell? ⟨gt, fr + k, none⟩ = some (.string tx) := c1
      have d2 : (W.drewN j).cell? ⟨gu, fr + k, none⟩ = some (.int .i64 (q : Int)) := c2
      have h0 : gr < (W.drewN j).heap.size := hgr
      have h1 : gt < (W.drewN j).heap.size := hgt
      have h2 : gu < (W.drewN j).heap.size := hgu
      clear c1 c2 hgt hgu
      generalize hW : W.drewN j = wq at *
      have HW := hide hW
      clear hW
      go_wp2_with fail
      go_quiet ((go_at_call 66; exact Calls.quiet_of_same (unhide HGR _)))
      cases v
      · go_wp2_with fail
        go_roundw
        case rel => exact ⟨k + 1, by rw [unhide HSN, sumG_snoc]; simp, by go_num, unhide HLT, j + nq, by rw [← unhide HW]; simp⟩
        case measure => have := unhide HLT; simp [lenLeft, intOf]; omega
      · go_wp2_with fail
        go_roundw
        case rel => exact ⟨k + 1, by rw [unhide HSN, orb tr k (unhide HLN) (by have := unhide HLT; have := unhide HN4; omega)], by go_num, unhide HLT, j + nq, by rw [← unhide HW]; simp⟩
        case measure => have := unhide HLT; simp [lenLeft, intOf]; omega
    · have hk2 : k = n := by omega
      subst hk2
      have hkI : ¬ (k : Int) < (k : Int) := by omega
      have HV := hide (unhide HVF ((List.range k).map fun i => (ts (fr + i)).gr (t.getD (fr + i) 0)) (by rw [bmap_len]; exact unhide HN4) (W.drewN j))
      clear hk hlt
      generalize htr : (List.range k).map (fun i => (ts (fr + i)).gr (t.getD (fr + i) 0)) = tr at HV ⊢
      have HTRR := hide htr
      clear htr
      go_wp2_with fail
      refine (unhide HV).mono ?_
      rintro e w' ⟨rfl, hww⟩
      obtain rfl := hww
      go_wp2_with fail
      go_ret
      exact ⟨by rw [unhide HTRR]; rfl, j, rfl⟩

end Mc
end Go.Proofs.Ytnkdbcicphnmiaa
