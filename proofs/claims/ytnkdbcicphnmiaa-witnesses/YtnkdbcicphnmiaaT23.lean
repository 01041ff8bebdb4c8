/-
  veilref.Witness.
  veillaw.Witnesses.
-/
import Derived.Test.YtnkdbcicphnmiaaDf
namespace Go.Proofs.Ytnkdbcicphnmiaa
namespace Mc
open Go.RowKit

theorem fi_form {most : Nat} {P : List Nat → Bool} {e : Ending} (h : FiA most P e) : ∃ s b, e = .returned (.tuple #[.string s, .bool b]) := by
  rcases h with ⟨u, -, -, -, -, rfl⟩ | ⟨-, rfl⟩
  · exact ⟨_, _, rfl⟩
  · exact ⟨_, _, rfl⟩
theorem fi_wit {most : Nat} {P P' : List Nat → Bool} {M : Prop} {s : ByteArray} {b : Bool} (h : FiA most P' (.returned (.tuple #[.string s, .bool b]))) (hP : ∀ v, Byt v → P' v = P v) (hM : ¬ M) : WitA most P M (.returned (.tuple #[.string s, .bool b, .int .i64 0])) := by
  rcases h with ⟨u, hu, hl, hp, hmin, he⟩ | ⟨hno, he⟩
  · simp only [Ending.returned.injEq, Value.tuple.injEq, Array.mk.injEq, List.cons.injEq, Value.string.injEq, Value.bool.injEq, and_true] at he
    obtain ⟨rfl, rfl⟩ := he
    exact .inr (.inl ⟨hM, u, hu, hl, by rw [← hP u hu]; exact hp, fun v hv hpv => hmin v hv (by rw [hP v hv]; exact hpv), rfl⟩)
  · simp only [Ending.returned.injEq, Value.tuple.injEq, Array.mk.injEq, List.cons.injEq, Value.string.injEq, Value.bool.injEq, and_true] at he
    obtain ⟨rfl, rfl⟩ := he
    exact .inr (.inr ⟨hM, fun v hv hl => by rw [← hP v hv]; exact hno v hv hl, rfl⟩)
/-- Which tuples are wanted. -/
def wnF (F : List (List Nat)) (P : List Nat → Bool) (i : Nat) : List Bool := (List.range i).map fun j => P (F.getD j [])
theorem wnF_at {F : List (List Nat)} {P : List Nat → Bool} {k : Nat} {σ : List Nat} (hk : F[k]? = some σ) : (wnF F P F.length).getD k false = P σ := by
  have hl := (List.getElem?_eq_some_iff.1 hk).1
  unfold wnF
  rw [List.getD_eq_getElem?_getD, List.getElem?_map, List.getElem?_range hl]
  show P (F.getD k []) = _
  rw [List.getD_eq_getElem?_getD, hk]; rfl
theorem wnF_run {m : Nat} {ts : Nat → TabN} {F Nx : List (List Nat)} {P : List Nat → Bool} {Q : List Nat → Bool} (h : NxOk m ts F Nx) (hl : Nx.length = F.length) (h0 : F[0]? = some (List.replicate m 0)) (hPQ : ∀ v, P (stT m ts v) = Q v) : ∀ v, Byt v → (wnF F P F.length).getD (runI (nxF Nx) 0 v) false = Q v := fun v hv => by
  rw [wnF_at (runF h hl h0 v hv), hPQ]
theorem bel_up4 {w a b : World} (h : Below w.heap.size w a) (k : Below a.heap.size a b) : Below w.heap.size w b := h.trans (k.mono h.size)
/-- Wanted tuples in the making. -/
theorem BgI.drewN {w wr : World} {va : Option Addr} {vc : Nat} {bs : List Bool} (h : BgI w wr va vc bs) (n : Nat) : BgI w (wr.drewN n) va vc bs := ⟨below_drewN h.below n, h.row⟩
section
attribute [local go_sem ↓] Go.wp_at_zero Go.wp_at_succ
set_option maxRecDepth 20000 in
set_option maxHeartbeats 4000000 in
theorem RWitness_any (w : World) (x : ByteArray) (hx : x.size ≤ 9223372036854775807) :
    Calls Try.prog 16 #[.string x] w fun e w' => Below w.heap.size w w' ∧ VWiA x e := by
  have HRD := hide (VRead_any w x hx)
  clear hx
  go_enter Try.func16, Try.ntmps16
  go_wp2_with fail
  refine (unhide HRD).mono ?_
  rintro e w1 ⟨hb1, h⟩
  clear HRD
  rcases h with ⟨hok, g, tc, hg1, hg2, rfl, hct⟩ | ⟨hno, N, f, ta, n, tc, rfl⟩
  · have HOK := hide hok
    have hT := TbD.of hok
    have HIM : Hid (((w1.alloc (.cells #[.int .i64 ((bt x 2 : Nat) : Int), .string (imF x), .slice (some ⟨g, 0, none⟩) (bt x 3) tc] 75)).alloc (.cells #[.slice (some ⟨g, 0, none⟩) (bt x 3) tc, .slice none 0 0, .slice none 0 0] 90)).heap[w1.heap.size]? = some (.cells #[.int .i64 ((bt x 2 : Nat) : Int), .string (imF x), .slice (some ⟨g, 0, none⟩) (bt x 3) tc] 75 (0, 0))) := heap_alloc2_old _ _ _
    have HRM : Hid (((w1.alloc (.cells #[.int .i64 ((bt x 2 : Nat) : Int), .string (imF x), .slice (some ⟨g, 0, none⟩) (bt x 3) tc] 75)).alloc (.cells #[.slice (some ⟨g, 0, none⟩) (bt x 3) tc, .slice none 0 0, .slice none 0 0] 90)).heap[w1.heap.size + 1]? = some (.cells #[.slice (some ⟨g, 0, none⟩) (bt x 3) tc, .slice none 0 0, .slice none 0 0] 90 (0, 0))) := heap_alloc2_new _ _ _
    have HB2 : Hid (Below w.heap.size w ((w1.alloc (.cells #[.int .i64 ((bt x 2 : Nat) : Int), .string (imF x), .slice (some ⟨g, 0, none⟩) (bt x 3) tc] 75)).alloc (.cells #[.slice (some ⟨g, 0, none⟩) (bt x 3) tc, .slice none 0 0, .slice none 0 0] 90))) := hb1.trans ((below2 w1 _ _).mono hb1.size)
    have HCT := hide (fun i hi => below_cell (below2 w1 (.cells #[.int .i64 ((bt x 2 : Nat) : Int), .string (imF x), .slice (some ⟨g, 0, none⟩) (bt x 3) tc] 75) (.cells #[.slice (some ⟨g, 0, none⟩) (bt x 3) tc, .slice none 0 0, .slice none 0 0] 90)) (hct i hi))
    have HT := hide hT
    have HG : Hid (g < w1.heap.size) := hg2
    have HGI : Hid (w.heap.size ≤ w1.heap.size) := hb1.size
    have HN : Hid (bt x 2 ≤ 16) := hok.n
    have HM1 := hide hok.r1
    have HM4 := hide hok.r2
    have HFS : Hid ((imF x).size ≤ 1000) := by show _ ≤ _; rw [imF_size hok.fl]; have := hok.f2; omega
    have HFM := hide hok.fm
    have HPQ := hide (fun v => truS_st (f := imF x) (m := bt x 3) (M := bt x 3) (ts := imT x) (ts' := imT x) (fr := 0) (by omega) (fun i hi => by rw [Nat.zero_add]) v)
    have HTX : Hid (∀ v, tru (imF x) (bt x 3) (imT x) v = truX x v) := fun v => rfl
    clear hok hct hb1 hg1 hg2 hT
    generalize hN : bt x 2 = N at *
    generalize hm : bt x 3 = m at *
    generalize hf : imF x = f at *
    have HEN := hide hN
    have HEM := hide hm
    have HEF := hide hf
    clear hN hm hf
    have hNI : (N : Int) ≤ 16 := by have := unhide HN; omega
    have hmI : (m : Int) ≤ 4 := by have := unhide HM4; omega
    go_wp2_with fail
    have HGN : Hid (g ≠ w1.heap.size + 1) := by have := unhide HG; show _ ≠ _; omega
    generalize hW2 : ((w1.alloc (.cells #[.int .i64 (N : Int), .string f, .slice (some ⟨g, 0, none⟩) m tc] 75)).alloc (.cells #[.slice (some ⟨g, 0, none⟩) m tc, .slice none 0 0, .slice none 0 0] 90)) = w2 at *
    clear hW2
    generalize w1.heap.size = gi at *
    refine (rall_any w2 (gi + 1) g m tc _ _ (unhide HT) (unhide HM1) (by have := unhide HM4; omega) (unhide HRM) (unhide HGN) (unhide HCT)).mono ?_
    rintro e w3 hA
    rcases hA with ⟨fa, fc, F, us, na, nc, Nx, ns, rfl, hre, hdl, hfew, hnl, hnx⟩ | ⟨hM, rfl, hfr⟩
    · have h0 := hdl.zero
      have HZ := hide h0
      have HF0 : Hid (0 < F.length) := (List.getElem?_eq_some_iff.1 h0).1
      have HRE := hide hre
      have HDL := hide hdl
      have HFE := hide hfew
      have HNL := hide hnl
      have HNX := hide hnx
      have HNM := hide (hdl.few hfew)
      have HI3 : Hid (w3.heap[gi]? = some (.cells #[.int .i64 (N : Int), .string f, .slice (some ⟨g, 0, none⟩) m tc] 75 (0, 0))) := hre.fr.at (unhide HIM) (by simp)
      have hFI : (F.length : Int) ≤ 256 := by omega
      have HB3 : Hid (Below w.heap.size w w3) := hre.fr.belowOf (unhide HB2) (unhide HB2).size (by have := unhide HGI; omega)
      clear hre hdl hfew hnl hnx h0
      go_wp2_with fail
      go_loopw [9, 10] (fun vx ix wr => ∃ (i : Nat) (va : Option Addr) (vc : Nat), vx = .slice va i vc ∧ ix = .int .i64 (i : Int) ∧ Hid (i ≤ F.length ∧ BgI w3 wr va vc (wnF F (truS f m (imT x) 0) i))) (fun _ ix _ => lenLeft F.length ix)
      case atStart => exact ⟨0, none, 0, rfl, rfl, Nat.zero_le _, BgI.start⟩
      case round =>
        rename World => wr
        obtain ⟨i, va, vc, rfl, rfl, HH⟩ := hrel
        obtain ⟨hi, hI⟩ := unhide HH
        clear HH
        have hRE := (unhide HRE).next hI.below
        have c1 := hRE.c1
        have hgr := hRE.lt
        have hI4 := (Fr.ofBelow hI.below).at (unhide HI3) (by simp)
        have k0 : wr.cell? ⟨gi, 0, none⟩ = some (.int .i64 (N : Int)) := by rw [cell_of_row _ _ _ _ _ _ hI4]; rfl
        have k1 : wr.cell? ⟨gi, 1, none⟩ = some (.string f) := by rw [cell_of_row _ _ _ _ _ _ hI4]; rfl
        have k2 : wr.cell? ⟨gi, 2, none⟩ = some (.slice (some ⟨g, 0, none⟩) m tc) := by rw [cell_of_row _ _ _ _ _ _ hI4]; rfl
        have hgi : gi < wr.heap.size := (Array.getElem?_eq_some_iff.1 hI4).1
        by_cases hlt : i < F.length
        · have hiI : (i : Int) < (F.length : Int) := by omega
          have hi0 : (0 : Int) ≤ (i : Int) := by omega
          have hi1 : ((i : Int)).toNat = i := by omega
          obtain ⟨σ, hσ⟩ : ∃ σ, F[i]? = some σ := ⟨_, List.getElem?_eq_getElem hlt⟩
          obtain ⟨gf, u, hfa, hgf, -, cu, hu⟩ := hRE.at1 hσ
          subst hfa
          obtain ⟨hsl, hss⟩ := (unhide HDL).byt (unhide HT).ok hσ
          have HSA : Hid (∀ n, Calls Try.prog 47 #[.pointer (some ⟨gi + 1, 0, none⟩), .string f, u, .int .i64 0, .int .i64 (m : Int)] (wr.drewN n) fun e w' => e = .returned (.bool (truS f m (imT x) 0 σ)) ∧ ∃ k, w' = (wr.drewN n).drewN k) := fun n => by
            have := says_any (wr.drewN n) (gi + 1) g m tc _ _ (unhide HT) (by have := unhide HM4; omega) hRE.c0 (fun q hq => (hRE.fr.cell (unhide HCT q hq) (by simpa using unhide HGN) : wr.cell? ⟨g, q, none⟩ = _)) w2.heap.size u σ hu hsl hss f 0 m m (by omega) (unhide HM4) (unhide HM4) (unhide HFS) (unhide HFM)
            unfold truS
            simpa using this
          obtain ⟨ua, uc, rfl⟩ := hu.form
          have HSN : Hid (wnF F (truS f m (imT x) 0) (i + 1) = wnF F (truS f m (imT x) 0) i ++ [truS f m (imT x) 0 σ]) := by
            show _ = _
            unfold wnF
            rw [bmap_snoc, List.getD_eq_getElem?_getD, hσ]; rfl
          have HLN : Hid ((wnF F (truS f m (imT x) 0) i).length = i) := bmap_len _ _
          have HLT := hide hlt
          have HI := hide hI
          have HSZ : Hid (w3.heap.size ≤ wr.heap.size) := hI.below.size
          clear hi hI hlt hσ hu hsl hss hRE hI4 k0
          generalize wnF F (truS f m (imT x) 0) i = xs at *
          generalize truS f m (imT x) 0 σ = y at *
          have hxl := unhide HLN
          subst hxl
          go_wp2_with fail
          go_quiet ((go_at_call 47; exact Calls.quiet_of (unhide HSA _)))
          have HXA := hide (((unhide HI).drewN nq).alloc (Obj.cells #[.bool y] 4))
          go_wp2_with (at_builtin; refine appB rfl (.tmp 52) (.tmp 54) rfl w3.heap.size _ xs rfl (unhide HXA).row wr.heap.size y rfl (new_cell rfl) (by have := unhide HLT; have := unhide HFE; omega) (by have := unhide HSZ; simp; omega) (wr.heap.size + 1) (by simp) ?_; intro g5 cap5 w8 ho hgrow hlies hlt5; have HP9 := hide ((unhide HXA).push hgrow ho); clear ho hgrow hlies)
          go_roundw
          case rel => exact ⟨xs.length + 1, some ⟨g5, 0, none⟩, cap5, rfl, by go_num, unhide HLT, by rw [unhide HSN]; exact unhide HP9⟩
          case measure => have := unhide HLT; simp [lenLeft, intOf]; omega
        · have hi2 : i = F.length := by omega
          subst hi2
          have hiI : ¬ (F.length : Int) < (F.length : Int) := by omega
          have hwl : (wnF F (truS f m (imT x) 0) F.length).length = F.length := bmap_len _ _
          have hrow := hI.row
          rw [hwl] at hrow
          have HFI := hide (rfirst_any w2 (gi + 1) wr _ _ _ F us _ _ Nx ns hRE m (imT x) (unhide HNX) (unhide HNL) (unhide HF0) (unhide HFE) w3.heap.size _ _ hrow hwl N (by have := unhide HN; omega))
          have HBW := hide (bel_up4 (unhide HB3) hI.below)
          clear hi hI hlt hRE hI4 hwl hrow
          go_wp2_with fail
          refine (unhide HFI).mono ?_
          rintro e w5 ⟨hb5, ha⟩
          have HB5 := hide (bel_up4 (unhide HBW) hb5)
          obtain ⟨s, b, rfl⟩ := fi_form ha
          have HAN : Hid (VWiA x (.returned (.tuple #[.string s, .bool b, .int .i64 0]))) := by
            refine .inl ⟨unhide HOK, ?_⟩
            have := fi_wit (M := Many (stT m (imT x))) ha (wnF_run (unhide HNX) (unhide HNL) (unhide HZ) (unhide HPQ)) (unhide HNM)
            rw [unhide HEN, unhide HEM]
            have e2 : truX x = tru f m (imT x) := by funext v; exact (unhide HTX v).symm
            rw [e2]
            exact this
          clear ha hb5
          go_wp2_with fail
          refine bodyPost_ret (v := .tuple #[.string s, .bool b, .int .i64 0]) (by simp [results, Try.results16, go_sem]) rfl ?_
          exact ⟨unhide HB5, unhide HAN⟩
    · have HMM := hide hM
      have HB3 : Hid (Below w.heap.size w w3) := hfr.belowOf (unhide HB2) (unhide HB2).size (by have := unhide HGI; omega)
      clear hM hfr
      go_wp2_with fail
      refine bodyPost_ret (v := .tuple #[.string ⟨#[]⟩, .bool false, .int .i64 3]) (by simp [results, Try.results16, go_sem]) rfl ?_
      exact ⟨unhide HB3, .inl ⟨unhide HOK, .inl ⟨by rw [unhide HEM]; exact unhide HMM, rfl⟩⟩⟩
  · have HB1 := hide hb1
    have HF := hide hno
    clear hb1 hno
    go_wp2_with fail
    refine bodyPost_ret (v := .tuple #[.string ⟨#[]⟩, .bool false, .int .i64 7]) (by simp [results, Try.results16, go_sem]) rfl ?_
    exact ⟨(unhide HB1).alloc (unhide HB1).size _, .inr ⟨unhide HF, rfl⟩⟩
end

end Mc
end Go.Proofs.Ytnkdbcicphnmiaa
namespace Go.Proofs.Ytnkdbcicphnmiaa
namespace Mc
open Go.RowKit
attribute [local go_sem ↓] Go.wp_at_zero Go.wp_at_succ

theorem rnum_any (e : Int) (w : World) : Calls Try.prog 17 #[.int .i64 e] w fun r w' => r = .returned (.int .i64 e) ∧ w' = w := by
  go_enter Try.func17, Try.ntmps17
  go_wp2
  go_ret
  exact ⟨rfl, rfl⟩
theorem vwi_one {x : ByteArray} {e e' : Ending} (h : VWiA x e) (h' : VWiA x e') : e' = e := by
  rcases h with ⟨hok, h⟩ | ⟨hno, rfl⟩
  · rcases h' with ⟨-, h'⟩ | ⟨hno, -⟩
    · exact wit_wit h h'
    · exact absurd hok hno
  · rcases h' with ⟨hok, -⟩ | ⟨-, h'⟩
    · exact absurd hok hno
    · exact h'
theorem vwi_form {x : ByteArray} {e : Ending} (h : VWiA x e) : ∃ s b n, e = .returned (.tuple #[.string s, .bool b, .int .i64 n]) := by
  rcases h with ⟨-, h⟩ | ⟨-, rfl⟩
  · exact wit_form h
  · exact ⟨_, _, _, rfl⟩
set_option maxRecDepth 20000 in
set_option maxHeartbeats 1000000 in
theorem Witnesses_any (w : World) (x : ByteArray) (hx : x.size ≤ 9223372036854775807) :
    Calls Try.prog 6 #[.string x] w fun e w' => e = .returned (.bool true) ∧ Below w.heap.size w w' := by
  have HA := hide (VWitness_any w x hx)
  have HB := hide (fun W => RWitness_any W x hx)
  clear hx
  go_enter Try.func6, Try.ntmps6
  go_wp2_with fail
  refine (unhide HA).mono ?_
  rintro e w1 ⟨hb1, ha⟩
  have HAA := hide ha
  obtain ⟨s, b, n, rfl⟩ := vwi_form ha
  have HB1 := hide hb1
  clear ha hb1 HA
  go_wp2_with fail
  refine (unhide HB _).mono ?_
  rintro e w2 ⟨hb2, ha⟩
  obtain rfl := vwi_one (unhide HAA) ha
  have HB2 := hide (bel_up4 (unhide HB1) hb2)
  clear ha hb2 HB HB1
  go_wp2_with fail
  refine (rnum_any n _).mono ?_
  rintro e w3 ⟨rfl, hww⟩
  obtain rfl : w2 = w3 := hww.symm
  clear hww
  go_wp2_with fail
  go_ret
  exact ⟨by simp, unhide HB2⟩

end Mc
end Go.Proofs.Ytnkdbcicphnmiaa
