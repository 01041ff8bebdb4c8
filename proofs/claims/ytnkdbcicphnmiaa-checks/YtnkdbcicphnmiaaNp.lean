/-
  veilref.Run: the document's answer of a run.
-/
import Derived.Test.YtnkdbcicphnmiaaNo
import Derived.Test.YtnkdbcicphnmiaaNn
import Derived.Test.YtnkdbcicphnmiaaNk
namespace Go.Proofs.Ytnkdbcicphnmiaa
namespace Mc
open Go.RowKit
attribute [local go_sem ↓] Go.wp_at_zero Go.wp_at_succ

/-- The zero machine of the document. -/
def zcM : Array Value := rmC (List.replicate 16 0) (List.replicate 4096 0) 0 (.slice none 0 0)
set_option maxRecDepth 100000 in
theorem zvM (w : World) : (zeroValue 110).run Try.prog w = .ok (.agg zcM) w := by kernel_rfl
theorem zcM_size : zcM.size = 4114 := rmC_size (by rw [List.length_replicate]) (by rw [List.length_replicate])
theorem zcM_ne : zcM ≠ #[] := fun e => by have := zcM_size; rw [e] at this; cases this
/-- What has been copied out. -/
def outI (M : List Nat) (i : Nat) : List Nat := M.take i ++ List.replicate (4096 - i) 0
theorem outI_zero (M : List Nat) : outI M 0 = List.replicate 4096 0 := by unfold outI; rw [List.take_zero, List.nil_append]
theorem outI_all {M : List Nat} (h : M.length = 4096) : outI M 4096 = M := by unfold outI; rw [← h, List.take_length, Nat.sub_self, List.replicate_zero, List.append_nil]
theorem outI_len {M : List Nat} {i : Nat} (h : M.length = 4096) (hi : i ≤ 4096) : (outI M i).length = 4096 := by unfold outI; rw [List.length_append, List.length_take, List.length_replicate]; omega
theorem outI_step {M : List Nat} {i : Nat} (h : M.length = 4096) (hi : i < 4096) : (outI M i).set i (M.getD i 0) = outI M (i + 1) := by
  unfold outI
  rw [List.set_append_right _ _ (by rw [List.length_take]; omega)]
  obtain ⟨m, hm⟩ : ∃ m, 4096 - i = m + 1 := ⟨4096 - i - 1, by omega⟩
  have e : i - (M.take i).length = 0 := by rw [List.length_take]; omega
  rw [hm, show 4096 - (i + 1) = m by omega, List.replicate_succ, e, List.set_cons_zero, List.take_add_one, List.getElem?_eq_getElem (by omega), List.getD_eq_getElem?_getD, List.getElem?_eq_getElem (by omega), List.append_assoc]
  rfl

attribute [local go_sem ↓] zvM
attribute [local go_sem] zcM_size zcM_ne
set_option maxRecDepth 20000 in
set_option maxHeartbeats 1000000 in
theorem RRun_good (w : World) (cv mv : Value) (os : List OpI) (zs : List Int) (k : Nat) (hc : OAt w cv os) (hm : IAt w mv zs) (hcb : codeB os = true) (hmb : memB zs = true) (hk : k ≤ 2097152) :
    Calls Try.prog 33 #[cv, mv, .int .i64 (k : Int)] w fun e w' => ∃ ov tv, e = .returned (.tuple #[ov, tv, .int .i64 (endAns (runN os k (ms0 zs))).e]) ∧ RunOut w w' (endAns (runN os k (ms0 zs))) ov tv := by
  have hco := (codeB_iff os).1 hcb
  have hme := (memB_iff zs).1 hmb
  have hsb : stepsB (k : Int) = true := (stepsB_iff _).2 ⟨by omega, by omega⟩
  have HTK := hide (Takes_any w cv mv os zs (k : Int) hc hm)
  rw [tE0 hcb hmb hsb] at HTK
  have HOA := hide hc
  have HMA := hide hm
  have HCO := hide hco
  have HME := hide hme
  have HK := hide hk
  have hkI : (k : Int) ≤ 2097152 := by omega
  have hzI : (zs.length : Int) ≤ 4096 := by have := hme.1; omega
  have hnI : (os.length : Int) ≤ 4096 := by have := hco.1; omega
  obtain ⟨ca, cc, rfl, -⟩ := hc
  obtain ⟨ma, mc, rfl, -⟩ := hm
  generalize hR : runN os k (ms0 zs) = R
  have HRR := hide hR
  clear hcb hmb hco hme hk hsb hR
  go_enter Try.func33, Try.ntmps33
  go_wp2_with fail
  refine (unhide HTK).mono ?_
  rintro e w1 ⟨rfl, hb1⟩
  have HB1 := hide hb1
  clear hb1
  go_wp2_with fail
  have H0 : Hid (Below w.heap.size w (w1.alloc (Obj.cells zcM 110)) ∧ RMx (w1.alloc (Obj.cells zcM 110)) w.heap.size w1.heap.size (.slice none 0 0) ⟨List.replicate 16 0, memI zs 0, 0, []⟩) := by
    have hsz := (unhide HB1).size
    refine ⟨(unhide HB1).alloc hsz _, ⟨hsz, ?_, NR.nil _ _⟩⟩
    rw [memI_zero]
    exact heap_alloc_new _ _
  generalize w1.heap.size = gm at *
  clear HTK
  go_loopw [11] (fun ix wr => ∃ i : Nat, ix = .int .i64 (i : Int) ∧ Hid (i ≤ zs.length ∧ Below w.heap.size w wr ∧ RMx wr w.heap.size gm (.slice none 0 0) ⟨List.replicate 16 0, memI zs i, 0, []⟩)) (fun ix _ => lenLeft zs.length ix)
  case atStart => exact ⟨0, rfl, Nat.zero_le _, (unhide H0).1, (unhide H0).2⟩
  case round =>
    clear H0
    rename World => wr
    obtain ⟨i, rfl, HH⟩ := hrel
    obtain ⟨hi, hBw, hx⟩ := unhide HH
    have HX := hide hx
    have HBW := hide hBw
    have hgm := hx.lt
    by_cases hlt : i < zs.length
    · obtain ⟨ma2, mc2, he, hcs⟩ := (unhide HMA).below hBw
      simp only [Value.slice.injEq, true_and] at he
      obtain ⟨rfl, rfl⟩ := he
      obtain ⟨b, off, rfl, hcs2⟩ := hcs (by omega)
      have cz := hcs2 i hlt
      obtain ⟨z, hz, hz2⟩ : ∃ z : Nat, zs.getD i 0 = (z : Int) ∧ (zs.getD i 0).toNat = z := by
        have := (unhide HME).2 i hlt
        simp [wordOk] at this
        exact ⟨(zs.getD i 0).toNat, by rw [List.getD_eq_getElem?_getD]; omega, rfl⟩
      rw [hz] at cz
      have hi4N : i < 4096 := by have := (unhide HME).1; omega
      have cM := hx.cw (by simp) (memI_len hi (unhide HME).1) hi4N
      have fM := hx.free (16 + i)
      have hiI : (i : Int) < (zs.length : Int) := by omega
      have hi4 : (i : Int) < 4096 := by omega
      have HLT := hide hlt
      have HNX : Hid (RMx (wr.setCell ⟨gm, 16 + i, none⟩ (.int .i64 (z : Int))) w.heap.size gm (.slice none 0 0) ⟨List.replicate 16 0, memI zs (i + 1), 0, []⟩) := by
        have := hx.setM (by simp) (memI_len hi (unhide HME).1) hi4N z
        simp only at this
        rw [← hz2, memI_step hlt (unhide HME).1] at this
        rw [hz2] at this
        exact this
      have HGM : Hid (w.heap.size ≤ gm) := hx.hB
      clear HH hi hBw hx hlt hcs hcs2 hz hz2 hi4N
      generalize (memI zs i).getD i 0 = y at *
      go_wp2_with fail
      go_region
      all_goals
        go_wp2_with fail
        go_roundw
        case rel => exact ⟨i + 1, by go_num, unhide HLT, (below_set (unhide HBW) (unhide HGM)).drew, (unhide HNX).drew⟩
        case measure => have := unhide HLT; simp [lenLeft, intOf]; omega
    · have hi2 : i = zs.length := by omega
      subst hi2
      rw [memI_all] at hx
      have H0 : Hid (∃ s1, 0 ≤ k ∧ Below w.heap.size w wr ∧ RM wr w.heap.size gm s1 ∧ s1.Ok os.length ∧ s1.T.length ≤ 0 ∧ runN os (k - 0) s1 = R) := ⟨ms0 zs, Nat.zero_le _, hBw, ⟨_, hx⟩, ms0_ok (unhide HME) _, Nat.le_refl _, unhide HRR⟩
      clear HH hi hBw hx hlt HX HBW
      go_wp2_with fail
      go_loopw [12] (fun ix wr => ∃ d : Nat, ix = .int .i64 (d : Int) ∧ Hid (∃ s1, d ≤ k ∧ Below w.heap.size w wr ∧ RM wr w.heap.size gm s1 ∧ s1.Ok os.length ∧ s1.T.length ≤ d ∧ runN os (k - d) s1 = R)) (fun ix _ => k - (intOf ix).toNat)
      case atStart => exact ⟨0, rfl, unhide H0⟩
      case round =>
        clear H0 hgm
        rename World => wr
        obtain ⟨d, rfl, HH⟩ := hrel
        obtain ⟨s1, hd, hBw, hRM, hOk, hTl, hrun⟩ := unhide HH
        obtain ⟨tv, hx⟩ := hRM
        have cp := hx.cp hOk.lr hOk.lm
        have hdI : (d : Int) ≤ (k : Int) := by omega
        have HX := hide hx
        have HBW := hide hBw
        have HOK := hide hOk
        have HTL := hide hTl
        have HRUN := hide hrun
        by_cases hp : s1.p < os.length
        · have hpI : (s1.p : Int) < (os.length : Int) := by omega
          by_cases hdk : d < k
          · have hdkI : (d : Int) < (k : Int) := by omega
            have hdne : ¬ (d : Int) = (k : Int) := by omega
            obtain ⟨a2, cap2, he, hcs⟩ := (unhide HOA).below hBw
            simp only [Value.slice.injEq, true_and] at he
            obtain ⟨rfl, rfl⟩ := he
            obtain ⟨b, off, rfl, hcs2⟩ := hcs (by omega)
            obtain ⟨c0, c1, c2, c3⟩ := hcs2 s1.p hp
            have hop := (unhide HCO).2 s1.p hp
            have HP := hide hp
            have HDK := hide hdk
            clear HH hd hBw hOk hTl hrun hp hdk hcs hcs2 hx
            generalize hoo : os.getD s1.p op0 = o at *
            have HOO := hide hoo
            have HOP := hide hop
            clear hoo hop
            have HDO := hide (does_any wr w.heap.size gm s1 os.length o ⟨tv, unhide HX⟩ (unhide HOK) (unhide HCO).1 (by have := unhide HTL; have := unhide HK; have := unhide HDK; omega) (unhide HOP))
            have HSN : Hid (∀ s', stepN o s1 = some s' → s'.Ok os.length ∧ s'.T.length ≤ d + 1 ∧ runN os (k - (d + 1)) s' = R) := fun s' h2 => by
              refine ⟨stepN_ok (unhide HOK) (unhide HP) (unhide HOP) h2, Nat.le_trans (stepN_T h2) (Nat.succ_le_succ (unhide HTL)), ?_⟩
              rw [← unhide HRUN, show k - d = (k - (d + 1)) + 1 by have := unhide HDK; omega]
              exact (runN_step (unhide HP) (by rw [unhide HOO]; exact h2)).symm
            have HNO : Hid (stepN o s1 = none → R = .error 10) := fun h2 => by
              rw [← unhide HRUN, show k - d = (k - (d + 1)) + 1 by have := unhide HDK; omega]
              exact runN_addr (unhide HP) (by rw [unhide HOO]; exact h2)
            unfold opV at HDO
            cases hst : stepN o s1 with
            | none =>
              rw [hst] at HDO
              obtain rfl := unhide HNO hst
              clear hst
              go_wp2_with fail
              refine (unhide HDO).mono ?_
              rintro e w2 ⟨hb2, rfl⟩
              have HB2 : Hid (Below w.heap.size w w2) := (unhide HBW).trans hb2
              clear hb2
              go_wp2_with fail
              refine bodyPost_ret (v := .tuple #[.slice none 0 0, .slice none 0 0, .int .i64 10]) (by simp [results, Try.results33, go_sem]) rfl ?_
              exact ⟨_, _, rfl, RunOut.nil (unhide HB2) _⟩
            | some s' =>
              rw [hst] at HDO
              have HSN2 := hide (unhide HSN s' hst)
              clear hst
              go_wp2_with fail
              refine (unhide HDO).mono ?_
              rintro e w2 ⟨hb2, rfl, hp2⟩
              have HB2 : Hid (Below w.heap.size w w2) := (unhide HBW).trans hb2
              have HP2 := hide hp2
              clear hb2 hp2
              go_wp2_with fail
              go_roundw
              case rel => exact ⟨d + 1, by go_num, s', unhide HDK, unhide HB2, unhide HP2, (unhide HSN2).1, (unhide HSN2).2.1, (unhide HSN2).2.2⟩
              case measure => have := unhide HDK; simp [intOf]; omega
          · have hdk2 : d = k := by omega
            subst hdk2
            obtain rfl : R = .error 11 := by
              rw [← hrun, Nat.sub_self]
              exact runN_zero hp
            clear HH hd hBw hOk hTl hrun hp hdk hx HRUN
            go_wp2_with fail
            refine bodyPost_ret (v := .tuple #[.slice none 0 0, .slice none 0 0, .int .i64 11]) (by simp [results, Try.results33, go_sem]) rfl ?_
            exact ⟨_, _, rfl, RunOut.nil (unhide HBW) _⟩
        · have hpI : (os.length : Int) ≤ (s1.p : Int) := by omega
          obtain rfl : R = .ok s1 := by
            rw [← hrun]
            exact runN_ends (by omega)
          obtain ⟨ta, tc, rfl⟩ := hx.tr.form
          have HTL2 : Hid (s1.T.length ≤ 2097152) := by have := unhide HK; show _ ≤ _; omega
          obtain ⟨mc4, hmk, HNR⟩ : ∃ mc4, (Instr.makeSlice 23 (.int .i64 4096) (.int .i64 4096)).run Try.prog wr = .ok (.slice (some ⟨wr.heap.size, 0, none⟩) 4096 4096) (wr.alloc (.cells mc4 3)) ∧ Hid (NR (wr.alloc (.cells mc4 3)) wr.heap.size (.slice (some ⟨wr.heap.size, 0, none⟩) 4096 4096) (List.replicate 4096 0)) := ⟨zc4, run_make4 wr, NR.new4 (Nat.le_refl _)⟩
          have H0 : Hid (Below w.heap.size w (wr.alloc (.cells mc4 3)) ∧ RMx (wr.alloc (.cells mc4 3)) w.heap.size gm (.slice ta s1.T.length tc) s1 ∧ NR (wr.alloc (.cells mc4 3)) wr.heap.size (.slice (some ⟨wr.heap.size, 0, none⟩) 4096 4096) (outI s1.M 0)) := ⟨hBw.alloc hBw.size _, hx.alloc _, by rw [outI_zero]; exact unhide HNR⟩
          have HTB : Hid (∀ q, (Value.slice ta s1.T.length tc).ownBlock = some q → q < wr.heap.size) := fun q hq => (hx.tr.lt q hq).2
          have HGL : Hid (gm < wr.heap.size) := hx.lt
          have HWS : Hid (w.heap.size ≤ wr.heap.size) := hBw.size
          clear HH hd hBw hOk hTl hrun hp hx HRUN HNR
          go_wp2_with fail
          generalize hgo : wr.heap.size = go at *
          clear hgo
          go_loopw [15] (fun ix wx => ∃ i : Nat, ix = .int .i64 (i : Int) ∧ Hid (i ≤ 4096 ∧ Below w.heap.size w wx ∧ RMx wx w.heap.size gm (.slice ta s1.T.length tc) s1 ∧ NR wx go (.slice (some ⟨go, 0, none⟩) 4096 4096) (outI s1.M i))) (fun ix _ => lenLeft 4096 ix)
          case atStart => exact ⟨0, rfl, Nat.zero_le _, (unhide H0).1, (unhide H0).2.1, (unhide H0).2.2⟩
          case round =>
            clear H0 HX HBW cp
            rename World => wx
            obtain ⟨i, rfl, HH⟩ := hrel
            obtain ⟨hi, hBw, hx, hnr⟩ := unhide HH
            have HX := hide hx
            have HBW := hide hBw
            have HNR := hide hnr
            have hl := outI_len (unhide HOK).lm hi
            by_cases hlt : i < 4096
            · have cM := hx.cw (unhide HOK).lr (unhide HOK).lm hlt
              have hiI : (i : Int) < 4096 := by omega
              have hlx := hx.lt
              obtain ⟨co, fo⟩ : wx.cell? ⟨go, i, none⟩ = some (.int .i64 (((outI s1.M i).getD i 0 : Nat) : Int)) ∧ wx.frozen? ⟨go, i, none⟩ = false := by
                obtain ⟨g, cap, he, hc⟩ := hnr.at (k := i) (by omega)
                simp only [Value.slice.injEq, Option.some.injEq, Addr.mk.injEq, and_true] at he
                obtain ⟨rfl, _⟩ := he
                refine ⟨hc, ?_⟩
                have h2 := hnr
                unfold NR at h2
                rw [hl] at h2
                exact own_free h2 i
              have HLT := hide hlt
              have HNX : Hid (NR (wx.setCell ⟨go, i, none⟩ (.int .i64 ((s1.M.getD i 0 : Nat) : Int))) go (.slice (some ⟨go, 0, none⟩) 4096 4096) (outI s1.M (i + 1))) := by
                have h2 := hnr
                rw [← hl] at h2
                have := h2.put i (s1.M.getD i 0)
                rw [outI_step (unhide HOK).lm hlt, hl] at this
                exact this
              have HRX : Hid (RMx (wx.setCell ⟨go, i, none⟩ (.int .i64 ((s1.M.getD i 0 : Nat) : Int))) w.heap.size gm (.slice ta s1.T.length tc) s1) := by
                refine hx.fr (Fr.ofSet wx go i _) ?_ (fun q hq => ?_)
                · have := unhide HGL; simp; omega
                · have := unhide HTB q hq; simp; omega
              clear HH hi hBw hx hnr hl hlt
              generalize (outI s1.M i).getD i 0 = y at *
              generalize s1.M.getD i 0 = x at *
              go_wp2_with fail
              go_roundw
              case rel => exact ⟨i + 1, by go_num, unhide HLT, below_set (unhide HBW) (unhide HWS), unhide HRX, unhide HNX⟩
              case measure => have := unhide HLT; simp [lenLeft, intOf]; omega
            · have hi2 : i = 4096 := by omega
              subst hi2
              have ct := hx.ct (unhide HOK).lr (unhide HOK).lm
              rw [outI_all (unhide HOK).lm] at hnr
              have HNR2 := hide (hnr.less (unhide HWS))
              clear HH hi hBw hx hnr hl hlt
              go_wp2_with fail
              go_region
              all_goals
                go_wp2_with fail
                refine bodyPost_ret (v := .tuple #[.slice (some ⟨go, 0, none⟩) 4096 4096, .slice ta s1.T.length tc, .int .i64 0]) (by simp [results, Try.results33, go_sem]) rfl ?_
                refine ⟨_, _, rfl, (unhide HBW).drew, unhide HNR2, (unhide HX).tr, fun q h1 h2 => ?_, unhide HTL2, by show s1.M.length ≤ 4096; rw [(unhide HOK).lm]; exact Nat.le_refl _⟩
                have : go = q := by simpa [Value.ownBlock] using h1
                subst this
                have := unhide HTB _ h2
                omega

end Mc
end Go.Proofs.Ytnkdbcicphnmiaa
