/-
  machine.machine.run: the program's machine runs code.
-/
import Derived.Test.YtnkdbcicphnmiaaT01
namespace Go.Proofs.Ytnkdbcicphnmiaa
namespace Mc
open Go.RowKit
attribute [local go_sem ↓] Go.wp_at_zero Go.wp_at_succ

def RunPost (B gm n : Nat) (w : World) (r : RunEnd) (e : Ending) (w' : World) : Prop :=
  Below B w w' ∧ match r with
    | .ok s' => e = .returned (.int .i64 0) ∧ PM w' B gm s' ∧ s'.Ok n ∧ s'.T.length ≤ 2097152
    | .error k => (k = 11 ∨ k = 10) ∧ e = .returned (.int .i64 k)

set_option maxRecDepth 20000 in
set_option maxHeartbeats 1000000 in
theorem run_any (w : World) (B gm : Nat) (cv : Value) (os : List OpI) (k : Nat) (s : MS) (hcB : ∀ W, Below B w W → OAt W cv os) (hco : codeOk os) (h : PM w B gm s) (hs : s.Ok os.length) (hk : k ≤ 2097152) (hT0 : s.T = []) :
    Calls Try.prog 93 #[.pointer (some ⟨gm, 0, none⟩), cv, .int .i64 (k : Int)] w (RunPost B gm os.length w (runN os k s)) := by
  obtain ⟨a, cap, rfl, -⟩ := hcB w (Below.refl _ _)
  have hnI : (os.length : Int) ≤ 4096 := by have := hco.1; omega
  have hkI : (k : Int) ≤ 2097152 := by omega
  have HCB := hide hcB
  have HCO := hide hco
  have HK := hide hk
  have H0 : Hid (0 ≤ k ∧ Below B w w ∧ PM w B gm s ∧ s.Ok os.length ∧ s.T.length ≤ 0 ∧ runN os (k - 0) s = runN os k s) := ⟨Nat.zero_le _, Below.refl _ _, h, hs, by rw [hT0]; exact Nat.le_refl _, rfl⟩
  generalize hR : runN os k s = R at *
  have HR := hide hR
  clear hcB hco h hs hk hT0 hR
  go_enter Try.func93, Try.ntmps93
  go_wp2_with fail
  go_loopw [7] (fun ix wr => ∃ d : Nat, ix = .int .i64 (d : Int) ∧ Hid (∃ s1, d ≤ k ∧ Below B w wr ∧ PM wr B gm s1 ∧ s1.Ok os.length ∧ s1.T.length ≤ d ∧ runN os (k - d) s1 = R)) (fun ix _ => k - (intOf ix).toNat)
  case atStart => exact ⟨0, rfl, s, by simpa [unhide HR] using unhide H0⟩
  case round =>
    rename World => wr
    obtain ⟨d, rfl, HH⟩ := hrel
    obtain ⟨s1, hd, hBw, hPM, hOk, hTl, hrun⟩ := unhide HH
    obtain ⟨gmem, tv, hx⟩ := hPM
    have cp := hx.cp hOk.lr
    have hdI : (d : Int) ≤ (k : Int) := by omega
    have HX := hide hx
    have HBW := hide hBw
    have HOK := hide hOk
    have HTL := hide hTl
    have HRUN := hide hrun
    by_cases hp : s1.p < os.length
    · have hpI : (s1.p : Int) < (os.length : Int) := by omega
      by_cases hdk : d < k
      · have hdkI : (d : Int) < (k : Int) := by omega
        obtain ⟨a2, cap2, he, hcs⟩ := unhide HCB wr hBw
        simp only [Value.slice.injEq, true_and] at he
        obtain ⟨rfl, rfl⟩ := he
        obtain ⟨b, off, rfl, hcs2⟩ := hcs (by omega)
        obtain ⟨c0, c1, c2, c3⟩ := hcs2 s1.p hp
        have hop := (unhide HCO).2 s1.p hp
        have HP := hide hp
        have HDK := hide hdk
        clear HH hd hBw hOk hTl hrun hp hdk hcs hcs2 hx
        generalize hoo : os.getD s1.p op0 = o at *
        have HOO := hide hoo
        have HOP := hide hop
        clear hoo hop
        have hx1 := hide ((unhide HX).alloc (Obj.cells #[.int .i64 o.k, .int .i64 o.a, .int .i64 o.b, .int .i64 o.c] 62))
        have HHA := hide (has_any _ B gm s1 os.length o ⟨gmem, tv, unhide hx1⟩ (unhide HOK) (unhide HOP))
        have HB1 : Hid (Below B w (wr.alloc (Obj.cells #[.int .i64 o.k, .int .i64 o.a, .int .i64 o.b, .int .i64 o.c] 62))) := (unhide HBW).alloc (by have := (unhide HX).hB; have := (unhide HX).lt; omega) _
        have HBX : Hid ((wr.alloc (Obj.cells #[.int .i64 o.k, .int .i64 o.a, .int .i64 o.b, .int .i64 o.c] 62)).heap[wr.heap.size]? = some (Obj.cells #[.int .i64 o.k, .int .i64 o.a, .int .i64 o.b, .int .i64 o.c] 62)) := heap_alloc_new _ _
        have HDO := hide (fun w1 s' (h1 : PM w1 B gm s1) (h2 : stepN o s1 = some s') => do_any w1 B gm s1 s' os.length o h1 (unhide HOK) (unhide HCO).1 (by have := unhide HTL; have := unhide HK; have := unhide HDK; omega) (unhide HOP) h2)
        have HSN : Hid (∀ s', stepN o s1 = some s' → s'.Ok os.length ∧ s'.T.length ≤ d + 1 ∧ runN os (k - (d + 1)) s' = R) := fun s' h2 => by
          refine ⟨stepN_ok (unhide HOK) (unhide HP) (unhide HOP) h2, Nat.le_trans (stepN_T h2) (Nat.succ_le_succ (unhide HTL)), ?_⟩
          rw [← unhide HRUN, show k - d = (k - (d + 1)) + 1 by have := unhide HDK; omega]
          exact (runN_step (unhide HP) (by rw [unhide HOO]; exact h2)).symm
        have HNO : Hid (stepN o s1 = none → R = .error 10) := fun h2 => by
          rw [← unhide HRUN, show k - d = (k - (d + 1)) + 1 by have := unhide HDK; omega]
          exact runN_addr (unhide HP) (by rw [unhide HOO]; exact h2)
        unfold opV at HHA HDO
        cases hst : stepN o s1 with
        | none =>
          rw [hst] at HHA
          have HR2 := hide (unhide HNO hst)
          clear hst
          go_wp2_with fail
          refine (unhide HHA).mono ?_
          rintro e w1 ⟨rfl, hb1⟩
          have HB2 : Hid (Below B w w1) := (unhide HB1).trans (hb1.mono (by have := (unhide HX).hB; have := (unhide HX).lt; simp; omega))
          clear hb1
          simp only [Option.isSome_none]
          go_wp2_with fail
          go_ret
          exact ⟨unhide HB2, by rw [unhide HR2]; exact ⟨.inr rfl, rfl⟩⟩
        | some s' =>
          rw [hst] at HHA
          have HST := hide hst
          have HSN2 := hide (unhide HSN s' hst)
          clear hst
          go_wp2_with fail
          refine (unhide HHA).mono ?_
          rintro e w1 ⟨rfl, hb1⟩
          have HB2 : Hid (Below B w w1) := (unhide HB1).trans (hb1.mono (by have := (unhide HX).hB; have := (unhide HX).lt; simp; omega))
          have HDO2 := hide (unhide HDO w1 s' ⟨gmem, tv, (unhide hx1).fr (Fr.ofBelow hb1) (by simp) (by simp) (by simp)⟩ (unhide HST))
          have hbx : w1.heap[wr.heap.size]? = some (Obj.cells #[.int .i64 o.k, .int .i64 o.a, .int .i64 o.b, .int .i64 o.c] 62) := (hb1.block _ (by simp)).trans (unhide HBX)
          have d0 : w1.cell? ⟨wr.heap.size, 0, none⟩ = some (.int .i64 o.k) := by rw [cell_of_row _ _ _ _ _ _ hbx]; rfl
          have d1 : w1.cell? ⟨wr.heap.size, 1, none⟩ = some (.int .i64 o.a) := by rw [cell_of_row _ _ _ _ _ _ hbx]; rfl
          have d2 : w1.cell? ⟨wr.heap.size, 2, none⟩ = some (.int .i64 o.b) := by rw [cell_of_row _ _ _ _ _ _ hbx]; rfl
          have d3 : w1.cell? ⟨wr.heap.size, 3, none⟩ = some (.int .i64 o.c) := by rw [cell_of_row _ _ _ _ _ _ hbx]; rfl
          clear hb1 hbx
          simp only [Option.isSome_some]
          go_wp2_with fail
          refine (unhide HDO2).mono ?_
          rintro e w2 ⟨rfl, hb2, hp2⟩
          have HB3 : Hid (Below B w w2) := (unhide HB2).trans hb2
          have HP2 := hide hp2
          clear hb2 hp2
          go_wp2_with fail
          go_roundw
          case rel => exact ⟨d + 1, by go_num, s', unhide HDK, unhide HB3, unhide HP2, (unhide HSN2).1, (unhide HSN2).2.1, (unhide HSN2).2.2⟩
          case measure => have := unhide HDK; simp [intOf]; omega
      · have hdk2 : d = k := by omega
        subst hdk2
        have HR2 : Hid (R = .error 11) := by
          show R = .error 11
          rw [← hrun, Nat.sub_self]
          exact runN_zero hp
        clear HH hd hBw hOk hTl hrun hp hdk hx
        go_wp2_with fail
        go_ret
        exact ⟨unhide HBW, by rw [unhide HR2]; exact ⟨.inl rfl, rfl⟩⟩
    · have hpI : (os.length : Int) ≤ (s1.p : Int) := by omega
      have HR2 : Hid (R = .ok s1) := by
        show R = .ok s1
        rw [← hrun]
        exact runN_ends (by omega)
      have HTL2 : Hid (s1.T.length ≤ 2097152) := by have := unhide HK; show _ ≤ _; omega
      clear HH hd hBw hOk hTl hrun hp hx
      go_wp2_with fail
      go_ret
      exact ⟨unhide HBW, by rw [unhide HR2]; exact ⟨rfl, ⟨gmem, tv, unhide HX⟩, unhide HOK, unhide HTL2⟩⟩

end Mc
end Go.Proofs.Ytnkdbcicphnmiaa
