/-
  For every list of operations, every list of numbers and every number of steps, the law Runs returns true: veil.Run answers the memory, the trace and the error that the document's machine has, twice, and what is handed in stays, with its spare room. (Conditions: none but the form's own reach.)
-/
import Derived.Test.YtnkdbcicphnmiaaNu
import Derived.ProofKit
import Derived.OpenShut
import Derived.SizedLaws
import Derived.Deep.Slices
import Derived.WideKeyArgs
namespace Go.Proofs.Ytnkdbcicphnmiaa
open Go.ChangeShapes Go.WideShapes Go.ChangeAt Go.RowKit

theorem runs_own : ownKnob Try.prog.godebug = none := by kernel_rfl
theorem runs_laid : laidOutB Try.prog = true := by kernel_rfl
theorem cells_int : Try.prog.cellsOf 3 = 1 := by kernel_rfl
theorem cells_op : Try.prog.cellsOf 62 = 4 := by kernel_rfl
theorem bytes_int : Try.prog.bytesOf 3 = 8 := by kernel_rfl
theorem bytes_op : Try.prog.bytesOf 62 = 32 := by kernel_rfl
theorem add_plain2 (b off j : Nat) : (⟨b, off, none⟩ : Addr).add j = ⟨b, off + j, none⟩ := Mc.add_at b off j

section
variable {H : Type} {enc : TypeId × Value → H} {W : World} {sp : Nat → Bool} {held : Bool}
set_option maxRecDepth 100000 in
/-- An operation that is read. -/
theorem op_read {n : Nat} {cs : List Value} {x : DataW H × List MemPlace} (h : DataW.trod enc Try.prog W 0 sp held n 62 cs = some x) : ∃ o : Mc.OpI, cs = Mc.ocs o := by
  obtain ⟨xs, m, _, rfl, hl, hlen, hf⟩ := DataW.trod_struct Try.underlying62 h
  rw [cells_op] at hl
  match cs, hl with
  | [c0, c1, c2, c3], _ =>
    match xs, hlen with
    | [y0, y1, y2, y3], _ =>
      have e0 := hf 0 _ rfl
      have e1 := hf 1 _ rfl
      have e2 := hf 2 _ rfl
      have e3 := hf 3 _ rfl
      simp only [List.getElem?_cons_zero, List.getElem?_cons_succ] at e0 e1 e2 e3
      obtain ⟨k, h0, _⟩ := DataW.trod_int Try.underlying3 e0
      obtain ⟨a, h1, _⟩ := DataW.trod_int Try.underlying3 e1
      obtain ⟨b, h2, _⟩ := DataW.trod_int Try.underlying3 e2
      obtain ⟨c, h3, _⟩ := DataW.trod_int Try.underlying3 e3
      cases h0; cases h1; cases h2; cases h3
      exact ⟨⟨k, a, b, c⟩, rfl⟩
end

set_option maxRecDepth 100000 in
theorem runs_lifted (os : Os) (started : os.Started) (H : Type) (enc : TypeId × Value → H) :
    ReturnsInHanded {} Try.checked os 3 .any (Rows.runsSpec.pre6 enc Try.prog Try.f3 Rows.runsRow.domain false) (Rows.runsSpec.post enc Try.prog Try.f3 false true false false) := by
  refine returnsInHanded_of_change_sized (C := Try.checked) runs_own started (by kernel_rfl) Try.func3
    (ChangeSpec.witness6 (enc := enc) (C := Try.checked) false ⟨#[], #[.slice none 0 0, .slice none 0 0, .int .i64 0], []⟩ 8 (by kernel_rfl) (by kernel_rfl) (by kernel_rfl) (by kernel_rfl)) ?_
  intro W base args ds gs before hval0 hW hcnd0 hsz0 _
  have hval : ∀ (j : Nat) t v, Try.f3.params[j]? = some t → args[j]? = some v → Value.okWide Try.prog W .any base t v := hval0
  have hsz : (DataW.weightsEach Try.prog (Try.f3.params.toList ++ Rows.runsSpec.plain.varTypes Try.prog) (ds ++ gs)).all (· ≤ reachBytes) = true := hsz0
  have hW' := hW
  obtain ⟨p, q, hA0, hV, rfl, hfz, hnd⟩ := hW
  have hA : DataW.TrodAll enc Try.prog W 0 (fun _ => true) true Try.f3.params.toList args.toList ds p := hA0
  rw [Try.params3] at hA hval hsz
  obtain ⟨v0, vs0, d0, ds0, p0, q0, hargs, rfl, rfl, h0, r0⟩ := trodAll_cons hA
  obtain ⟨v1, vs1, d1, ds1, p1, q1, hargs1, rfl, rfl, h1, r1⟩ := trodAll_cons r0
  obtain ⟨v2, vs2, d2, ds2, p2, q2, hargs2, rfl, rfl, h2, r2⟩ := trodAll_cons r1
  obtain ⟨rfl, rfl, rfl⟩ := trodAll_nil r2
  obtain rfl : args = #[v0, v1, v2] := by cases args; simp_all
  obtain ⟨rfl, rfl⟩ := trodVars_none hV
  obtain ⟨a0, n0, c0, rfl⟩ := okWide_slice Try.underlying22 (hval 0 22 v0 rfl rfl)
  obtain ⟨a1, n1, c1, rfl⟩ := okWide_slice Try.underlying23 (hval 1 23 v1 rfl rfl)
  obtain ⟨k, rfl, rfl, rfl, w2⟩ := open_int Try.underlying3 (hval 2 3 v2 rfl rfl) h2
  clear hA0 hval0
  simp only [List.append_nil] at hW'
  have hlt : ∀ x ∈ p0 ++ p1, x.block < W.heap.size := fun x hx => hW'.lt x (by simpa using hx)
  have h0k := h0
  have h1k := h1
  obtain ⟨fu0, hf0⟩ := h0
  obtain ⟨fu1, hf1⟩ := h1
  -- the numbers
  obtain ⟨zs, hIA, hzl⟩ : ∃ zs : List Int, Mc.IAt W (.slice a1 n1 c1) zs ∧ zs.length ≤ 17592186044416 := by
    rcases open_ints Try.underlying23 Try.underlying3 cells_int hf1 with ⟨hcs, hx⟩ | ⟨a, len', cap', zs, hcs, _, hl, _, hz, hx, hcell, hwz⟩
    · simp [Value.cells] at hcs
      obtain ⟨rfl, rfl, rfl⟩ := hcs
      exact ⟨[], ⟨none, 0, rfl, fun h => by simp at h⟩, by simp⟩
    · simp [Value.cells] at hcs
      obtain ⟨rfl, rfl, rfl⟩ := hcs
      simp only [Prod.mk.injEq] at hx
      obtain ⟨rfl, rfl⟩ := hx
      simp only [if_true] at hz
      have hs := sized_slice hsz (j := 1) (t := 23) (e := 3) rfl rfl Try.underlying23
      rw [bytes_int] at hs
      simp only [lits, List.length_map, List.length_take, List.length_drop, reachBytes] at hs
      have hlen : (zs.take n1).length = n1 := by rw [List.length_take]; omega
      refine ⟨zs.take n1, ⟨some a, _, by rw [hlen], fun h0 => ?_⟩, by rw [hlen]; omega⟩
      rw [hlen] at h0
      obtain ⟨b, off, spot⟩ := a
      have hspot : spot = none := by simpa [Addr.add] using World.cell?_spot (hcell 0 (by omega))
      subst hspot
      refine ⟨b, off, rfl, fun j hj => ?_⟩
      rw [hlen] at hj
      rw [← add_plain2, hcell j (by omega), List.getD_eq_getElem?_getD, List.getD_eq_getElem?_getD, List.getElem?_take, if_pos hj]
  -- the operations
  obtain ⟨ops, hOA, hol⟩ : ∃ ops : List Mc.OpI, Mc.OAt W (.slice a0 n0 c0) ops ∧ ops.length ≤ 4398046511104 := by
    rcases Deep.open_slice Try.underlying22 hf0 with ⟨hcs, hx⟩ | ⟨a, len', cap', m, n, D, Pl, hcs, _, hl, _, hm, hx, hcell⟩
    · simp [Value.cells] at hcs
      obtain ⟨rfl, rfl, rfl⟩ := hcs
      exact ⟨[], ⟨none, 0, rfl, fun h => by simp at h⟩, by simp⟩
    · simp [Value.cells] at hcs
      obtain ⟨rfl, rfl, rfl⟩ := hcs
      simp only [Prod.mk.injEq] at hx
      obtain ⟨rfl, rfl⟩ := hx
      simp only [if_true] at hm
      have hs := sized_slice hsz (j := 0) (t := 22) (e := 62) rfl rfl Try.underlying22
      rw [bytes_op] at hs
      simp only [List.length_map, List.length_range, reachBytes] at hs
      rw [cells_op] at hcell
      have inh : Inhabited Mc.OpI := ⟨Mc.op0⟩
      obtain ⟨F, hF⟩ := Deep.choose_lt (α := Mc.OpI) (n := m) (p := fun i o => W.cells? 0 (a.add (i * 4)) 4 = some (Mc.ocs o)) (fun i hi => by
        obtain ⟨cs', h1, h2⟩ := hcell i hi
        obtain ⟨o, rfl⟩ := op_read h2
        exact ⟨o, h1⟩)
      have hlen : ((List.range n0).map F).length = n0 := by rw [List.length_map, List.length_range]
      refine ⟨(List.range n0).map F, ⟨some a, _, by rw [hlen], fun h0 => ?_⟩, by rw [hlen]; omega⟩
      rw [hlen] at h0
      obtain ⟨b, off, spot⟩ := a
      have hspot : spot = none := by
        have := (World.cells?_some (hF 0 (by omega))).2.2 0 (by omega)
        have := World.cell?_spot (this.trans (show (Mc.ocs (F 0))[0]? = some _ from rfl))
        simpa [Addr.add] using this
      subst hspot
      refine ⟨b, off, rfl, fun j hj => ?_⟩
      rw [hlen] at hj
      have e : ((List.range n0).map F).getD j Mc.op0 = F j := by rw [List.getD_eq_getElem?_getD, List.getElem?_map, List.getElem?_range hj]; rfl
      rw [e]
      have hc := (World.cells?_some (hF j (by omega))).2.2
      have h0' := hc 0 (by omega)
      have h1' := hc 1 (by omega)
      have h2' := hc 2 (by omega)
      have h3' := hc 3 (by omega)
      simp only [add_plain2] at h0' h1' h2' h3'
      exact ⟨h0', h1', h2', h3'⟩
  refine (Mc.Runs_any W (.slice a0 n0 c0) (.slice a1 n1 c1) ops zs k hOA hIA hol hzl).mono fun e W' ⟨he, hg⟩ => ?_
  subst he
  have ARG0 : DataW.Trod enc Try.prog W' 0 (fun x => decide (x < W.heap.size)) true 22 (.slice a0 n0 c0) d0 p0 :=
    WideElems.Trod_stays runs_laid (by kernel_rfl) (of_decide_eq_true (by kernel_rfl)) h0k (fun x hx => hg.same (hlt x (List.mem_append_left _ hx))) (fun x hx => by simpa using hlt x (List.mem_append_left _ hx))
  have ARG1 : DataW.Trod enc Try.prog W' 0 (fun x => decide (x < W.heap.size)) true 23 (.slice a1 n1 c1) d1 p1 :=
    WideElems.Trod_stays runs_laid (by kernel_rfl) (of_decide_eq_true (by kernel_rfl)) h1k (fun x hx => hg.same (hlt x (List.mem_append_right _ hx))) (fun x hx => by simpa using hlt x (List.mem_append_right _ hx))
  exact ⟨_, rfl, _, _, _, [], _, [], hW', trodAll_cons_mk (shut_bool Try.underlying4 _) trodAll_mk0, trodAll_cons_mk ARG0 (trodAll_cons_mk ARG1 (trodAll_cons_mk (shut_int Try.underlying3 w2) trodAll_mk0)), rfl, hg.frame _, fun h => by cases h⟩

theorem runs_holds : Rows.RunsSaid :=
  OpenClaim.holds_of_wide 3 Try.f3 rfl rfl rfl rfl rfl rfl rfl ⟨rfl, rfl, rfl, rfl, rfl⟩ rfl rfl rfl rfl rfl (by kernel_rfl) Try.func3 (by kernel_rfl)
    (of_decide_eq_true (by kernel_rfl)) (by unfold Func.isWrapper; first | (rw [if_pos (by decide +kernel)]; kernel_rfl) | (rw [if_neg (by decide +kernel)]; exact ⟨rfl, rfl⟩))
    (fun os started H enc _ => runs_lifted os started H enc)

end Go.Proofs.Ytnkdbcicphnmiaa
