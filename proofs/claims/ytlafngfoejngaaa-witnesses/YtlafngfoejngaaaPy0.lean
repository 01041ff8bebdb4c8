/-
  A table is appended to a row of tables: what the walk wants.
-/
import Derived.Test.YtlafngfoejngaaaPx
import Derived.Great.BuildSlice
namespace Go.Proofs.Ytlafngfoejngaaa
namespace Mc
open Go.RowKit

theorem infoTb : (Try.prog.info? 95).map (fun i => (i.zero, i.size, i.bytes)) = some (some (.agg zcTb), 259, 2104) := by kernel_rfl
/-- There is a table's row of cells at a pointer. -/
def IsTb (w : World) (v : Value) (cs : Array Value) : Prop := ∃ g, v = .pointer (some ⟨g, 0, none⟩) ∧ w.heap[g]? = some (.cells cs 95 (0, 0)) ∧ cs.size = 259
def HasTb (w : World) (v : Value) : Prop := ∃ cs, IsTb w v cs
open Classical in
noncomputable def tbOf (w : World) (v : Value) : Array Value := if h : HasTb w v then h.choose else #[]
theorem IsTb.unique {w : World} {v : Value} {cs cs' : Array Value} (h : IsTb w v cs) (h' : IsTb w v cs') : cs = cs' := by
  obtain ⟨g, rfl, h1, -⟩ := h
  obtain ⟨g', e, h2, -⟩ := h'
  cases e
  rw [h1] at h2
  simpa using h2
theorem IsTb.has {w : World} {v : Value} {cs : Array Value} (h : IsTb w v cs) : HasTb w v := ⟨cs, h⟩
theorem IsTb.of {w : World} {v : Value} {cs : Array Value} (h : IsTb w v cs) : tbOf w v = cs := by
  have hh : HasTb w v := ⟨cs, h⟩
  unfold tbOf
  rw [dif_pos hh]
  exact hh.choose_spec.unique h
theorem wp_ldT {d : Option Tmp} {x : Operand} {ty : TypeId} {p : String} {af : Array Edge} {gd : Option (Nat × Bool)} {a : Act} {w : World} {K : Act → World → Prop} {Q : Exit → Act → World → Prop} (h : HasTb w (a.eval x)) :
    Oper.wp Try.prog { dst := d, op := .load 95 x, type := ty, pos := p, after := af, guard := gd } a w K Q = K (a.put d (.agg (tbOf w (a.eval x)))) w := by
  obtain ⟨cs, hcs⟩ := h
  rw [hcs.of]
  obtain ⟨g, hv, hg, hs⟩ := hcs
  unfold Oper.wp execOp
  simp only [hv, Instr.loadAt, Instr.sureAddr, Sem.run_bind, Sem.run_pure, Result.andThen_ok, run_loadVar_row w g _ _ cs _ _ hg Try.underlying95 rfl (by rw [hs]; exact infoT)]
  rfl
/-- A value is a table's cells. -/
def IsTv (v : Value) : Prop := ∃ cs, v = .agg cs ∧ cs.size = 259
theorem wp_bsT {d : Option Tmp} {x : Operand} {ty : TypeId} {p : String} {af : Array Edge} {gd : Option (Nat × Bool)} {a : Act} {w : World} {K : Act → World → Prop} {Q : Exit → Act → World → Prop} (h : IsTv (a.eval x)) :
    Oper.wp Try.prog { dst := d, op := .buildSlice 45 1 #[(0, x)], type := ty, pos := p, after := af, guard := gd } a w K Q = K (a.put d (.slice (some ⟨w.heap.size, 0, none⟩) 1 1)) (w.alloc (.cells (a.eval x).cells 95)) := by
  obtain ⟨cs, hv, hs⟩ := h
  obtain ⟨i, i0, i1, i2, i3⟩ := info_of infoTb
  unfold Oper.wp execOp
  have hf : Instr.fill (fun k => some (k * i.size, i.size)) ((Array.range (1 * i.size)).map (zcTb[· % zcTb.size]!)) (#[(0, x)].map fun (k, y) => (k, a.eval y)).toList = some cs := by
    have := Great.fill_whole (s := 259) (by decide) [.agg cs] ((Array.range (1 * i.size)).map (zcTb[· % zcTb.size]!)) (fun v hv => by rw [List.mem_singleton.1 hv]; exact hs) (by rw [Array.size_map, Array.size_range, i2]; rfl)
    rw [i2] at this ⊢
    simp only [List.map_toArray, List.map_cons, List.map_nil, hv]
    simpa [Value.cells] using this
  simp only [Sem.run_bind, run_buildSlice w 45 95 1 _ cs i _ Try.underlying45 i0 i1 (by rw [i2]; decide) (by rw [i2]; decide) hf, Result.andThen_ok]
  rw [hv]
  rfl
/-- A table is appended to a row of tables, in a region that draws its order. -/
theorem appT {ops : Array Oper} {o : Oper} {a : Act} {W : World} {K : Act → World → Prop} {Q : Exit → Act → World → Prop} {E : Prop} (hgd : o.guard = none) (s x : Operand)
    (ho : o.op = .call { callee := .builtin .append, args := #[s, x], argTypes := #[45, 45] }) (B : Nat) (v : Value) (n : Nat) (xs : List Value) (hs : a.eval s = v) (hown : W.ownsRow B 95 259 v n xs) (g0 : Nat) (cs : Array Value)
    (hx : a.eval x = .slice (some ⟨g0, 0, none⟩) 1 1) (hc : W.heap[g0]? = some (.cells cs 95 (0, 0))) (hsz : cs.size = 259) (h1 : cs.all (·.oneCell') = true) (hlen : n ≤ 1000) (hB : B ≤ W.heap.size) (H : Nat) (hH : W.heap.size = H)
    (h : ∀ g cap w', w'.ownsRow B 95 259 (.slice (some ⟨g, 0, none⟩) (n + 1) cap) (n + 1) (xs ++ cs.toList) → W.grownBy w' v.ownBlock → (v.ownBlock = some g ∨ g = H) → g < w'.heap.size → K (a.put o.dst (.slice (some ⟨g, 0, none⟩) (n + 1) cap)) w') :
    if Region.wanted o (yielded ops a.tmps) = true then Oper.wp Try.prog o a W K Q else E := by
  obtain ⟨i, i0, i1, i2, i3⟩ := info_of infoTb
  refine step_append_lies W hgd s x 45 ho B 95 i (.agg zcTb) 259 2104 Try.underlying45 i0 i1 i2 i3 zcTb_size (by decide) v n xs hs hown ⟨g0, 0, none⟩ 1 1 cs.toList hx (by simp [hsz]) (World.news_of_block hc) (fun u hu => ?_) (by decide) (by unfold maxLen; omega) (by omega) hB H hH h
  rw [← Array.all_toList] at h1
  exact List.all_eq_true.1 h1 u hu

end Mc
end Go.Proofs.Ytlafngfoejngaaa
