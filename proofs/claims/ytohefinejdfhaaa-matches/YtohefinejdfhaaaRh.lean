/-
  The document's answer: a node is put behind the others.
-/
import Derived.Test.YtohefinejdfhaaaRg
namespace Go.Proofs.Ytohefinejdfhaaa
open Go.RowKit

def rnCells (rs : List Rn) : List Value := rs.flatMap fun r => (rnA r).toList

/-- Block b of w is a tree with these nodes. -/
def RtS (w : World) (b : Nat) (rs : List Rn) : Prop :=
  ∃ v, w.heap[b]? = some (.cells #[v] 129 (0, 0)) ∧ w.ownsRow (b + 1) 132 261 v rs.length (rnCells rs)
def PostT (w w' : World) (b : Nat) (rs : List Rn) : Prop := Below b w w' ∧ RtS w' b rs

theorem infoN : (Try.prog.info? 132).map (fun i => (i.zero, i.size, i.bytes)) = some (some (.agg (rnA ⟨0, 0, 0, 0, 0, noSet⟩)), 261, 296) := by kernel_rfl

theorem load_nd (w : World) (r : Rn) :
    (Instr.loadAt 132 (.pointer (some ⟨w.heap.size, 0, none⟩))).run Try.prog (w.alloc (Obj.cells (rnA r) 132)).drew = .ok (.agg (rnA r)) (w.alloc (Obj.cells (rnA r) 132)).drew := by
  have := run_loadVar_row (P := Try.prog) (w.alloc (Obj.cells (rnA r) 132)).drew w.heap.size 132 132 (rnA r) (0, 0) _ (heap_alloc_new w _) Try.underlying132 rfl (by rw [size_rnA]; exact info78)
  simp only [Instr.loadAt, Instr.sureAddr, Sem.run_bind, Sem.run_pure, Result.andThen_ok]
  exact this
theorem build_nd (w : World) (r : Rn) :
    (Instr.buildSlice 127 1 #[(0, .agg (rnA r))]).run Try.prog w = .ok (.slice (some ⟨w.heap.size, 0, none⟩) 1 1) (w.alloc (Obj.cells (rnA r) 132)) := by
  obtain ⟨i, i0, i1, i2, i3⟩ := info_of infoN
  exact build_one w _ _ i _ (rnA r) Try.underlying127 i0 i1 (by rw [size_rnA, i2]) (by rw [i2]; decide) (by rw [i2]; decide)

theorem wp_load_nd (w : World) (r : Rn) (d : Option Tmp) (x : Operand) (ty : TypeId) (pos : String) (af : Array Edge) (gd : Option (Nat × Bool)) (a : Act) (K : Act → World → Prop) (Q : Exit → Act → World → Prop)
    (hx : a.eval x = .pointer (some ⟨w.heap.size, 0, none⟩)) :
    Oper.wp Try.prog { dst := d, op := .load 132 x, type := ty, pos := pos, after := af, guard := gd } a (w.alloc (Obj.cells (rnA r) 132)).drew K Q = K (a.put d (.agg (rnA r))) (w.alloc (Obj.cells (rnA r) 132)).drew := by
  unfold Oper.wp execOp
  simp only [hx, Sem.run_bind, Sem.run_pure, Result.andThen_ok, load_nd]
  rfl
theorem wp_build_nd (w : World) (r : Rn) (d : Option Tmp) (x : Operand) (ty : TypeId) (pos : String) (af : Array Edge) (gd : Option (Nat × Bool)) (a : Act) (K : Act → World → Prop) (Q : Exit → Act → World → Prop)
    (hx : a.eval x = .agg (rnA r)) :
    Oper.wp Try.prog { dst := d, op := .buildSlice 127 1 #[(0, x)], type := ty, pos := pos, after := af, guard := gd } a (w.alloc (Obj.cells (rnA r) 132)).drew K Q = K (a.put d (.slice (some ⟨w.heap.size + 1, 0, none⟩) 1 1)) (((w.alloc (Obj.cells (rnA r) 132)).alloc (Obj.cells (rnA r) 132)).drew) := by
  have hb := build_nd (w.alloc (Obj.cells (rnA r) 132)).drew r
  have hz : (w.alloc (Obj.cells (rnA r) 132)).drew.heap.size = w.heap.size + 1 := by simp
  rw [hz] at hb
  unfold Oper.wp execOp
  simp only [List.map_toArray, List.map_cons, List.map_nil, hx, Sem.run_bind, Sem.run_pure, Result.andThen_ok, hb]
  rfl

attribute [local go_sem ↓] wp_load_nd wp_build_nd

theorem zszN : (Value.agg (rnA ⟨0, 0, 0, 0, 0, noSet⟩)).cells.size = 261 := by rw [cells_agg, size_rnA]
theorem pos261 : 0 < 261 := by omega
theorem len_rnA (r : Rn) : (rnA r).toList.length = 1 * 261 := by rw [Array.length_toList, size_rnA]
theorem rnA_toList_one (r : Rn) : ∀ u ∈ (rnA r).toList, u.oneCell' = true := by
  intro u hu
  exact Array.all_eq_true_iff_forall_mem.1 (rnA_one r) u (by simpa using hu)
theorem rnCells_snoc (rs : List Rn) (r : Rn) : rnCells (rs ++ [r]) = rnCells rs ++ (rnA r).toList := by simp [rnCells]

theorem setNodesT {w : World} {b : Nat} {v v' : Value} (h : w.heap[b]? = some (.cells #[v] 129 (0, 0))) : (w.setCell ⟨b, 0, none⟩ v').heap[b]? = some (.cells #[v'] 129 (0, 0)) := by
  rw [heap_setCell_same w b 0 #[v] _ _ h]; rfl

theorem put_fin {w W w' : World} {b : Nat} {v v' : Value} {rs : List Rn} {r : Rn} (hb : b < w.heap.size) (hW : Below b w W)
    (h1 : W.heap[b]? = some (.cells #[v] 129 (0, 0))) (h2 : W.ownsRow (b + 1) 132 261 v rs.length (rnCells rs))
    (hg : W.grownBy w' v.ownBlock) (ho : w'.ownsRow (b + 1) 132 261 v' (rs.length + 1) (rnCells rs ++ (rnA r).toList)) :
    PostT w (w'.setCell ⟨b, 0, none⟩ v') b (rs ++ [r]) := by
  have hsz := hW.size
  refine ⟨(hW.trans (below_grown hg (by omega) (fun k hk => by have := (h2.lt k hk).1; omega))).setCell (Nat.le_refl _) _, v', ?_, ?_⟩
  · apply setNodesT (v := v)
    rw [hg.block b (by omega) (own_ne h2)]; exact h1
  · refine ownsRow_setCell_below ?_ (by simp) _
    rw [rnCells_snoc]
    simpa using ho

set_option maxHeartbeats 1000000 in
theorem put_any (w : World) (b : Nat) (rs : List Rn) (r : Rn) (h : RtS w b rs) (hn : rs.length ≤ 1000) :
    Calls Try.prog 111 #[.pointer (some ⟨b, 0, none⟩), .agg (rnA r)] w fun e w' =>
      e = .returned (.int .i64 (rs.length : Int)) ∧ PostT w w' b (rs ++ [r]) := by
  obtain ⟨v, h1, h2⟩ := h
  have c0 : w.cell? ⟨b, 0, none⟩ = some v := by rw [cell_of_row _ _ _ _ _ _ h1]; rfl
  have f0 : w.frozen? ⟨b, 0, none⟩ = false := frozen_of_row _ _ _ _ _ h1
  obtain ⟨i, i0, i1, i2, i3⟩ := info_of infoN
  have hbl : b < w.heap.size := (Array.getElem?_eq_some_iff.1 h1).1
  have H2 := hide ((h2.alloc (Obj.cells (rnA r) 132)).alloc (Obj.cells (rnA r) 132))
  have HC : Hid (∀ j u, (rnA r).toList[j]? = some u → ((w.alloc (Obj.cells (rnA r) 132)).alloc (Obj.cells (rnA r) 132)).cell? ((⟨w.heap.size + 1, 0, none⟩ : Addr).add j) = some u) := by
    have := cells_new (w.alloc (Obj.cells (rnA r) 132)) (rnA r).toList 132
    simp only [Array.toArray_toList, World.size_alloc] at this
    exact this
  have hH1 : ((w.alloc (Obj.cells (rnA r) 132)).alloc (Obj.cells (rnA r) 132)).heap[b]? = some (.cells #[v] 129 (0, 0)) := by
    rw [Below.heap_alloc _ _ _ (by simp; omega), Below.heap_alloc _ _ _ hbl]; exact h1
  have H1 := hide hH1
  have HI := hide (And.intro i0 (And.intro i1 (And.intro i2 i3)))
  have HN := hide hn
  have HO := hide (own_ne h2)
  have hL : (rs.length : Int) ≤ 1000 := by omega
  clear i0 i1 i2 i3 h1 h2 hn hH1
  go_enter Try.func111, Try.ntmps111
  go_wp2
  go_region_law (refine step_append_own rfl (.tmp 9) (.tmp 11) 127 rfl (b + 1) 132 i (.agg (rnA ⟨0, 0, 0, 0, 0, noSet⟩)) 261 296 Try.underlying127 (unhide HI).1 (unhide HI).2.1 (unhide HI).2.2.1 (unhide HI).2.2.2 zszN pos261 v rs.length (rnCells rs) (by simp [Act.eval]) (by exact unhide H2) ⟨w.heap.size + 1, 0, none⟩ 1 1 (rnA r).toList (by simp [Act.eval]) (len_rnA r) (by exact unhide HC) (rnA_toList_one r) (by have := unhide HN; unfold maxLen; omega) (by have := unhide HN; omega) (by simp; omega) ?_; intro v' w' ho hg'; have hr' := (hg'.block b (by simp; omega) (unhide HO)).trans (by exact unhide H1); have d0 : w'.cell? ⟨b, 0, none⟩ = some v := (by rw [cell_of_row _ _ _ _ _ _ hr']; rfl); have g0 : w'.frozen? ⟨b, 0, none⟩ = false := frozen_of_row _ _ _ _ _ hr'; obtain ⟨g, cap, hv⟩ := own_form ho; subst hv; have HG := hide hg'; have HO' := hide ho; clear hg' ho hr')
  all_goals
    go_wp2
    go_ret
    exact ⟨rfl, put_fin hbl (by exact (((Below.refl b w).alloc (by omega) _).alloc (by simp; omega) _).drew) (by exact unhide H1) (by exact unhide H2) (unhide HG) (unhide HO')⟩

end Go.Proofs.Ytohefinejdfhaaa
