/-
  veilkeep.plan: what the walk wants.
-/
import Derived.Test.YtnkdbcicphnmiaaT14
import Derived.Great.FillDense
namespace Go.Proofs.Ytnkdbcicphnmiaa
namespace Mc
open Go.RowKit

/-- The cells of a plan. -/
def planC (N k : Int) (A B : Array Value) : Array Value := #[.int .i64 N, .int .i64 k] ++ A ++ B
theorem planC_size (N k : Int) {A B : Array Value} (hA : A.size = 274) (hB : B.size = 274) : (planC N k A B).size = 550 := by unfold planC; simp [hA, hB]
def zcPl : Array Value := planC 0 0 zcK zcK
theorem zcPl_size : zcPl.size = 550 := planC_size _ _ zcK_size zcK_size
theorem zcPl_ne : zcPl ≠ #[] := fun e => by have := zcPl_size; rw [e] at this; simp at this
theorem zvPl (w : World) : (zeroValue 48).run Try.prog w = .ok (.agg zcPl) w := by kernel_rfl
theorem infoP : (Try.prog.info? 48).map (·.size) = some 550 := by kernel_rfl
theorem built_eq (parts : List (Nat × Value)) : Try.prog.built 48 parts = Instr.fill (fun i => (#[(0, 1), (1, 1), (2, 274), (276, 274)] : Array (Nat × Nat))[i]?) zcPl parts := by kernel_rfl
/-- A part goes in. -/
theorem fill_put {place : Nat → Option (Nat × Nat)} {cells : Array Value} {i off size : Nat} {v : Value} {rest : List (Nat × Value)} (hp : place i = some (off, size)) (hs : v.cells.size = size) (hf : off + size ≤ cells.size) :
    ∃ r : Array Value, Instr.fill place cells ((i, v) :: rest) = Instr.fill place r rest ∧ r.size = cells.size ∧ ∀ k, r[k]? = if off ≤ k ∧ k < off + size then v.cells[k - off]? else cells[k]? := by
  obtain ⟨g1, g2⟩ := Great.foldl_set off v.cells.toList 0 cells
  refine ⟨(v.cells.toList.zipIdx 0).foldl (fun cs (x : Value × Nat) => cs.setIfInBounds (off + x.2) x.1) cells, ?_, g1, fun k => ?_⟩
  · rw [Instr.fill, hp]
    simp only [hs]
    rw [if_neg (by simp; omega)]
    congr 1
    rw [← Array.foldl_toList, Array.toList_zipIdx]
  · rw [g2 k, Array.length_toList, hs, Nat.add_zero]
    by_cases h : off ≤ k ∧ k < off + size
    · rw [if_pos h, if_pos ⟨h.1, h.2, by omega⟩, Array.getElem?_toList]
    · rw [if_neg h, if_neg (fun h2 => h ⟨h2.1, h2.2.1⟩)]
theorem built_plan (N k : Int) {A B : Array Value} (hA : A.size = 274) (hB : B.size = 274) : Try.prog.built 48 [(0, .int .i64 N), (1, .int .i64 k), (2, .agg A), (3, .agg B)] = some (planC N k A B) := by
  rw [built_eq]
  obtain ⟨r0, e0, s0, g0⟩ := fill_put (place := fun i => (#[(0, 1), (1, 1), (2, 274), (276, 274)] : Array (Nat × Nat))[i]?) (cells := zcPl) (i := 0) (off := 0) (size := 1) (v := .int .i64 N) (rest := [(1, .int .i64 k), (2, .agg A), (3, .agg B)]) rfl rfl (by rw [zcPl_size]; decide)
  obtain ⟨r1, e1, s1, g1⟩ := fill_put (place := fun i => (#[(0, 1), (1, 1), (2, 274), (276, 274)] : Array (Nat × Nat))[i]?) (cells := r0) (i := 1) (off := 1) (size := 1) (v := .int .i64 k) (rest := [(2, .agg A), (3, .agg B)]) rfl rfl (by rw [s0, zcPl_size]; decide)
  obtain ⟨r2, e2, s2, g2⟩ := fill_put (place := fun i => (#[(0, 1), (1, 1), (2, 274), (276, 274)] : Array (Nat × Nat))[i]?) (cells := r1) (i := 2) (off := 2) (size := 274) (v := .agg A) (rest := [(3, .agg B)]) rfl hA (by rw [s1, s0, zcPl_size]; decide)
  obtain ⟨r3, e3, s3, g3⟩ := fill_put (place := fun i => (#[(0, 1), (1, 1), (2, 274), (276, 274)] : Array (Nat × Nat))[i]?) (cells := r2) (i := 3) (off := 276) (size := 274) (v := .agg B) (rest := []) rfl hB (by rw [s2, s1, s0, zcPl_size]; decide)
  rw [e0, e1, e2, e3]
  refine congrArg some ?_
  apply Array.ext_getElem?
  intro j
  unfold planC
  rw [g3 j]
  by_cases h3 : 276 ≤ j ∧ j < 276 + 274
  · rw [if_pos h3, Array.getElem?_append_right (by simp [hA]; omega)]
    simp only [Array.size_append, hA]
    rfl
  · rw [if_neg h3, g2 j]
    by_cases h2 : 2 ≤ j ∧ j < 2 + 274
    · rw [if_pos h2, Array.getElem?_append_left (by simp [hA]; omega), Array.getElem?_append_right (by simp; omega)]
      rfl
    · rw [if_neg h2, g1 j]
      by_cases h1 : 1 ≤ j ∧ j < 1 + 1
      · have : j = 1 := by omega
        subst this
        rw [if_pos h1, Array.getElem?_append_left (by simp [hA]), Array.getElem?_append_left (by simp)]
        rfl
      · rw [if_neg h1, g0 j]
        by_cases h0 : 0 ≤ j ∧ j < 0 + 1
        · have : j = 0 := by omega
          subst this
          rw [if_pos h0, Array.getElem?_append_left (by simp [hA]), Array.getElem?_append_left (by simp)]
          rfl
        · rw [if_neg h0, Array.getElem?_eq_none (by rw [zcPl_size]; omega), Array.getElem?_eq_none (by simp [hA, hB]; omega)]

/-- There is a row of cells of this type at a pointer. -/
def IsRw (T n : Nat) (w : World) (v : Value) (cs : Array Value) : Prop := ∃ g, v = .pointer (some ⟨g, 0, none⟩) ∧ w.heap[g]? = some (.cells cs T (0, 0)) ∧ cs.size = n
def HasRw (T n : Nat) (w : World) (v : Value) : Prop := ∃ cs, IsRw T n w v cs
/-- The cells of the block that a pointer leads to. -/
def rwOf (_T _n : Nat) (w : World) (v : Value) : Array Value := match v with
  | .pointer (some a) => match w.heap[a.block]? with
    | some (.cells cs _ _) => cs
    | _ => #[]
  | _ => #[]
theorem IsRw.has {T n : Nat} {w : World} {v : Value} {cs : Array Value} (h : IsRw T n w v cs) : HasRw T n w v := ⟨cs, h⟩
theorem IsRw.of {T n : Nat} {w : World} {v : Value} {cs : Array Value} (h : IsRw T n w v cs) : rwOf T n w v = cs := by
  obtain ⟨g, rfl, h1, -⟩ := h
  simp only [rwOf, h1]
theorem wp_ldK {d : Option Tmp} {x : Operand} {ty : TypeId} {p : String} {af : Array Edge} {gd : Option (Nat × Bool)} {a : Act} {w : World} {K : Act → World → Prop} {Q : Exit → Act → World → Prop} (h : HasRw 46 274 w (a.eval x)) :
    Oper.wp Try.prog { dst := d, op := .load 46 x, type := ty, pos := p, after := af, guard := gd } a w K Q = K (a.put d (.agg (rwOf 46 274 w (a.eval x)))) w := by
  obtain ⟨cs, hcs⟩ := h
  rw [hcs.of]
  obtain ⟨g, hv, hg, hs⟩ := hcs
  unfold Oper.wp execOp
  simp only [hv, Instr.loadAt, Instr.sureAddr, Sem.run_bind, Sem.run_pure, Result.andThen_ok, run_loadVar_row w g _ _ cs _ _ hg Try.underlying46 rfl (by rw [hs]; exact infoK)]
  rfl
/-- Values out of which a plan is built. -/
def IsPv (v0 v1 v2 v3 : Value) : Prop := ∃ (N k : Int) (A B : Array Value), v0 = .int .i64 N ∧ v1 = .int .i64 k ∧ v2 = .agg A ∧ v3 = .agg B ∧ A.size = 274 ∧ B.size = 274
theorem wp_bdP {d : Option Tmp} {x0 x1 x2 x3 : Operand} {ty : TypeId} {p : String} {af : Array Edge} {gd : Option (Nat × Bool)} {a : Act} {w : World} {K : Act → World → Prop} {Q : Exit → Act → World → Prop} (h : IsPv (a.eval x0) (a.eval x1) (a.eval x2) (a.eval x3)) :
    Oper.wp Try.prog { dst := d, op := .build 48 #[(0, x0), (1, x1), (2, x2), (3, x3)], type := ty, pos := p, after := af, guard := gd } a w K Q = K (a.put d (.agg (planC (intOf (a.eval x0)) (intOf (a.eval x1)) (a.eval x2).cells (a.eval x3).cells))) w := by
  obtain ⟨N, k, A, B, e0, e1, e2, e3, hA, hB⟩ := h
  unfold Oper.wp execOp
  have hb := built_plan N k hA hB
  have hb' : Try.prog.built 48 ((#[(0, x0), (1, x1), (2, x2), (3, x3)] : Array (Nat × Operand)).map fun (i, x) => (i, a.eval x)).toList = some (planC N k A B) := by
    rw [← hb]
    simp [e0, e1, e2, e3]
  simp only [Sem.run_bind, run_build w 48 _ _ hb', Result.andThen_ok]
  rw [e0, e1, e2, e3]
  rfl

end Mc
end Go.Proofs.Ytnkdbcicphnmiaa
