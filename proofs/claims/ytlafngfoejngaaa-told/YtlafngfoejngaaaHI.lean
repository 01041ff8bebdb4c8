/-
  veilkeep.plan: what the walk wants.
  veilkeep.plan.
-/
import Derived.Test.YtlafngfoejngaaaHF
import Derived.Great.FillDense
namespace Go.Proofs.Ytlafngfoejngaaa
namespace Mc
open Go.RowKit

/-- The cells of a plan. -/
def planC (N k : Int) (A B : Array Value) : Array Value := #[.int .i64 N, .int .i64 k] ++ A ++ B
theorem planC_size (N k : Int) {A B : Array Value} (hA : A.size = 274) (hB : B.size = 274) : (planC N k A B).size = 550 := by unfold planC; simp [hA, hB]
def zcPl : Array Value := planC 0 0 zcK zcK
theorem zcPl_size : zcPl.size = 550 := planC_size _ _ zcK_size zcK_size
theorem zcPl_ne : zcPl ≠ #[] := fun e => by have := zcPl_size; rw [e] at this; simp at this
theorem zvPl (w : World) : (zeroValue 39).run Try.prog w = .ok (.agg zcPl) w := by kernel_rfl
theorem infoP : (Try.prog.info? 39).map (·.size) = some 550 := by kernel_rfl
theorem built_eq (parts : List (Nat × Value)) : Try.prog.built 39 parts = Instr.fill (fun i => (#[(0, 1), (1, 1), (2, 274), (276, 274)] : Array (Nat × Nat))[i]?) zcPl parts := by kernel_rfl
/-- A part goes in. -/
theorem fill_put {place : Nat → Option (Nat × Nat)} {cells : Array Value} {i off size : Nat} {v : Value} {rest : List (Nat × Value)} (hp : place i = some (off, size)) (hs : v.cells.size = size) (hf : off + size ≤ cells.size) :
    ∃ r : Array Value, Instr.fill place cells ((i, v) :: rest) = Instr.fill place r rest ∧ r.size = cells.size ∧ ∀ k, r[k]? = if off ≤ k ∧ k < off + size then v.cells[k - off]? else cells[k]? := by
  obtain ⟨g1, g2⟩ := Great.foldl_set off v.cells.toList 0 cells
  refine ⟨(v.cells.toList.zipIdx 0).foldl (fun cs (x : Value × Nat) => cs.setIfInBounds (off + x.2) x.1) cells, ?_, g1, fun k => ?_⟩
  · rw [Instr.fill, hp]
    simp only [hs]
    rw [if_neg (by simp; omega)]
    congr 1
    rw [← Array.foldl_toList, Array.toList_zipIdx]
  · rw [g2 k, Array.length_toList, hs, Nat.add_zero]
    by_cases h : off ≤ k ∧ k < off + size
    · rw [if_pos h, if_pos ⟨h.1, h.2, by omega⟩, Array.getElem?_toList]
    · rw [if_neg h, if_neg (fun h2 => h ⟨h2.1, h2.2.1⟩)]
theorem built_plan (N k : Int) {A B : Array Value} (hA : A.size = 274) (hB : B.size = 274) : Try.prog.built 39 [(0, .int .i64 N), (1, .int .i64 k), (2, .agg A), (3, .agg B)] = some (planC N k A B) := by
  rw [built_eq]
  obtain ⟨r0, e0, s0, g0⟩ := fill_put (place := fun i => (#[(0, 1), (1, 1), (2, 274), (276, 274)] : Array (Nat × Nat))[i]?) (cells := zcPl) (i := 0) (off := 0) (size := 1) (v := .int .i64 N) (rest := [(1, .int .i64 k), (2, .agg A), (3, .agg B)]) rfl rfl (by rw [zcPl_size]; decide)
  obtain ⟨r1, e1, s1, g1⟩ := fill_put (place := fun i => (#[(0, 1), (1, 1), (2, 274), (276, 274)] : Array (Nat × Nat))[i]?) (cells := r0) (i := 1) (off := 1) (size := 1) (v := .int .i64 k) (rest := [(2, .agg A), (3, .agg B)]) rfl rfl (by rw [s0, zcPl_size]; decide)
  obtain ⟨r2, e2, s2, g2⟩ := fill_put (place := fun i => (#[(0, 1), (1, 1), (2, 274), (276, 274)] : Array (Nat × Nat))[i]?) (cells := r1) (i := 2) (off := 2) (size := 274) (v := .agg A) (rest := [(3, .agg B)]) rfl hA (by rw [s1, s0, zcPl_size]; decide)
  obtain ⟨r3, e3, s3, g3⟩ := fill_put (place := fun i => (#[(0, 1), (1, 1), (2, 274), (276, 274)] : Array (Nat × Nat))[i]?) (cells := r2) (i := 3) (off := 276) (size := 274) (v := .agg B) (rest := []) rfl hB (by rw [s2, s1, s0, zcPl_size]; decide)
  rw [e0, e1, e2, e3]
  refine congrArg some ?_
  apply Array.ext_getElem?
  intro j
  unfold planC
  rw [g3 j]
  by_cases h3 : 276 ≤ j ∧ j < 276 + 274
  · rw [if_pos h3, Array.getElem?_append_right (by simp [hA]; omega)]
    simp only [Array.size_append, hA]
    rfl
  · rw [if_neg h3, g2 j]
    by_cases h2 : 2 ≤ j ∧ j < 2 + 274
    · rw [if_pos h2, Array.getElem?_append_left (by simp [hA]; omega), Array.getElem?_append_right (by simp; omega)]
      rfl
    · rw [if_neg h2, g1 j]
      by_cases h1 : 1 ≤ j ∧ j < 1 + 1
      · have : j = 1 := by omega
        subst this
        rw [if_pos h1, Array.getElem?_append_left (by simp [hA]), Array.getElem?_append_left (by simp)]
        rfl
      · rw [if_neg h1, g0 j]
        by_cases h0 : 0 ≤ j ∧ j < 0 + 1
        · have : j = 0 := by omega
          subst this
          rw [if_pos h0, Array.getElem?_append_left (by simp [hA]), Array.getElem?_append_left (by simp)]
          rfl
        · rw [if_neg h0, Array.getElem?_eq_none (by rw [zcPl_size]; omega), Array.getElem?_eq_none (by simp [hA, hB]; omega)]

/-- There is a row of cells of this type at a pointer. -/
def IsRw (T n : Nat) (w : World) (v : Value) (cs : Array Value) : Prop := ∃ g, v = .pointer (some ⟨g, 0, none⟩) ∧ w.heap[g]? = some (.cells cs T (0, 0)) ∧ cs.size = n
def HasRw (T n : Nat) (w : World) (v : Value) : Prop := ∃ cs, IsRw T n w v cs
open Classical in
noncomputable def rwOf (T n : Nat) (w : World) (v : Value) : Array Value := if h : HasRw T n w v then h.choose else #[]
theorem IsRw.has {T n : Nat} {w : World} {v : Value} {cs : Array Value} (h : IsRw T n w v cs) : HasRw T n w v := ⟨cs, h⟩
theorem IsRw.of {T n : Nat} {w : World} {v : Value} {cs : Array Value} (h : IsRw T n w v cs) : rwOf T n w v = cs := by
  have hh : HasRw T n w v := ⟨cs, h⟩
  unfold rwOf
  rw [dif_pos hh]
  obtain ⟨g, e, h1, -⟩ := hh.choose_spec
  obtain ⟨g', e', h2, -⟩ := h
  rw [e] at e'
  cases e'
  rw [h1] at h2
  simpa using h2
theorem wp_ldK {d : Option Tmp} {x : Operand} {ty : TypeId} {p : String} {af : Array Edge} {gd : Option (Nat × Bool)} {a : Act} {w : World} {K : Act → World → Prop} {Q : Exit → Act → World → Prop} (h : HasRw 37 274 w (a.eval x)) :
    Oper.wp Try.prog { dst := d, op := .load 37 x, type := ty, pos := p, after := af, guard := gd } a w K Q = K (a.put d (.agg (rwOf 37 274 w (a.eval x)))) w := by
  obtain ⟨cs, hcs⟩ := h
  rw [hcs.of]
  obtain ⟨g, hv, hg, hs⟩ := hcs
  unfold Oper.wp execOp
  simp only [hv, Instr.loadAt, Instr.sureAddr, Sem.run_bind, Sem.run_pure, Result.andThen_ok, run_loadVar_row w g _ _ cs _ _ hg Try.underlying37 rfl (by rw [hs]; exact infoK)]
  rfl
/-- Values out of which a plan is built. -/
def IsPv (v0 v1 v2 v3 : Value) : Prop := ∃ (N k : Int) (A B : Array Value), v0 = .int .i64 N ∧ v1 = .int .i64 k ∧ v2 = .agg A ∧ v3 = .agg B ∧ A.size = 274 ∧ B.size = 274
theorem wp_bdP {d : Option Tmp} {x0 x1 x2 x3 : Operand} {ty : TypeId} {p : String} {af : Array Edge} {gd : Option (Nat × Bool)} {a : Act} {w : World} {K : Act → World → Prop} {Q : Exit → Act → World → Prop} (h : IsPv (a.eval x0) (a.eval x1) (a.eval x2) (a.eval x3)) :
    Oper.wp Try.prog { dst := d, op := .build 39 #[(0, x0), (1, x1), (2, x2), (3, x3)], type := ty, pos := p, after := af, guard := gd } a w K Q = K (a.put d (.agg (planC (intOf (a.eval x0)) (intOf (a.eval x1)) (a.eval x2).cells (a.eval x3).cells))) w := by
  obtain ⟨N, k, A, B, e0, e1, e2, e3, hA, hB⟩ := h
  unfold Oper.wp execOp
  have hb := built_plan N k hA hB
  have hb' : Try.prog.built 39 ((#[(0, x0), (1, x1), (2, x2), (3, x3)] : Array (Nat × Operand)).map fun (i, x) => (i, a.eval x)).toList = some (planC N k A B) := by
    rw [← hb]
    simp [e0, e1, e2, e3]
  simp only [Sem.run_bind, run_build w 39 _ _ hb', Result.andThen_ok]
  rw [e0, e1, e2, e3]
  rfl

end Mc
end Go.Proofs.Ytlafngfoejngaaa
namespace Go.Proofs.Ytlafngfoejngaaa
namespace Mc
open Go.RowKit

theorem planC_one (N k : Int) {A B : Array Value} (hA : A.all (·.oneCell') = true) (hB : B.all (·.oneCell') = true) : (planC N k A B).all (·.oneCell') = true := by
  unfold planC
  have h0 : (#[Value.int .i64 N, Value.int .i64 k]).all (·.oneCell') = true := by rw [List.all_toArray]; rfl
  rw [Array.all_append, Array.all_append, hA, hB, h0]; rfl
theorem bel_upA {w a b : World} (h : Below w.heap.size w a) (k : Below a.heap.size a b) (o : Obj) : Below w.heap.size w (b.alloc o) := (h.trans (k.mono h.size)).alloc (Nat.le_trans h.size k.size) o
def blk : Value → Nat
  | .pointer (some a) => a.block
  | _ => 0
def IsPl (v : Value) : Prop := ∃ cs, v = .agg cs ∧ cs.size = 550 ∧ cs.all (·.oneCell') = true
theorem wp_stP {x y : Operand} {ty : TypeId} {p : String} {af : Array Edge} {gd : Option (Nat × Bool)} {a : Act} {w : World} {K : Act → World → Prop} {Q : Exit → Act → World → Prop} (h : HasRw 39 550 w (a.eval x)) (h2 : IsPl (a.eval y)) :
    Oper.wp Try.prog { dst := none, op := .store 39 x y, type := ty, pos := p, after := af, guard := gd } a w K Q = K a (w.setRow (blk (a.eval x)) (a.eval y).cells) := by
  obtain ⟨old, g, hv, hg, hs⟩ := h
  obtain ⟨cs, hy, hs2, ho⟩ := h2
  unfold Oper.wp execOp
  simp only [hv, hy, Instr.storeAt, Instr.sureAddr, Sem.run_bind, Sem.run_pure, Result.andThen_ok, run_storeVar_row w g _ 39 old cs hg (by rw [hs2]; exact infoP) (by rw [hs, hs2]) ho]
  rfl
/-- The plan out of raw. -/
def planV (raw : ByteArray) (n k : Int) : Array Value := planC ((pickN n 17 : Nat) : Int) ((pickN k 10 : Nat) : Int) (kCells (kT raw 0)) (kCells (kT raw 5))

section
attribute [local go_sem ↓] Go.wp_at_zero Go.wp_at_succ zvK zvPl wp_ldK wp_bdP wp_stP
attribute [local go_sem] zcK_size zcK_ne aggcells zcPl_size zcPl_ne
set_option maxRecDepth 20000 in
set_option maxHeartbeats 4000000 in
theorem kplan_any (w : World) (raw : ByteArray) (n k : Int) (hr : raw.size ≤ 9223372036854775807) (n1 : -9223372036854775808 ≤ n) (n2 : n ≤ 9223372036854775807) (k1 : -9223372036854775808 ≤ k) (k2 : k ≤ 9223372036854775807) :
    Calls Try.prog 12 #[.string raw, .int .i64 n, .int .i64 k] w fun e w' => e = .returned (.agg (planV raw n k)) ∧ Below w.heap.size w w' := by
  have HT0 := hide (fun W => ktab_any W raw 0 hr (by decide))
  have HT5 := hide (fun W => ktab_any W raw 5 hr (by decide))
  have HPN : Hid (∀ W, Calls Try.prog 25 #[.int .i64 n, .int .i64 17] W fun e w' => e = .returned (.int .i64 ((pickN n 17 : Nat) : Int)) ∧ w' = W) := fun W => kpick_any W n 17 (by decide) (by decide) n1 n2
  have HPK : Hid (∀ W, Calls Try.prog 25 #[.int .i64 k, .int .i64 10] W fun e w' => e = .returned (.int .i64 ((pickN k 10 : Nat) : Int)) ∧ w' = W) := fun W => kpick_any W k 10 (by decide) (by decide) k1 k2
  have HR1 : Hid ((w.alloc (.cells zcPl 39)).heap[w.heap.size]? = some (.cells zcPl 39 (0, 0))) := heap_alloc_new _ _
  have HB1 : Hid (Below w.heap.size w (w.alloc (.cells zcPl 39))) := (Below.refl _ _).alloc (Nat.le_refl _) _
  have HEQ : Hid (planV raw n k = planC ((pickN n 17 : Nat) : Int) ((pickN k 10 : Nat) : Int) (kCells (kT raw 0)) (kCells (kT raw 5))) := rfl
  have HSA := hide (kCells_size (kT raw 0))
  have HSB := hide (kCells_size (kT raw 5))
  have HOA := hide (kCells_one (kT raw 0))
  have HOB := hide (kCells_one (kT raw 5))
  clear hr n1 n2 k1 k2
  generalize pickN n 17 = N at *
  generalize pickN k 10 = F at *
  generalize kCells (kT raw 0) = A at *
  generalize kCells (kT raw 5) = B at *
  go_enter Try.func12, Try.ntmps12
  go_wp2_with fail
  refine (unhide HT0 _).mono ?_
  rintro e w1 ⟨rfl, hb1⟩
  have HR2 : Hid ((w1.alloc (.cells A 37)).heap[w.heap.size]? = some (.cells zcPl 39 (0, 0))) := (Fr.ofAlloc _ _).at ((hb1.block _ (by simp)).trans (unhide HR1)) (by simp)
  have HB2 : Hid (Below w.heap.size w (w1.alloc (.cells A 37))) := (((unhide HB1).trans (hb1.mono (by simp)))).alloc (by have := hb1.size; simp at this; omega) _
  have HA2 : Hid ((w1.alloc (.cells A 37)).heap[w1.heap.size]? = some (.cells A 37 (0, 0))) := heap_alloc_new _ _
  have HSZ : Hid (w.heap.size < w1.heap.size) := by have := hb1.size; simp at this; show _ < _; omega
  clear hb1 HT0 HR1 HB1
  go_wp2_with (refine store_row rfl 37 _ _ rfl rfl w1.heap.size A rfl rfl 37 _ (heap_alloc_new _ _) (by rw [unhide HSA]; exact infoK) (by rw [zcK_size]; exact (unhide HSA).symm) (unhide HOA) ?_; rw [setRow_alloc1])
  generalize w1.alloc (.cells A 37) = w2 at *
  generalize w1.heap.size = ga at *
  refine (unhide HT5 _).mono ?_
  rintro e w3 ⟨rfl, hb3⟩
  have hlt2 : ga < w2.heap.size := (Array.getElem?_eq_some_iff.1 (unhide HA2)).1
  have HR4 : Hid ((w3.alloc (.cells B 37)).heap[w.heap.size]? = some (.cells zcPl 39 (0, 0))) := (Fr.ofAlloc _ _).at ((hb3.block _ (by have := unhide HSZ; omega)).trans (unhide HR2)) (by simp)
  have HB4 : Hid (Below w.heap.size w (w3.alloc (.cells B 37))) := bel_upA (unhide HB2) hb3 _
  have HA4 : Hid ((w3.alloc (.cells B 37)).heap[ga]? = some (.cells A 37 (0, 0))) := (Fr.ofAlloc _ _).at ((hb3.block _ hlt2).trans (unhide HA2)) (by simp)
  have HC4 : Hid ((w3.alloc (.cells B 37)).heap[w3.heap.size]? = some (.cells B 37 (0, 0))) := heap_alloc_new _ _
  clear hb3 HT5 HR2 HB2 HA2 hlt2 HSZ
  go_wp2_with (refine store_row rfl 37 _ _ rfl rfl w3.heap.size B rfl rfl 37 _ (heap_alloc_new _ _) (by rw [unhide HSB]; exact infoK) (by rw [zcK_size]; exact (unhide HSB).symm) (unhide HOB) ?_; rw [setRow_alloc1])
  generalize w3.alloc (.cells B 37) = w4 at *
  generalize w3.heap.size = gb at *
  have hIA : IsRw 37 274 w4.drew (.pointer (some ⟨ga, 0, none⟩)) A := ⟨ga, rfl, unhide HA4, unhide HSA⟩
  have hIB : IsRw 37 274 w4.drew (.pointer (some ⟨gb, 0, none⟩)) B := ⟨gb, rfl, unhide HC4, unhide HSB⟩
  have hIR : IsRw 39 550 w4.drew (.pointer (some ⟨w.heap.size, 0, none⟩)) zcPl := ⟨w.heap.size, rfl, unhide HR4, zcPl_size⟩
  have q1 := hIA.has
  have q2 := hIA.of
  have q3 := hIB.has
  have q4 := hIB.of
  have q5 : IsPv (.int .i64 (N : Int)) (.int .i64 (F : Int)) (.agg A) (.agg B) := ⟨_, _, _, _, rfl, rfl, rfl, rfl, unhide HSA, unhide HSB⟩
  have q6 := hIR.has
  have q7 : IsPl (.agg (planC (N : Int) (F : Int) A B)) := ⟨_, rfl, planC_size _ _ (unhide HSA) (unhide HSB), planC_one _ _ (unhide HOA) (unhide HOB)⟩
  have q8 : ∀ x : Int, intOf (.int .i64 x) = x := fun _ => rfl
  have q9 : blk (.pointer (some ⟨w.heap.size, 0, none⟩)) = w.heap.size := rfl
  clear hIA hIB hIR
  go_region_law (first
    | (go_simp; go_at_call_of 25 (Value.int .i64 n); refine (unhide HPN _).mono ?_; rintro e w' ⟨rfl, hww⟩; obtain rfl : w4.drew = w' := hww.symm; clear hww)
    | (go_simp; go_at_call_of 25 (Value.int .i64 k); refine (unhide HPK _).mono ?_; rintro e w' ⟨rfl, hww⟩; obtain rfl : w4.drew = w' := hww.symm; clear hww))
  all_goals
    go_wp2_with fail
    refine bodyPost_ret (results_cell_row (p := 6) (ty := 39) rfl _ _ w.heap.size 39 _ (0, 0) _ rfl (setRow_heap _ _ _ _ _ _ (show w4.drew.heap[w.heap.size]? = _ from unhide HR4)) Try.underlying39 rfl (by rw [planC_size _ _ (unhide HSA) (unhide HSB)]; exact infoP)) rfl ?_
    exact ⟨by rw [unhide HEQ], (Fr.ofRow _ w.heap.size _).belowOf (unhide HB4).drew (unhide HB4).size (Nat.le_refl _)⟩
end

end Mc
end Go.Proofs.Ytlafngfoejngaaa
