/-
  veilkeep.plan.
-/
import Derived.Test.YtnkdbcicphnmiaaHi
namespace Go.Proofs.Ytnkdbcicphnmiaa
namespace Mc
open Go.RowKit

theorem planC_one (N k : Int) {A B : Array Value} (hA : A.all (·.oneCell') = true) (hB : B.all (·.oneCell') = true) : (planC N k A B).all (·.oneCell') = true := by
  unfold planC
  have h0 : (#[Value.int .i64 N, Value.int .i64 k]).all (·.oneCell') = true := by rw [List.all_toArray]; rfl
  rw [Array.all_append, Array.all_append, hA, hB, h0]; rfl
theorem bel_upA {w a b : World} (h : Below w.heap.size w a) (k : Below a.heap.size a b) (o : Obj) : Below w.heap.size w (b.alloc o) := (h.trans (k.mono h.size)).alloc (Nat.le_trans h.size k.size) o
def blk : Value → Nat
  | .pointer (some a) => a.block
  | _ => 0
def IsPl (v : Value) : Prop := ∃ cs, v = .agg cs ∧ cs.size = 550 ∧ cs.all (·.oneCell') = true
theorem wp_stP {x y : Operand} {ty : TypeId} {p : String} {af : Array Edge} {gd : Option (Nat × Bool)} {a : Act} {w : World} {K : Act → World → Prop} {Q : Exit → Act → World → Prop} (h : HasRw 48 550 w (a.eval x)) (h2 : IsPl (a.eval y)) :
    Oper.wp Try.prog { dst := none, op := .store 48 x y, type := ty, pos := p, after := af, guard := gd } a w K Q = K a (w.setRow (blk (a.eval x)) (a.eval y).cells) := by
  obtain ⟨old, g, hv, hg, hs⟩ := h
  obtain ⟨cs, hy, hs2, ho⟩ := h2
  unfold Oper.wp execOp
  simp only [hv, hy, Instr.storeAt, Instr.sureAddr, Sem.run_bind, Sem.run_pure, Result.andThen_ok, run_storeVar_row w g _ 48 old cs hg (by rw [hs2]; exact infoP) (by rw [hs, hs2]) ho]
  rfl
/-- The plan out of raw. -/
def planV (raw : ByteArray) (n k : Int) : Array Value := planC ((pickN n 17 : Nat) : Int) ((pickN k 10 : Nat) : Int) (kCells (kT raw 0)) (kCells (kT raw 5))

section
attribute [local go_sem ↓] Go.wp_at_zero Go.wp_at_succ zvK zvPl wp_ldK wp_bdP wp_stP
attribute [local go_sem] zcK_size zcK_ne aggcells zcPl_size zcPl_ne
set_option maxRecDepth 20000 in
set_option maxHeartbeats 4000000 in
theorem kplan_any (w : World) (raw : ByteArray) (n k : Int) (hr : raw.size ≤ 9223372036854775807) (n1 : -9223372036854775808 ≤ n) (n2 : n ≤ 9223372036854775807) (k1 : -9223372036854775808 ≤ k) (k2 : k ≤ 9223372036854775807) :
    Calls Try.prog 20 #[.string raw, .int .i64 n, .int .i64 k] w fun e w' => e = .returned (.agg (planV raw n k)) ∧ Below w.heap.size w w' := by
  have HT0 := hide (fun W => ktab_any W raw 0 hr (by decide))
  have HT5 := hide (fun W => ktab_any W raw 5 hr (by decide))
  have HPN : Hid (∀ W, Calls Try.prog 51 #[.int .i64 n, .int .i64 17] W fun e w' => e = .returned (.int .i64 ((pickN n 17 : Nat) : Int)) ∧ w' = W) := fun W => kpick_any W n 17 (by decide) (by decide) n1 n2
  have HPK : Hid (∀ W, Calls Try.prog 51 #[.int .i64 k, .int .i64 10] W fun e w' => e = .returned (.int .i64 ((pickN k 10 : Nat) : Int)) ∧ w' = W) := fun W => kpick_any W k 10 (by decide) (by decide) k1 k2
  have HR1 : Hid ((w.alloc (.cells zcPl 48)).heap[w.heap.size]? = some (.cells zcPl 48 (0, 0))) := heap_alloc_new _ _
  have HB1 : Hid (Below w.heap.size w (w.alloc (.cells zcPl 48))) := (Below.refl _ _).alloc (Nat.le_refl _) _
  have HEQ : Hid (planV raw n k = planC ((pickN n 17 : Nat) : Int) ((pickN k 10 : Nat) : Int) (kCells (kT raw 0)) (kCells (kT raw 5))) := rfl
  have HSA := hide (kCells_size (kT raw 0))
  have HSB := hide (kCells_size (kT raw 5))
  have HOA := hide (kCells_one (kT raw 0))
  have HOB := hide (kCells_one (kT raw 5))
  clear hr n1 n2 k1 k2
  generalize pickN n 17 = N at *
  generalize pickN k 10 = F at *
  generalize kCells (kT raw 0) = A at *
  generalize kCells (kT raw 5) = B at *
  go_enter Try.func20, Try.ntmps20
  go_wp2_with fail
  refine (unhide HT0 _).mono ?_
  rintro e w1 ⟨rfl, hb1⟩
  have HR2 : Hid ((w1.alloc (.cells A 46)).heap[w.heap.size]? = some (.cells zcPl 48 (0, 0))) := (Fr.ofAlloc _ _).at ((hb1.block _ (by simp)).trans (unhide HR1)) (by simp)
  have HB2 : Hid (Below w.heap.size w (w1.alloc (.cells A 46))) := (((unhide HB1).trans (hb1.mono (by simp)))).alloc (by have := hb1.size; simp at this; omega) _
  have HA2 : Hid ((w1.alloc (.cells A 46)).heap[w1.heap.size]? = some (.cells A 46 (0, 0))) := heap_alloc_new _ _
  have HSZ : Hid (w.heap.size < w1.heap.size) := by have := hb1.size; simp at this; show _ < _; omega
  clear hb1 HT0 HR1 HB1
  go_wp2_with (refine store_row rfl 46 _ _ rfl rfl w1.heap.size A rfl rfl 46 _ (heap_alloc_new _ _) (by rw [unhide HSA]; exact infoK) (by rw [zcK_size]; exact (unhide HSA).symm) (unhide HOA) ?_; rw [setRow_alloc1])
  generalize w1.alloc (.cells A 46) = w2 at *
  generalize w1.heap.size = ga at *
  refine (unhide HT5 _).mono ?_
  rintro e w3 ⟨rfl, hb3⟩
  have hlt2 : ga < w2.heap.size := (Array.getElem?_eq_some_iff.1 (unhide HA2)).1
  have HR4 : Hid ((w3.alloc (.cells B 46)).heap[w.heap.size]? = some (.cells zcPl 48 (0, 0))) := (Fr.ofAlloc _ _).at ((hb3.block _ (by have := unhide HSZ; omega)).trans (unhide HR2)) (by simp)
  have HB4 : Hid (Below w.heap.size w (w3.alloc (.cells B 46))) := bel_upA (unhide HB2) hb3 _
  have HA4 : Hid ((w3.alloc (.cells B 46)).heap[ga]? = some (.cells A 46 (0, 0))) := (Fr.ofAlloc _ _).at ((hb3.block _ hlt2).trans (unhide HA2)) (by simp)
  have HC4 : Hid ((w3.alloc (.cells B 46)).heap[w3.heap.size]? = some (.cells B 46 (0, 0))) := heap_alloc_new _ _
  clear hb3 HT5 HR2 HB2 HA2 hlt2 HSZ
  go_wp2_with (refine store_row rfl 46 _ _ rfl rfl w3.heap.size B rfl rfl 46 _ (heap_alloc_new _ _) (by rw [unhide HSB]; exact infoK) (by rw [zcK_size]; exact (unhide HSB).symm) (unhide HOB) ?_; rw [setRow_alloc1])
  generalize w3.alloc (.cells B 46) = w4 at *
  generalize w3.heap.size = gb at *
  have hIA : IsRw 46 274 w4.drew (.pointer (some ⟨ga, 0, none⟩)) A := ⟨ga, rfl, unhide HA4, unhide HSA⟩
  have hIB : IsRw 46 274 w4.drew (.pointer (some ⟨gb, 0, none⟩)) B := ⟨gb, rfl, unhide HC4, unhide HSB⟩
  have hIR : IsRw 48 550 w4.drew (.pointer (some ⟨w.heap.size, 0, none⟩)) zcPl := ⟨w.heap.size, rfl, unhide HR4, zcPl_size⟩
  have q1 := hIA.has
  have q2 := hIA.of
  have q3 := hIB.has
  have q4 := hIB.of
  have q5 : IsPv (.int .i64 (N : Int)) (.int .i64 (F : Int)) (.agg A) (.agg B) := ⟨_, _, _, _, rfl, rfl, rfl, rfl, unhide HSA, unhide HSB⟩
  have q6 := hIR.has
  have q7 : IsPl (.agg (planC (N : Int) (F : Int) A B)) := ⟨_, rfl, planC_size _ _ (unhide HSA) (unhide HSB), planC_one _ _ (unhide HOA) (unhide HOB)⟩
  have q8 : ∀ x : Int, intOf (.int .i64 x) = x := fun _ => rfl
  have q9 : blk (.pointer (some ⟨w.heap.size, 0, none⟩)) = w.heap.size := rfl
  clear hIA hIB hIR
  go_region_law (first
    | (go_simp; go_at_call_of 51 (Value.int .i64 n); refine (unhide HPN _).mono ?_; rintro e w' ⟨rfl, hww⟩; obtain rfl : w4.drew = w' := hww.symm; clear hww)
    | (go_simp; go_at_call_of 51 (Value.int .i64 k); refine (unhide HPK _).mono ?_; rintro e w' ⟨rfl, hww⟩; obtain rfl : w4.drew = w' := hww.symm; clear hww))
  all_goals
    go_wp2_with fail
    refine bodyPost_ret (results_cell_row (p := 6) (ty := 48) rfl _ _ w.heap.size 48 _ (0, 0) _ rfl (setRow_heap _ _ _ _ _ _ (show w4.drew.heap[w.heap.size]? = _ from unhide HR4)) Try.underlying48 rfl (by rw [planC_size _ _ (unhide HSA) (unhide HSB)]; exact infoP)) rfl ?_
    exact ⟨by rw [unhide HEQ], (Fr.ofRow _ w.heap.size _).belowOf (unhide HB4).drew (unhide HB4).size (Nat.le_refl _)⟩
end

end Mc
end Go.Proofs.Ytnkdbcicphnmiaa
