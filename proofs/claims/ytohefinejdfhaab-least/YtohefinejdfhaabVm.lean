/-
  The cells of a table; a table in the making.
-/
import Derived.Test.YtohefinejdfhaabVG
import Derived.Laws.ResultCell
namespace Go.Proofs.Ytohefinejdfhaab
open Go.RowKit

theorem results_cell_row_tmp {P : Program} {fn : Func} {p u : Tmp} {ty : TypeId} (h : fn.results = #[.cell p ty, .tmp u]) (tmps : Array Value) (w : World) (g : Nat) (t : TypeId) (cs : Array Value) (fr : Nat × Nat) (d : TypeDesc)
    (hp : tmps.getD p undef = .pointer (some ⟨g, 0, none⟩)) (hg : w.heap[g]? = some (.cells cs t fr)) (hu : P.underlying ty = some d) (hd : (match d with | .struct _ | .array _ _ => true | _ => false) = true) (hi : (P.info? ty).map (·.size) = some cs.size)
    (x : Value) (hx : tmps.getD u undef = x) : (results fn tmps).run P w = .ok (.tuple #[.agg cs, x]) w := by
  rw [results_cell_tmp h, hp, hx]
  simp [asAddr, run_loadVar_row w g t ty cs fr d hg hu hd hi]

theorem wrapB (b : Nat) (h : b < 256) : IntKind.u8.wrap (b : Int) = (b : Int) := by
  rw [IntKind.wrap_u8]; omega

/-- The cells of a table. -/
def tabA (cl : Nat → Nat) (C : Nat) (gv nv : Value) : Array Value := rowN [] cl [.int .i64 (C : Int), gv, nv]
def zcT : Array Value := tabA (fun _ => 0) 0 (.slice none 0 0) (.slice none 0 0)
theorem tabA_size (cl : Nat → Nat) (C : Nat) (gv nv : Value) : (tabA cl C gv nv).size = 259 := rowN_size _ _ _
theorem zcT_size : zcT.size = 259 := tabA_size _ _ _ _
theorem zcT_ne : zcT ≠ #[] := rowN_ne _ _ _
theorem zvT (w : World) : (zeroValue 78).run Try.prog w = .ok (.agg zcT) w := by kernel_rfl
theorem tabA_b (cl : Nat → Nat) (C : Nat) (gv nv : Value) {b : Nat} (h : b < 256) : (tabA cl C gv nv)[b]? = some (.int .i64 ((cl b : Nat) : Int)) := by
  have := rowN_mid [] [.int .i64 (C : Int), gv, nv] cl h
  rwa [List.length_nil, Nat.zero_add] at this
theorem tabA_256 (cl : Nat → Nat) (C : Nat) (gv nv : Value) : (tabA cl C gv nv)[256]? = some (.int .i64 (C : Int)) := rowN_post [] _ _ 0
theorem tabA_257 (cl : Nat → Nat) (C : Nat) (gv nv : Value) : (tabA cl C gv nv)[257]? = some gv := rowN_post [] _ _ 1
theorem tabA_258 (cl : Nat → Nat) (C : Nat) (gv nv : Value) : (tabA cl C gv nv)[258]? = some nv := rowN_post [] _ _ 2
theorem tabA_set (cl : Nat → Nat) (C : Nat) (gv nv : Value) {b : Nat} (h : b < 256) (x : Nat) : (tabA cl C gv nv).setIfInBounds b (.int .i64 ((x : Nat) : Int)) = tabA (fun c => if c = b then x else cl c) C gv nv := by
  have := rowN_set [] [.int .i64 (C : Int), gv, nv] cl h x
  rwa [List.length_nil, Nat.zero_add] at this
theorem tabA_set257 (cl : Nat → Nat) (C : Nat) (gv nv v : Value) : (tabA cl C gv nv).setIfInBounds 257 v = tabA cl C v nv := rowN_set_post [] _ _ 1 v
theorem tabA_set258 (cl : Nat → Nat) (C : Nat) (gv nv v : Value) : (tabA cl C gv nv).setIfInBounds 258 v = tabA cl C gv v := rowN_set_post [] _ _ 2 v
theorem tabA_build (C : Nat) : zcT.setIfInBounds 256 (.int .i64 (C : Int)) = tabA (fun _ => 0) C (.slice none 0 0) (.slice none 0 0) := rowN_set_post [] _ _ 0 _
theorem tabA_one (a b : Option Addr) (n1 n2 c1 c2 : Nat) (cl : Nat → Nat) (C : Nat) : (tabA cl C (.slice a n1 c1) (.slice b n2 c2)).all (·.oneCell') = true := rowN_one cl rfl rfl
theorem tabA_congr {cl cl' : Nat → Nat} (h : ∀ b, b < 256 → cl b = cl' b) (C : Nat) (gv nv : Value) : tabA cl C gv nv = tabA cl' C gv nv := rowN_congr h

/-- A table in the making. -/
structure OgI (w3 wr : World) (cl : Nat → Nat) (C : Nat) (gv nv : Value) (bs : List Bool) (ns : List Nat) : Prop where
  below : Below w3.heap.size w3 wr
  bT : wr.heap[w3.heap.size]? = some (.cells (tabA cl C gv nv) 78 (0, 0))
  rg : BRow wr w3.heap.size gv bs
  rn : NRow wr w3.heap.size nv ns
section og
variable {w3 wr w2 : World} {cl : Nat → Nat} {C : Nat} {gv nv : Value} {bs : List Bool} {ns : List Nat}
theorem OgI.lt (h : OgI w3 wr cl C gv nv bs ns) : w3.heap.size < wr.heap.size := (Array.getElem?_eq_some_iff.1 h.bT).1
theorem OgI.start (w3 : World) (C : Nat) : OgI w3 (w3.alloc (.cells (tabA (fun _ => 0) C (.slice none 0 0) (.slice none 0 0)) 78)) (fun _ => 0) C (.slice none 0 0) (.slice none 0 0) [] [] :=
  ⟨(Below.refl _ _).alloc (Nat.le_refl _) _, heap_alloc_new _ _, World.ownsRow_nil _ _ _ _, World.ownsRow_nil _ _ _ _⟩
theorem OgI.next (h : OgI w3 wr cl C gv nv bs ns) (k : Below wr.heap.size wr w2) : OgI w3 w2 cl C gv nv bs ns :=
  ⟨h.below.trans (k.mono h.below.size), (k.block _ h.lt).trans h.bT, h.rg.below k, h.rn.below k⟩
theorem OgI.drew (h : OgI w3 wr cl C gv nv bs ns) : OgI w3 wr.drew cl C gv nv bs ns := ⟨h.below.drew, h.bT, h.rg, h.rn⟩
theorem OgI.alloc (h : OgI w3 wr cl C gv nv bs ns) (o : Obj) : OgI w3 (wr.alloc o) cl C gv nv bs ns := h.next ((Below.refl _ _).alloc (Nat.le_refl _) _)
theorem OgI.congr (h : OgI w3 wr cl C gv nv bs ns) {cl' : Nat → Nat} (he : ∀ b, b < 256 → cl b = cl' b) : OgI w3 wr cl' C gv nv bs ns := ⟨h.below, by rw [← tabA_congr he]; exact h.bT, h.rg, h.rn⟩
theorem OgI.cls (h : OgI w3 wr cl C gv nv bs ns) {b : Nat} (hb : b < 256) (x : Nat) : OgI w3 (wr.setCell ⟨w3.heap.size, b, none⟩ (.int .i64 ((x : Nat) : Int))) (fun c => if c = b then x else cl c) C gv nv bs ns :=
  ⟨h.below.setCell (by simp) _, by rw [heap_setCell_same _ _ _ _ _ _ h.bT, tabA_set _ _ _ _ hb], own_set_any h.rg h.bT (by decide) _ _, own_set_any h.rn h.bT (by decide) _ _⟩
theorem OgI.grant (h : OgI w3 wr cl C gv nv bs ns) (hgrow : wr.grownBy w2 gv.ownBlock) {v' : Value} {y : Bool} (ho : w2.ownsRow w3.heap.size 4 1 v' (bs.length + 1) (boolCells bs ++ [.bool y])) :
    OgI w3 (w2.setCell ⟨w3.heap.size, 257, none⟩ v') cl C v' nv (bs ++ [y]) ns := by
  have e2 := own_off h.rg h.bT (by decide)
  have g2 := grown_at hgrow h.bT (fun e => e2 _ e rfl)
  exact ⟨(h.below.grown hgrow h.below.size (fun k hk => (h.rg.lt k hk).1)).setCell (by simp) _, by rw [heap_setCell_same _ _ _ _ _ _ g2, tabA_set257], own_set_any (BRow.of ho) g2 (by decide) _ _, keep2 hgrow g2 h.rn (own_own h.rn h.rg (by decide)) (by decide)⟩
theorem OgI.edge (h : OgI w3 wr cl C gv nv bs ns) (hgrow : wr.grownBy w2 nv.ownBlock) {v' : Value} {y : Nat} (ho : w2.ownsRow w3.heap.size 3 1 v' (ns.length + 1) (natCells ns ++ [.int .i64 (y : Int)])) :
    OgI w3 (w2.setCell ⟨w3.heap.size, 258, none⟩ v') cl C gv v' bs (ns ++ [y]) := by
  have e2 := own_off h.rn h.bT (by decide)
  have g2 := grown_at hgrow h.bT (fun e => e2 _ e rfl)
  exact ⟨(h.below.grown hgrow h.below.size (fun k hk => (h.rn.lt k hk).1)).setCell (by simp) _, by rw [heap_setCell_same _ _ _ _ _ _ g2, tabA_set258], keep2 hgrow g2 h.rg (own_own h.rg h.rn (by decide)) (by decide), own_set_any (NRow.of ho) g2 (by decide) _ _⟩
end og

/-- A table, as a value. -/
def TabV (w : World) (B : Nat) (v : Value) (L : List Nat → Prop) : Prop := ∃ S C nx gr cl nc gv nv, v = .agg (tabA cl C gv nv) ∧ BRow w B gv ((List.range S).map gr) ∧ NRow w B nv ((List.range S).flatMap (fun i => (List.range C).map (nc i))) ∧ TabOf L S C nx gr cl nc
theorem flat_len (C : Nat) (nc : Nat → Nat → Nat) : ∀ k, ((List.range k).flatMap (fun i => (List.range C).map (nc i))).length = k * C
  | 0 => by simp
  | k + 1 => by rw [List.range_succ, List.flatMap_append, List.length_append, flat_len C nc k]; simp [Nat.add_mul]
theorem flat_snoc (C : Nat) (nc : Nat → Nat → Nat) (k : Nat) : (List.range (k + 1)).flatMap (fun i => (List.range C).map (nc i)) = (List.range k).flatMap (fun i => (List.range C).map (nc i)) ++ (List.range C).map (nc k) := by
  rw [List.range_succ, List.flatMap_append]; simp
theorem map_snoc {α : Type} (f : Nat → α) (k : Nat) : (List.range (k + 1)).map f = (List.range k).map f ++ [f k] := by rw [List.range_succ, List.map_append]; rfl

end Go.Proofs.Ytohefinejdfhaab
