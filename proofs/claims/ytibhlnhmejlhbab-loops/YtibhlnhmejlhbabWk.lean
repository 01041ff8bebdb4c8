/-
  The automaton: Build.
-/
import Derived.Test.YtibhlnhmejlhbabWj
namespace Go.Proofs.Ytibhlnhmejlhbab
open Go.RowKit

theorem wp_build_set2 (w : World) (d : Option Tmp) (x : Operand) (ty : TypeId) (pos : String) (af : Array Edge) (gd : Option (Nat × Bool)) (a : Act) (K : Act → World → Prop) (Q : Exit → Act → World → Prop)
    (hx : a.eval x = .agg (a.eval x).cells) (hs : (a.eval x).cells.size = 256) :
    Oper.wp Try.prog { dst := d, op := .buildSlice 35 1 #[(0, x)], type := ty, pos := pos, after := af, guard := gd } a w K Q = K (a.put d (.slice (some ⟨w.heap.size, 0, none⟩) 1 1)) (w.alloc (Obj.cells (a.eval x).cells 56)) := by
  obtain ⟨i, i0, i1, i2, i3⟩ := info_of info84
  have hb := build_one w 35 56 i _ (a.eval x).cells Try.underlying35 i0 i1 (by rw [hs, i2]) (by rw [i2]; decide) (by rw [i2]; decide)
  rw [← hx] at hb
  unfold Oper.wp execOp
  simp only [List.map_toArray, List.map_cons, List.map_nil, Sem.run_bind, Sem.run_pure, Result.andThen_ok, hb]
  rfl

attribute [local go_sem ↓] Go.wp_at_zero Go.wp_at_succ wp_build_set2
attribute [local go_sem] cells_agg size_setA

theorem own_set_any {w : World} {B e z : Nat} {v : Value} {n : Nat} {xs : List Value} {b : Nat} {cs : Array Value} {ty : TypeId} {fr : Nat × Nat} (h : w.ownsRow B e z v n xs) (hb : w.heap[b]? = some (.cells cs ty fr)) (hne : e ≠ ty) (o : Nat) (u : Value) : (w.setCell ⟨b, o, none⟩ u).ownsRow B e z v n xs := by
  refine ⟨h.1, ?_⟩
  rcases h.2 with hn | ⟨g, cap, cur, rfl, h1, hg, rest⟩
  · exact .inl hn
  · refine .inr ⟨g, cap, cur, rfl, h1, ?_, rest⟩
    have : g ≠ b := by
      rintro rfl
      rw [hg] at hb
      simp at hb
      exact hne hb.2.1
    rw [Below.heap_setCell _ _ _ _ (by simpa using this)]; exact hg

def zeroAut : Array Value := #[.slice none 0 0, .slice none 0 0, .int .i64 0]
/-- In the midst of Build, before the loop. -/
structure Bu (w wr : World) (g3 : Nat) (T P : Array Value) : Prop where
  below : Below w.heap.size w wr
  b0 : wr.heap[w.heap.size]? = some (.cells T 37 (0, 0))
  b1 : wr.heap[w.heap.size + 1]? = some (.cells zeroAut 42 (0, 0))
  b3 : wr.heap[g3]? = some (.cells P 51 (0, 0))
  h3 : w.heap.size + 1 < g3
theorem Bu.lt {w wr : World} {g3 : Nat} {T P : Array Value} (h : Bu w wr g3 T P) : g3 < wr.heap.size := (Array.getElem?_eq_some_iff.1 h.b3).1
theorem Bu.grown {w wr w1 : World} {g3 : Nat} {T P : Array Value} {row : Option Nat} (h : Bu w wr g3 T P) (hg : wr.grownBy w1 row) (hr : ∀ k, row = some k → g3 < k) : Bu w w1 g3 T P := by
  have hl := h.lt
  have h3 := h.h3
  refine ⟨h.below.grown hg h.below.size (fun k hk => by have := hr k hk; omega), ?_, ?_, ?_, h3⟩
  · rw [hg.block _ (by omega) (fun e => by have := hr _ e.symm; omega)]; exact h.b0
  · rw [hg.block _ (by omega) (fun e => by have := hr _ e.symm; omega)]; exact h.b1
  · rw [hg.block _ (by omega) (fun e => by have := hr _ e.symm; omega)]; exact h.b3
theorem Bu.next {w wr w1 : World} {g3 : Nat} {T P : Array Value} (h : Bu w wr g3 T P) (hb : Below wr.heap.size wr w1) : Bu w w1 g3 T P :=
  h.grown (grownBy_of_below hb none) (fun _ h => by cases h)
theorem Bu.drew {w wr : World} {g3 : Nat} {T P : Array Value} (h : Bu w wr g3 T P) : Bu w wr.drew g3 T P := ⟨h.below.drew, h.b0, h.b1, h.b3, h.h3⟩
theorem Bu.put {w wr : World} {g3 : Nat} {T : Array Value} {c0 c1 c2 c3 c4 : Value} (h : Bu w wr g3 T #[c0, c1, c2, c3, c4]) (u0 u1 u2 u3 u4 : Value) : Bu w (set5 wr g3 u0 u1 u2 u3 u4) g3 T #[u0, u1, u2, u3, u4] :=
  ⟨set5_below h.below (by have := h.h3; omega), (set5_other (by have := h.h3; omega)).trans h.b0, (set5_other (by have := h.h3; omega)).trans h.b1, set5_same h.b3, h.h3⟩
theorem Bu.set {w wr : World} {g3 : Nat} {T P : Array Value} (h : Bu w wr g3 T P) {c : Nat} (hc : g3 < c) (o : Nat) (v : Value) : Bu w (wr.setCell ⟨c, o, none⟩ v) g3 T P := by
  have h3 := h.h3
  refine ⟨h.below.setCell (by simp; omega) _, ?_, ?_, ?_, h3⟩
  · rw [Below.heap_setCell _ _ _ _ (by simp; omega)]; exact h.b0
  · rw [Below.heap_setCell _ _ _ _ (by simp; omega)]; exact h.b1
  · rw [Below.heap_setCell _ _ _ _ (by simp; omega)]; exact h.b3
theorem Bu.start {w w1 : World} {T P : Array Value} (h0 : Below (w.heap.size + 2) ((w.alloc (.cells T 37)).alloc (.cells zeroAut 42)) w1) : Bu w (w1.alloc (.cells P 51)) w1.heap.size T P := by
  have s0 : ((w.alloc (.cells T 37)).alloc (.cells zeroAut 42)).heap.size = w.heap.size + 2 := by simp
  have s1 := h0.size
  have hb : Below w.heap.size w w1 := (((Below.refl _ _).alloc (Nat.le_refl _) _).alloc (by simp) _).trans (h0.mono (by omega))
  refine ⟨hb.alloc hb.size _, ?_, ?_, heap_alloc_new _ _, by omega⟩
  · rw [Below.heap_alloc _ _ _ (by omega), h0.block _ (by omega)]; exact heap_alloc2_old _ _ _
  · rw [Below.heap_alloc _ _ _ (by omega), h0.block _ (by omega)]; exact heap_alloc2_new _ _ _

/-- In the loop of Build. -/
structure BuL (w w4 : World) (g3 g4 : Nat) (T P : Array Value) (nv sv zv : Value) (last : Int) (xs : List Nat) (zs : List Int) (qs : List (Nat → Bool)) : Prop where
  bu : Bu w w4 g3 T P
  b4 : w4.heap[g4]? = some (.cells #[nv, sv, .int .i64 last] 42 (0, 0))
  h4 : g3 < g4
  nr : NRow w4 0 nv xs
  zr : ZRow w4 0 zv zs
  fr : FsRow w4 (g4 + 1) sv qs
theorem BuL.lt {w w4 : World} {g3 g4 : Nat} {T P : Array Value} {nv sv zv : Value} {last : Int} {xs : List Nat} {zs : List Int} {qs : List (Nat → Bool)} (h : BuL w w4 g3 g4 T P nv sv zv last xs zs qs) : g4 < w4.heap.size := (Array.getElem?_eq_some_iff.1 h.b4).1
theorem BuL.next {w w4 w5 : World} {g3 g4 : Nat} {T P : Array Value} {nv sv zv : Value} {last : Int} {xs : List Nat} {zs : List Int} {qs : List (Nat → Bool)} (h : BuL w w4 g3 g4 T P nv sv zv last xs zs qs) (hb : Below w4.heap.size w4 w5) : BuL w w5 g3 g4 T P nv sv zv last xs zs qs :=
  ⟨h.bu.next hb, (hb.block _ h.lt).trans h.b4, h.h4, h.nr.below hb, h.zr.below hb, h.fr.below hb⟩
theorem BuL.drew {w w4 : World} {g3 g4 : Nat} {T P : Array Value} {nv sv zv : Value} {last : Int} {xs : List Nat} {zs : List Int} {qs : List (Nat → Bool)} (h : BuL w w4 g3 g4 T P nv sv zv last xs zs qs) : BuL w w4.drew g3 g4 T P nv sv zv last xs zs qs :=
  ⟨h.bu.drew, h.b4, h.h4, h.nr, h.zr, h.fr⟩
theorem BuL.grown {w w4 w5 : World} {g3 g4 : Nat} {T P : Array Value} {nv sv zv : Value} {last : Int} {xs : List Nat} {zs : List Int} {qs : List (Nat → Bool)} (h : BuL w w4 g3 g4 T P nv sv zv last xs zs qs) (hg : w4.grownBy w5 sv.ownBlock) :
    Bu w w5 g3 T P ∧ w5.heap[g4]? = some (.cells #[nv, sv, .int .i64 last] 42 (0, 0)) ∧ NRow w5 0 nv xs ∧ ZRow w5 0 zv zs := by
  have hsl : ∀ q, sv.ownBlock = some q → g4 + 1 ≤ q := fun q hq => (h.fr.lt q hq).1
  have h4 := h.h4
  refine ⟨h.bu.grown hg (fun q hq => by have := hsl q hq; omega), ?_, ?_, ?_⟩
  · rw [hg.block _ h.lt (fun e => by have := hsl _ e.symm; omega)]; exact h.b4
  · exact World.ownsRow.kept h.nr hg (rows_apart (by decide) h.nr h.fr)
  · exact World.ownsRow.kept h.zr hg (rows_apart (by decide) h.zr h.fr)
theorem BuL.step {w w4 w5 : World} {g3 g4 : Nat} {T P : Array Value} {nv sv zv v' : Value} {last : Int} {xs : List Nat} {zs : List Int} {qs : List (Nat → Bool)} {f : Nat → Bool} (h : BuL w w4 g3 g4 T P nv sv zv last xs zs qs) (hg : w4.grownBy w5 sv.ownBlock)
    (ho : w5.ownsRow (g4 + 1) 56 256 v' (qs.length + 1) (setsCells qs ++ (setA f).toList)) : BuL w (w5.setCell ⟨g4, 1, none⟩ v') g3 g4 T P nv v' zv last xs zs (qs ++ [f]) := by
  obtain ⟨p1, p2, p3, p4⟩ := h.grown hg
  refine ⟨p1.set h.h4 _ _, ?_, h.h4, own_set_any p3 p2 (by decide) _ _, own_set_any p4 p2 (by decide) _ _, ?_⟩
  · simp only [World.setCell, Array.getElem?_modify, if_pos, p2]; simp
  · have : w5.ownsRow (g4 + 1) 56 256 v' (qs ++ [f]).length (setsCells (qs ++ [f])) := by rw [setsCells_snoc]; simpa using ho
    exact ownsRow_setCell_below this (by simp) _

theorem zs_snoc {fs : List (Nat → Bool)} {zs : List Int} {k : Nat} (hk : k < zs.length) : (zs.take (k + 1)).map (setOf fs) = (zs.take k).map (setOf fs) ++ [setOf fs (zs.getD k 0)] := by
  rw [take_snoc' hk, List.map_append]; rfl

theorem tree_cells {w : World} {b : Nat} {v0 v1 : Value} {e : TypeId} (h : w.heap[b]? = some (.cells #[v0, v1] e (0, 0))) : w.cell? ⟨b, 0, none⟩ = some v0 ∧ w.cell? ⟨b, 1, none⟩ = some v1 :=
  ⟨by rw [cell_of_row _ _ _ _ _ _ h]; rfl, by rw [cell_of_row _ _ _ _ _ _ h]; rfl⟩
theorem aut_cells {w : World} {b : Nat} {v0 v1 v2 : Value} {e : TypeId} (h : w.heap[b]? = some (.cells #[v0, v1, v2] e (0, 0))) : w.cell? ⟨b, 0, none⟩ = some v0 ∧ w.cell? ⟨b, 1, none⟩ = some v1 ∧ w.cell? ⟨b, 2, none⟩ = some v2 :=
  ⟨by rw [cell_of_row _ _ _ _ _ _ h]; rfl, by rw [cell_of_row _ _ _ _ _ _ h]; rfl, by rw [cell_of_row _ _ _ _ _ _ h]; rfl⟩

end Go.Proofs.Ytibhlnhmejlhbab
