/-
  The cells of a table; a table in the making.
-/
import Derived.Test.YtnkdbcicphnmiaaT10
namespace Go.Proofs.Ytnkdbcicphnmiaa
namespace Mc
open Go.RowKit

theorem tbC_set (cl : Nat → Nat) (C : Nat) (gv nv : Value) {b : Nat} (h : b < 256) (x : Nat) : (tbC cl C gv nv).setIfInBounds b (.int .i64 ((x : Nat) : Int)) = tbC (fun c => if c = b then x else cl c) C gv nv := by
  apply Array.ext_getElem?
  intro k
  rw [Array.getElem?_setIfInBounds]
  by_cases hk : b = k
  · subst hk
    rw [if_pos rfl, if_pos (by rw [tbC_size]; omega), tbC_cl _ _ _ _ h, if_pos rfl]
  · rw [if_neg hk]
    by_cases h2 : k < 256
    · rw [tbC_cl _ _ _ _ h2, tbC_cl _ _ _ _ h2, if_neg (Ne.symm hk)]
    · obtain ⟨j, rfl⟩ : ∃ j, k = 256 + j := ⟨k - 256, by omega⟩
      rw [tbC_tail, tbC_tail]
theorem tbC_put (cl : Nat → Nat) (C C' : Nat) (gv nv gv' nv' u : Value) (i : Nat) (hi : i < 3) (he : [.int .i64 (C' : Int), gv', nv'] = [.int .i64 (C : Int), gv, nv].set i u) : (tbC cl C gv nv).setIfInBounds (256 + i) u = tbC cl C' gv' nv' := by
  apply Array.ext_getElem?
  intro k
  rw [Array.getElem?_setIfInBounds]
  by_cases hk : 256 + i = k
  · subst hk
    rw [if_pos rfl, if_pos (by rw [tbC_size]; omega), tbC_tail, he, List.getElem?_set_self (by simpa using hi)]
  · rw [if_neg hk]
    by_cases h2 : k < 256
    · rw [tbC_cl _ _ _ _ h2, tbC_cl _ _ _ _ h2]
    · obtain ⟨j, rfl⟩ : ∃ j, k = 256 + j := ⟨k - 256, by omega⟩
      rw [tbC_tail, tbC_tail, he, List.getElem?_set_ne (by omega)]
theorem tbC_set256 (cl : Nat → Nat) (C C' : Nat) (gv nv : Value) : (tbC cl C gv nv).setIfInBounds 256 (.int .i64 (C' : Int)) = tbC cl C' gv nv := tbC_put _ _ _ _ _ _ _ _ 0 (by decide) rfl
theorem tbC_set257 (cl : Nat → Nat) (C : Nat) (gv nv v : Value) : (tbC cl C gv nv).setIfInBounds 257 v = tbC cl C v nv := tbC_put _ _ _ _ _ _ _ _ 1 (by decide) rfl
theorem tbC_set258 (cl : Nat → Nat) (C : Nat) (gv nv v : Value) : (tbC cl C gv nv).setIfInBounds 258 v = tbC cl C gv v := tbC_put _ _ _ _ _ _ _ _ 2 (by decide) rfl
theorem tbC_build (C : Nat) : zcTb.setIfInBounds 256 (.int .i64 (C : Int)) = tbC (fun _ => 0) C (.slice none 0 0) (.slice none 0 0) := tbC_set256 _ _ _ _ _
theorem tbC_congr {cl cl' : Nat → Nat} (h : ∀ b, b < 256 → cl b = cl' b) (C : Nat) (gv nv : Value) : tbC cl C gv nv = tbC cl' C gv nv := by
  apply Array.ext_getElem?
  intro k
  by_cases h2 : k < 256
  · rw [tbC_cl _ _ _ _ h2, tbC_cl _ _ _ _ h2, h k h2]
  · obtain ⟨j, rfl⟩ : ∃ j, k = 256 + j := ⟨k - 256, by omega⟩
    rw [tbC_tail, tbC_tail]
theorem tbC_256 (cl : Nat → Nat) (C : Nat) (gv nv : Value) : (tbC cl C gv nv)[256]? = some (.int .i64 (C : Int)) := tbC_tail cl C gv nv 0
theorem tbC_257 (cl : Nat → Nat) (C : Nat) (gv nv : Value) : (tbC cl C gv nv)[257]? = some gv := tbC_tail cl C gv nv 1
theorem tbC_258 (cl : Nat → Nat) (C : Nat) (gv nv : Value) : (tbC cl C gv nv)[258]? = some nv := tbC_tail cl C gv nv 2

theorem BR.of {w : World} {B : Nat} {v : Value} {bs : List Bool} {y : Bool} (h : w.ownsRow B 4 1 v (bs.length + 1) (bcs bs ++ [.bool y])) : BR w B v (bs ++ [y]) := by
  unfold BR bcs; rw [List.length_append, List.map_append]; exact h
theorem own_two {w : World} {B B' e e' z z' n n' : Nat} {v v' : Value} {xs xs' : List Value} (h : w.ownsRow B e z v n xs) (h' : w.ownsRow B' e' z' v' n' xs') (hne : e ≠ e') : ∀ q, v.ownBlock = some q → v'.ownBlock ≠ some q := fun q hq hq' => by
  rcases h.2 with ⟨rfl, _⟩ | ⟨g, cap, cur, rfl, _, hg, _⟩
  · simp [Value.ownBlock] at hq
  · rcases h'.2 with ⟨rfl, _⟩ | ⟨g', cap', cur', rfl, _, hg', _⟩
    · simp [Value.ownBlock] at hq'
    · have e1 : g = q := by simpa [Value.ownBlock] using hq
      have e2 : g' = q := by simpa [Value.ownBlock] using hq'
      subst e1; subst e2
      rw [hg] at hg'; simp at hg'; exact hne hg'.2
/-- A table in the making: its block, its rows behind the bound. -/
structure PgI (B g : Nat) (w wr : World) (cl : Nat → Nat) (C : Nat) (gv nv : Value) (bs : List Bool) (ns : List Nat) : Prop where
  below : Below B w wr
  hB : B ≤ g
  bT : wr.heap[g]? = some (.cells (tbC cl C gv nv) 142 (0, 0))
  rg : BR wr B gv bs
  rn : NR wr B nv ns
section
variable {B g : Nat} {w wr w2 : World} {cl : Nat → Nat} {C : Nat} {gv nv : Value} {bs : List Bool} {ns : List Nat}
theorem PgI.lt (h : PgI B g w wr cl C gv nv bs ns) : g < wr.heap.size := (Array.getElem?_eq_some_iff.1 h.bT).1
theorem PgI.le (h : PgI B g w wr cl C gv nv bs ns) : B ≤ wr.heap.size := by have := h.lt; have := h.hB; omega
theorem PgI.drewN (h : PgI B g w wr cl C gv nv bs ns) (n : Nat) : PgI B g w (wr.drewN n) cl C gv nv bs ns := ⟨⟨h.below.os, h.below.tape, h.below.output, h.below.size, h.below.block⟩, h.hB, h.bT, h.rg, h.rn⟩
theorem PgI.drew (h : PgI B g w wr cl C gv nv bs ns) : PgI B g w wr.drew cl C gv nv bs ns := ⟨h.below.drew, h.hB, h.bT, h.rg, h.rn⟩
theorem PgI.alloc (h : PgI B g w wr cl C gv nv bs ns) (o : Obj) : PgI B g w (wr.alloc o) cl C gv nv bs ns :=
  ⟨h.below.alloc h.le _, h.hB, (Fr.ofAlloc wr o).at h.bT (by simp), (Fr.ofAlloc wr o).own h.rg (by simp), (Fr.ofAlloc wr o).own h.rn (by simp)⟩
theorem PgI.congr (h : PgI B g w wr cl C gv nv bs ns) {cl' : Nat → Nat} (he : ∀ b, b < 256 → cl b = cl' b) : PgI B g w wr cl' C gv nv bs ns := ⟨h.below, h.hB, by rw [← tbC_congr he]; exact h.bT, h.rg, h.rn⟩
theorem PgI.cls (h : PgI B g w wr cl C gv nv bs ns) {b : Nat} (hb : b < 256) (x : Nat) : PgI B g w (wr.setCell ⟨g, b, none⟩ (.int .i64 ((x : Nat) : Int))) (fun c => if c = b then x else cl c) C gv nv bs ns :=
  ⟨below_set h.below h.hB, h.hB, by rw [heap_setCell_same _ _ _ _ _ _ h.bT, tbC_set _ _ _ _ hb], (Fr.ofSet _ _ _ _).own h.rg (fun q hq => by simpa using own_off h.rg h.bT (by decide) q hq), (Fr.ofSet _ _ _ _).own h.rn (fun q hq => by simpa using own_off h.rn h.bT (by decide) q hq)⟩
theorem PgI.grant (h : PgI B g w wr cl C gv nv bs ns) {v' : Value} {y : Bool} (hgrow : wr.grownBy w2 gv.ownBlock) (ho : w2.ownsRow B 4 1 v' (bs.length + 1) (bcs bs ++ [.bool y])) :
    w2.cell? ⟨g, 257, none⟩ = some gv ∧ w2.frozen? ⟨g, 257, none⟩ = false ∧ PgI B g w (w2.setCell ⟨g, 257, none⟩ v') cl C v' nv (bs ++ [y]) ns := by
  have e2 := own_off h.rg h.bT (by decide)
  have g2 : w2.heap[g]? = _ := (Fr.ofGrown hgrow).at h.bT (fun hm => e2 _ (Option.mem_toList.1 hm) rfl)
  have hn2 : NR w2 B nv ns := (Fr.ofGrown hgrow).own h.rn (fun q hq hm => own_two h.rn h.rg (by decide) q hq (Option.mem_toList.1 hm))
  refine ⟨by rw [cell_of_row _ _ _ _ _ _ g2, tbC_257], frozen_of_row _ _ _ _ _ g2, below_set (below_grown h.below hgrow h.le (fun q hq => (h.rg.lt q hq).1)) h.hB, h.hB, by rw [heap_setCell_same _ _ _ _ _ _ g2, tbC_set257], ?_, ?_⟩
  · exact (Fr.ofSet _ _ _ _).own (BR.of ho) (fun q hq => by simpa using own_off ho g2 (by decide) q hq)
  · exact (Fr.ofSet _ _ _ _).own hn2 (fun q hq => by simpa using own_off hn2 g2 (by decide) q hq)
theorem PgI.edge (h : PgI B g w wr cl C gv nv bs ns) {v' : Value} {y : Nat} (hgrow : wr.grownBy w2 nv.ownBlock) (ho : w2.ownsRow B 3 1 v' (ns.length + 1) (ncs ns ++ [.int .i64 (y : Int)])) :
    w2.cell? ⟨g, 258, none⟩ = some nv ∧ w2.frozen? ⟨g, 258, none⟩ = false ∧ PgI B g w (w2.setCell ⟨g, 258, none⟩ v') cl C gv v' bs (ns ++ [y]) := by
  have e2 := own_off h.rn h.bT (by decide)
  have g2 : w2.heap[g]? = _ := (Fr.ofGrown hgrow).at h.bT (fun hm => e2 _ (Option.mem_toList.1 hm) rfl)
  have hn2 : BR w2 B gv bs := (Fr.ofGrown hgrow).own h.rg (fun q hq hm => own_two h.rg h.rn (by decide) q hq (Option.mem_toList.1 hm))
  refine ⟨by rw [cell_of_row _ _ _ _ _ _ g2, tbC_258], frozen_of_row _ _ _ _ _ g2, below_set (below_grown h.below hgrow h.le (fun q hq => (h.rn.lt q hq).1)) h.hB, h.hB, by rw [heap_setCell_same _ _ _ _ _ _ g2, tbC_set258], ?_, ?_⟩
  · exact (Fr.ofSet _ _ _ _).own hn2 (fun q hq => by simpa using own_off hn2 g2 (by decide) q hq)
  · exact (Fr.ofSet _ _ _ _).own (NR.of ho) (fun q hq => by simpa using own_off ho g2 (by decide) q hq)
end
/-- A truth is appended to a row, in a region that draws its order. -/
theorem appBs {ops : Array Oper} {o : Oper} {a : Act} {W : World} {K : Act → World → Prop} {Q : Exit → Act → World → Prop} {E : Prop} (hgd : o.guard = none) (s x : Operand)
    (ho : o.op = .call { callee := .builtin .append, args := #[s, x], argTypes := #[92, 92] }) (B : Nat) (v : Value) (xs : List Bool) (hs : a.eval s = v) (hown : BR W B v xs) (g0 : Nat) (y : Bool)
    (hx : a.eval x = .slice (some ⟨g0, 0, none⟩) 1 1) (hc : W.cell? ⟨g0, 0, none⟩ = some (.bool y)) (hlen : xs.length ≤ 3000000) (hB : B ≤ W.heap.size) (H : Nat) (hH : W.heap.size = H)
    (h : ∀ g cap w', w'.ownsRow B 4 1 (.slice (some ⟨g, 0, none⟩) (xs.length + 1) cap) (xs.length + 1) (bcs xs ++ [.bool y]) → W.grownBy w' v.ownBlock → (v.ownBlock = some g ∨ g = H) → g < w'.heap.size → K (a.put o.dst (.slice (some ⟨g, 0, none⟩) (xs.length + 1) cap)) w') :
    if Region.wanted o (yielded ops a.tmps) = true then Oper.wp Try.prog o a W K Q else E := by
  obtain ⟨i, i0, i1, i2, i3⟩ := info_of infoB
  exact step_append_lies W hgd s x 92 ho B 4 i (.bool false) 1 1 Try.underlying92 i0 i1 i2 i3 rfl (by decide) v xs.length (bcs xs) hs hown ⟨g0, 0, none⟩ 1 1 [.bool y] hx rfl (one_cells hc) (by intro u hu; simp at hu; subst hu; rfl) (by decide) (by unfold maxLen; omega) (by omega) hB H hH h

end Mc
end Go.Proofs.Ytnkdbcicphnmiaa
