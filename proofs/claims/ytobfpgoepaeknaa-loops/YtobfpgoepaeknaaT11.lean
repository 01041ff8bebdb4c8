/-
  The automaton: reach, grants.
  The automaton: Build.
-/
import Derived.Test.YtobfpgoepaeknaaT09
namespace Go.Proofs.Ytobfpgoepaeknaa
open Go.RowKit
attribute [local go_sem ↓] Go.wp_at_zero Go.wp_at_succ

set_option maxHeartbeats 1000000 in
theorem reach_any (w : World) (g : Nat) (p : Part) (x : Nat) (h : AutB w g p) (hp : p.Ok) (hl : p.next.length ≤ 50) (hx : x < top) :
    Calls Try.prog 43 #[.pointer (some ⟨g, 0, none⟩), .int .i64 (x : Int)] w fun e w' => e = .returned (.int .i64 ((reachP p x : Nat) : Int)) ∧ w' = w := by
  obtain ⟨nv, h1, h2⟩ := h
  obtain ⟨na, nc, rfl⟩ := h2.form
  have H2 := hide h2
  have hs := hp.small hl
  have HX := hide hx
  have HN := hide hs.2.2.2
  have HR := hide (fun k => reachN_lt (next := p.next) hp.2.2.2 x k)
  have HL := hide hl
  have hlI : (p.next.length : Int) ≤ 50 := by omega
  have HTOP : Hid (2 ^ p.next.length ≤ top) := Nat.pow_le_pow_right (n := 2) (by omega) (show p.next.length ≤ 60 by omega)
  have y0 : w.cell? ⟨g, 0, none⟩ = some (.slice na p.next.length nc) := by rw [cell_of_row _ _ _ _ _ _ h1, autA_0]
  have HP : Hid (reachP p x = reachN p.next x p.next.length) := rfl
  clear h1 h2 hs hp hl hx
  go_enter Try.func43, Try.ntmps43
  go_wp2
  go_loopw [5, 6] (fun rx ix wr => ∃ k r : Nat, ix = .int .i64 (k : Int) ∧ rx = .int .i64 (r : Int) ∧ k ≤ p.next.length ∧ wr = w ∧ Hid (r = reachN p.next x k)) (fun _ ix _ => p.next.length - (intOf ix).toNat)
  case atStart => exact ⟨0, 0, rfl, rfl, Nat.zero_le _, rfl, rfl⟩
  case round =>
    rename World => wr
    obtain ⟨k, r, rfl, rfl, hk, rfl, HH⟩ := hrel
    by_cases hlt : k < p.next.length
    · obtain ⟨g2, cap, he, hc⟩ := (unhide H2).at hlt
      simp only [Value.slice.injEq, true_and] at he
      obtain ⟨rfl, rfl⟩ := he
      have hlt' : (k : Int) < (p.next.length : Int) := by omega
      have hcall := has_any x k wr (by have := unhide HL; omega) (unhide HX)
      have hn : p.next.getD k 0 < top := by rw [List.getD_eq_getElem?_getD, List.getElem?_eq_getElem hlt]; exact unhide HN _ (List.getElem_mem _)
      have hr : r < top := by rw [unhide HH]; exact Nat.lt_of_lt_of_le (unhide HR k) (unhide HTOP)
      have HE := hide (i64_or_nat r (p.next.getD k 0) hr hn)
      have HSN : Hid (reachN p.next x (k + 1) = if x.testBit k then reachN p.next x k ||| p.next.getD k 0 else reachN p.next x k) := rfl
      clear hn hr
      generalize p.next.getD k 0 = y at *
      by_cases ht : x.testBit k = true
      · rw [ht] at hcall
        have HC := hide hcall
        have HT := hide ht
        clear hcall hlt ht
        go_wp2_with (go_at_call 64; refine (unhide HC).mono ?_; rintro e w' ⟨rfl, rfl⟩)
        go_roundw
        case rel =>
          refine ⟨k + 1, r ||| y, by go_num, ?_, by omega, by trivial, ?_⟩
          · first | rfl | rw [unhide HE]
          · show _ = _
            rw [unhide HSN, if_pos (unhide HT), unhide HH]
        case measure => simp [intOf]; omega
      · have ht' : x.testBit k = false := by simpa using ht
        rw [ht'] at hcall
        have HC := hide hcall
        have HT := hide ht
        clear hcall hlt ht ht'
        go_wp2_with (go_at_call 64; refine (unhide HC).mono ?_; rintro e w' ⟨rfl, rfl⟩)
        go_roundw
        case rel =>
          refine ⟨k + 1, r, by go_num, rfl, by omega, by trivial, ?_⟩
          show _ = _
          rw [unhide HSN, if_neg (unhide HT), unhide HH]
        case measure => simp [intOf]; omega
    · have hk2 : k = p.next.length := by omega
      subst hk2
      go_wp2
      go_ret
      exact ⟨ret_int (by rw [unhide HP, unhide HH]), rfl⟩

theorem grants_any (w : World) (g : Nat) (p : Part) (x : Nat) (h : AutB w g p) (hp : p.Ok) (hl : p.next.length ≤ 50) (hx : x < top) :
    Calls Try.prog 44 #[.pointer (some ⟨g, 0, none⟩), .int .i64 (x : Int)] w fun e w' => e = .returned (.bool (decide (x &&& p.last ≠ 0))) ∧ w' = w := by
  obtain ⟨nv, h1, h2⟩ := h
  have y0 : w.cell? ⟨g, 257, none⟩ = some (.int .i64 (p.last : Int)) := by rw [cell_of_row _ _ _ _ _ _ h1, autA_257]
  have e1 := i64_and_nat x p.last hx (hp.small hl).2.2.1
  clear h1 h2 hp hl hx
  go_enter Try.func44, Try.ntmps44
  go_wp2
  go_ret
  refine ⟨?_, rfl⟩
  generalize x &&& p.last = n
  by_cases h : n = 0
  · subst h; rfl
  · have h1 : ((n : Int) != 0) = true := by simp; omega
    simp [h1, h]

end Go.Proofs.Ytobfpgoepaeknaa
namespace Go.Proofs.Ytobfpgoepaeknaa
open Go.RowKit

theorem own_set_any {w : World} {B e z : Nat} {v : Value} {n : Nat} {xs : List Value} {b : Nat} {cs : Array Value} {ty : TypeId} {fr : Nat × Nat} (h : w.ownsRow B e z v n xs) (hb : w.heap[b]? = some (.cells cs ty fr)) (hne : e ≠ ty) (o : Nat) (u : Value) : (w.setCell ⟨b, o, none⟩ u).ownsRow B e z v n xs := by
  refine ⟨h.1, ?_⟩
  rcases h.2 with hn | ⟨g, cap, cur, rfl, h1, hg, rest⟩
  · exact .inl hn
  · refine .inr ⟨g, cap, cur, rfl, h1, ?_, rest⟩
    have : g ≠ b := by
      rintro rfl
      rw [hg] at hb
      simp at hb
      exact hne hb.2.1
    rw [Below.heap_setCell _ _ _ _ (by simpa using this)]; exact hg

theorem setRow_alloc (w : World) (A B : Array Value) (t : TypeId) : (w.alloc (Obj.cells A t)).setRow w.heap.size B = w.alloc (Obj.cells B t) := by
  simp only [World.setRow, World.alloc]
  congr 1
  apply Array.ext_getElem?
  intro i
  rw [Array.getElem?_modify, Array.getElem?_push, Array.getElem?_push]
  by_cases h : i = w.heap.size
  · subst h; simp
  · rw [if_neg (fun e => h e.symm), if_neg h, if_neg h]
theorem autA_build (nv : Value) (c : Int) : (zcA.setIfInBounds 0 nv).setIfInBounds 257 (.int .i64 c) = autA nv (fun _ => 0) c := by
  unfold zcA autA
  rw [rowN_set_pre _ _ _ (by simp)]
  exact rowN_set_post [nv] _ _ 0 _
theorem wp_alloc_set (w : World) (d : Option Tmp) (ty : TypeId) (pos : String) (af : Array Edge) (gd : Option (Nat × Bool)) (a : Act) (K : Act → World → Prop) (Q : Exit → Act → World → Prop) :
    Oper.wp Try.prog { dst := d, op := .alloc 85, type := ty, pos := pos, after := af, guard := gd } a w K Q = K (a.put d (.pointer (some ⟨w.heap.size, 0, none⟩))) (w.alloc (Obj.cells zcS 85)) := by
  unfold Oper.wp execOp
  simp only [Instr.alloc, newVar, Sem.run_bind, Sem.run_pure, Result.andThen_ok, zvS]
  simp [go_sem]
/-- A value of 256 cells. -/
def Is256 (v : Value) : Prop := v = .agg v.cells ∧ v.cells.size = 256 ∧ v.cells.all (·.oneCell') = true
theorem is256_set (f : Nat → Bool) : Is256 (.agg (setA f)) := by
  unfold Is256
  rw [cells_agg]
  exact And.intro rfl (And.intro (size_setA f) (setA_one f))
theorem wp_store_set (w : World) (g : Nat) (hg : w.heap[g]? = some (.cells zcS 85 (0, 0))) (x y : Operand) (ty : TypeId) (pos : String) (af : Array Edge) (gd : Option (Nat × Bool)) (a : Act) (K : Act → World → Prop) (Q : Exit → Act → World → Prop)
    (hx : a.eval x = .pointer (some ⟨g, 0, none⟩)) (hy : Is256 (a.eval y)) :
    Oper.wp Try.prog { dst := none, op := .store 85 x y, type := ty, pos := pos, after := af, guard := gd } a w K Q = K (a.put none undef) (w.setRow g (a.eval y).cells) := by
  obtain ⟨hy, hs, h1⟩ := hy
  have hi : (Try.prog.info? 85).map (·.size) = some (a.eval y).cells.size := by rw [hs]; kernel_rfl
  have hr := run_storeVar_row (P := Try.prog) w g _ 85 zcS (a.eval y).cells hg hi (by rw [zcS_size, hs]) h1
  rw [← hy] at hr
  unfold Oper.wp execOp
  simp only [hx, Instr.storeAt, Instr.sureAddr, Sem.run_bind, Sem.run_pure, Result.andThen_ok, hr]
  rfl
theorem wp_store_new (w : World) (x y : Operand) (ty : TypeId) (pos : String) (af : Array Edge) (gd : Option (Nat × Bool)) (a : Act) (K : Act → World → Prop) (Q : Exit → Act → World → Prop)
    (hx : a.eval x = .pointer (some ⟨w.heap.size, 0, none⟩)) (hy : Is256 (a.eval y)) :
    Oper.wp Try.prog { dst := none, op := .store 85 x y, type := ty, pos := pos, after := af, guard := gd } a (w.alloc (Obj.cells zcS 85)) K Q = K (a.put none undef) (w.alloc (Obj.cells (a.eval y).cells 85)) := by
  rw [wp_store_set _ w.heap.size (heap_alloc_new _ _) x y ty pos af gd a K Q hx hy, setRow_alloc]
def ptrBlock : Value → Nat
  | .pointer (some a) => a.block
  | _ => 0
theorem ptrBlock_at (b o : Nat) : ptrBlock (.pointer (some ⟨b, o, none⟩)) = b := rfl
theorem wp_store_old (w : World) (x y : Operand) (ty : TypeId) (pos : String) (af : Array Edge) (gd : Option (Nat × Bool)) (a : Act) (K : Act → World → Prop) (Q : Exit → Act → World → Prop)
    (hx : a.eval x = .pointer (some ⟨ptrBlock (a.eval x), 0, none⟩)) (hg : w.heap[ptrBlock (a.eval x)]? = some (.cells zcS 85 (0, 0))) (hy : Is256 (a.eval y)) :
    Oper.wp Try.prog { dst := none, op := .store 85 x y, type := ty, pos := pos, after := af, guard := gd } a w K Q = K (a.put none undef) (w.setRow (ptrBlock (a.eval x)) (a.eval y).cells) :=
  wp_store_set w _ hg x y ty pos af gd a K Q hx hy
theorem own_setRow {w : World} {B e z : Nat} {v : Value} {n : Nat} {xs : List Value} {b : Nat} (h : w.ownsRow B e z v n xs) (hne : ∀ q, v.ownBlock = some q → q ≠ b) (cs : Array Value) : (w.setRow b cs).ownsRow B e z v n xs := by
  refine ⟨by simpa using h.1, ?_⟩
  rcases h.2 with hn | ⟨g, cap, cur, rfl, h1, hg, rest⟩
  · exact .inl hn
  · refine .inr ⟨g, cap, cur, rfl, h1, ?_, rest⟩
    rw [setRow_other _ _ _ _ (hne g rfl)]; exact hg
theorem own_not_at {w : World} {B e z : Nat} {v : Value} {n : Nat} {xs : List Value} {b : Nat} {cs : Array Value} {ty : TypeId} {fr : Nat × Nat} (h : w.ownsRow B e z v n xs) (hq : v.ownBlock = some b) (hb : w.heap[b]? = some (.cells cs ty fr)) (hne : e ≠ ty) : False := by
  rcases h.2 with ⟨rfl, _⟩ | ⟨g, cap, cur, rfl, h1, hg, rest⟩
  · cases hq
  · cases hq
    rw [hg] at hb
    simp at hb
    exact hne hb.2.1
/-- In the midst of Build, before the loop. -/
structure Bu (w wr : World) (g3 : Nat) (T P : Array Value) : Prop where
  below : Below w.heap.size w wr
  b0 : wr.heap[w.heap.size]? = some (.cells T 50 (0, 0))
  b1 : wr.heap[w.heap.size + 1]? = some (.cells zcA 56 (0, 0))
  b3 : wr.heap[g3]? = some (.cells P 80 (0, 0))
  h3 : w.heap.size + 1 < g3
theorem Bu.lt {w wr : World} {g3 : Nat} {T P : Array Value} (h : Bu w wr g3 T P) : g3 < wr.heap.size := (Array.getElem?_eq_some_iff.1 h.b3).1
theorem Bu.grown {w wr w1 : World} {g3 : Nat} {T P : Array Value} {row : Option Nat} (h : Bu w wr g3 T P) (hg : wr.grownBy w1 row) (hr : ∀ k, row = some k → g3 < k) : Bu w w1 g3 T P := by
  have hl := h.lt
  have h3 := h.h3
  refine ⟨h.below.grown hg h.below.size (fun k hk => by have := hr k hk; omega), ?_, ?_, ?_, h3⟩
  · rw [hg.block _ (by omega) (fun e => by have := hr _ e.symm; omega)]; exact h.b0
  · rw [hg.block _ (by omega) (fun e => by have := hr _ e.symm; omega)]; exact h.b1
  · rw [hg.block _ (by omega) (fun e => by have := hr _ e.symm; omega)]; exact h.b3
theorem Bu.next {w wr w1 : World} {g3 : Nat} {T P : Array Value} (h : Bu w wr g3 T P) (hb : Below wr.heap.size wr w1) : Bu w w1 g3 T P :=
  h.grown (grownBy_of_below hb none) (fun _ h => by cases h)
theorem Bu.drew {w wr : World} {g3 : Nat} {T P : Array Value} (h : Bu w wr g3 T P) : Bu w wr.drew g3 T P := ⟨h.below.drew, h.b0, h.b1, h.b3, h.h3⟩
theorem Bu.put {w wr : World} {g3 : Nat} {T : Array Value} {c0 c1 c2 c3 c4 : Value} (h : Bu w wr g3 T #[c0, c1, c2, c3, c4]) (u0 u1 u2 u3 u4 : Value) : Bu w (set5 wr g3 u0 u1 u2 u3 u4) g3 T #[u0, u1, u2, u3, u4] :=
  ⟨set5_below h.below (by have := h.h3; omega), (set5_other (by have := h.h3; omega)).trans h.b0, (set5_other (by have := h.h3; omega)).trans h.b1, set5_same h.b3, h.h3⟩
theorem Bu.set {w wr : World} {g3 : Nat} {T P : Array Value} (h : Bu w wr g3 T P) {c : Nat} (hc : g3 < c) (o : Nat) (v : Value) : Bu w (wr.setCell ⟨c, o, none⟩ v) g3 T P := by
  have h3 := h.h3
  refine ⟨h.below.setCell (by simp; omega) _, ?_, ?_, ?_, h3⟩
  · rw [Below.heap_setCell _ _ _ _ (by simp; omega)]; exact h.b0
  · rw [Below.heap_setCell _ _ _ _ (by simp; omega)]; exact h.b1
  · rw [Below.heap_setCell _ _ _ _ (by simp; omega)]; exact h.b3
theorem Bu.start {w w1 : World} {T P : Array Value} (h0 : Below (w.heap.size + 2) ((w.alloc (.cells T 50)).alloc (.cells zcA 56)) w1) : Bu w (w1.alloc (.cells P 80)) w1.heap.size T P := by
  have s0 : ((w.alloc (.cells T 50)).alloc (.cells zcA 56)).heap.size = w.heap.size + 2 := by simp
  have s1 := h0.size
  have hb : Below w.heap.size w w1 := (((Below.refl _ _).alloc (Nat.le_refl _) _).alloc (by simp) _).trans (h0.mono (by omega))
  refine ⟨hb.alloc hb.size _, ?_, ?_, heap_alloc_new _ _, by omega⟩
  · rw [Below.heap_alloc _ _ _ (by omega), h0.block _ (by omega)]; exact heap_alloc2_old _ _ _
  · rw [Below.heap_alloc _ _ _ (by omega), h0.block _ (by omega)]; exact heap_alloc2_new _ _ _

/-- In the loop of Build. -/
structure BuL (w w4 : World) (g3 g4 : Nat) (T P : Array Value) (nv zv : Value) (last : Int) (xs : List Nat) (zs : List Int) (F : Nat → Nat) : Prop where
  bu : Bu w w4 g3 T P
  b4 : w4.heap[g4]? = some (.cells (autA nv F last) 56 (0, 0))
  h4 : g3 < g4
  nr : NRow w4 0 nv xs
  zr : ZRow w4 0 zv zs
section bul
variable {w w4 w5 : World} {g3 g4 : Nat} {T P : Array Value} {nv zv : Value} {last : Int} {xs : List Nat} {zs : List Int} {F : Nat → Nat}
theorem BuL.lt (h : BuL w w4 g3 g4 T P nv zv last xs zs F) : g4 < w4.heap.size := (Array.getElem?_eq_some_iff.1 h.b4).1
theorem BuL.next (h : BuL w w4 g3 g4 T P nv zv last xs zs F) (hb : Below w4.heap.size w4 w5) : BuL w w5 g3 g4 T P nv zv last xs zs F :=
  ⟨h.bu.next hb, (hb.block _ h.lt).trans h.b4, h.h4, h.nr.below hb, h.zr.below hb⟩
theorem BuL.drew (h : BuL w w4 g3 g4 T P nv zv last xs zs F) : BuL w w4.drew g3 g4 T P nv zv last xs zs F :=
  ⟨h.bu.drew, h.b4, h.h4, h.nr, h.zr⟩
theorem BuL.step (h : BuL w w4 g3 g4 T P nv zv last xs zs F) {b : Nat} (hb : b < 256) (x : Nat) : BuL w (w4.setCell ⟨g4, 1 + b, none⟩ (.int .i64 (x : Int))) g3 g4 T P nv zv last xs zs (fun c => if c = b then x else F c) :=
  ⟨h.bu.set h.h4 _ _, by rw [heap_setCell_same _ _ _ _ _ _ h.b4, autA_set _ _ _ hb], h.h4, own_set_any h.nr h.b4 (by decide) _ _, own_set_any h.zr h.b4 (by decide) _ _⟩
theorem BuL.row (h : BuL w w4 g3 g4 T P nv zv last xs zs F) {g6 : Nat} (h6 : g4 < g6) (cs : Array Value) (hx : ∀ q, nv.ownBlock = some q → q ≠ g6) (hz : ∀ q, zv.ownBlock = some q → q ≠ g6) : BuL w (w4.setRow g6 cs) g3 g4 T P nv zv last xs zs F := by
  have h3 := h.h4
  have h2 := h.bu.h3
  refine ⟨⟨below_setRow h.bu.below (by omega) cs, ?_, ?_, ?_, h2⟩, ?_, h.h4, ?_, ?_⟩
  · rw [setRow_other _ _ _ _ (by omega)]; exact h.bu.b0
  · rw [setRow_other _ _ _ _ (by omega)]; exact h.bu.b1
  · rw [setRow_other _ _ _ _ (by omega)]; exact h.bu.b3
  · rw [setRow_other _ _ _ _ (by omega)]; exact h.b4
  · exact own_setRow h.nr hx cs
  · exact own_setRow h.zr hz cs
theorem BuL.congr (h : BuL w w4 g3 g4 T P nv zv last xs zs F) {G : Nat → Nat} (hg : ∀ b, b < 256 → F b = G b) : BuL w w4 g3 g4 T P nv zv last xs zs G :=
  ⟨h.bu, by rw [h.b4, autA, autA, rowN_congr hg], h.h4, h.nr, h.zr⟩
theorem BuL.fit (h : BuL w w4 g3 g4 T P nv zv last xs zs F) {b : Nat} (hb : b < 256) : w4.cell? ⟨g4, 1 + b, none⟩ = some (.int .i64 ((F b : Nat) : Int)) := by rw [cell_of_row _ _ _ _ _ _ h.b4, autA_b _ _ _ hb]
end bul
/-- The spots that were found, in the midst of a row. -/
def fitTo (sets : List (Nat → Bool)) (k b : Nat) : Nat → Nat := fun c => if c < b then fitN sets c (k + 1) else fitN sets c k
theorem fitTo_zero (sets : List (Nat → Bool)) (k c : Nat) : fitN sets c k = fitTo sets k 0 c := by unfold fitTo; rw [if_neg (by omega)]
theorem fitTo_all (sets : List (Nat → Bool)) (k c : Nat) (h : c < 256) : fitTo sets k 256 c = fitN sets c (k + 1) := by unfold fitTo; rw [if_pos h]
theorem fitTo_yes {sets : List (Nat → Bool)} {k b : Nat} (h : setAtN sets k b = true) (c : Nat) : (if c = b then fitTo sets k b b ||| 2 ^ k else fitTo sets k b c) = fitTo sets k (b + 1) c := by
  unfold fitTo
  by_cases hc : c = b
  · subst hc; rw [if_pos rfl, if_neg (by omega), if_pos (by omega), fitN, if_pos h]
  · rw [if_neg hc]
    by_cases h2 : c < b
    · rw [if_pos h2, if_pos (by omega)]
    · rw [if_neg h2, if_neg (by omega)]
theorem fitTo_no {sets : List (Nat → Bool)} {k b : Nat} (h : setAtN sets k b = false) (c : Nat) : fitTo sets k b c = fitTo sets k (b + 1) c := by
  unfold fitTo
  by_cases hc : c = b
  · subst hc; rw [if_neg (by omega), if_pos (by omega), fitN, if_neg (by rw [h]; decide)]
  · by_cases h2 : c < b
    · rw [if_pos h2, if_pos (by omega)]
    · rw [if_neg h2, if_neg (by omega)]
theorem fitTo_lt (sets : List (Nat → Bool)) (k b c : Nat) (h : k < 59) : fitTo sets k b c < top := by
  unfold fitTo
  split
  · exact Nat.lt_trans (fitN_lt _ _ _) (pow_top (by omega))
  · exact Nat.lt_trans (fitN_lt _ _ _) (pow_top (by omega))
theorem setAtN_zs {fs : List (Nat → Bool)} {zs : List Int} {k : Nat} (hk : k < zs.length) (b : Nat) : setAtN (zs.map (setOf fs)) k b = setOf fs (zs.getD k 0) b := by
  unfold setAtN
  rw [List.getD_eq_getElem?_getD, List.getElem?_map, List.getD_eq_getElem?_getD, List.getElem?_eq_getElem hk]; rfl

theorem tree_cells {w : World} {b : Nat} {v0 v1 : Value} {e : TypeId} (h : w.heap[b]? = some (.cells #[v0, v1] e (0, 0))) : w.cell? ⟨b, 0, none⟩ = some v0 ∧ w.cell? ⟨b, 1, none⟩ = some v1 :=
  ⟨by rw [cell_of_row _ _ _ _ _ _ h]; rfl, by rw [cell_of_row _ _ _ _ _ _ h]; rfl⟩
end Go.Proofs.Ytobfpgoepaeknaa
