/-
  Blocks of cells that hold an array of 256 numbers between other cells.
  The automaton: reach, grants.
  The automaton: Build.
  What a call leaves as it was: all blocks but some; rows and blocks that outlive it. The cells of a graph.
-/
import Derived.Test.YtfooclcjehpcfaaGreatW3
import Derived.Test.YtfooclcjehpcfaaGreatTP
namespace Go.Proofs.YtfooclcjehpcfaaGreat
open Go.RowKit

def midN (f : Nat → Nat) : List Value := (List.range 256).map (fun b => Value.int .i64 ((f b : Nat) : Int))
theorem midN_len (f : Nat → Nat) : (midN f).length = 256 := by rw [midN, List.length_map, List.length_range]
theorem midN_get (f : Nat → Nat) {b : Nat} (h : b < 256) : (midN f)[b]? = some (.int .i64 ((f b : Nat) : Int)) := by
  rw [midN, List.getElem?_map, List.getElem?_range h]; rfl
def rowN (pre : List Value) (f : Nat → Nat) (post : List Value) : Array Value := (pre ++ (midN f ++ post)).toArray
theorem rowN_size (pre post : List Value) (f : Nat → Nat) : (rowN pre f post).size = pre.length + 256 + post.length := by
  rw [rowN, List.size_toArray, List.length_append, List.length_append, midN_len, Nat.add_assoc]
theorem rowN_pre (pre post : List Value) (f : Nat → Nat) {i : Nat} (h : i < pre.length) : (rowN pre f post)[i]? = pre[i]? := by
  simp only [rowN, List.getElem?_toArray]; rw [List.getElem?_append_left h]
theorem rowN_mid (pre post : List Value) (f : Nat → Nat) {b : Nat} (h : b < 256) : (rowN pre f post)[pre.length + b]? = some (.int .i64 ((f b : Nat) : Int)) := by
  simp only [rowN, List.getElem?_toArray]
  rw [List.getElem?_append_right (by omega), Nat.add_sub_cancel_left, List.getElem?_append_left (by rw [midN_len]; exact h), midN_get f h]
theorem rowN_post (pre post : List Value) (f : Nat → Nat) (i : Nat) : (rowN pre f post)[pre.length + 256 + i]? = post[i]? := by
  simp only [rowN, List.getElem?_toArray]
  rw [Nat.add_assoc, List.getElem?_append_right (by omega), Nat.add_sub_cancel_left, List.getElem?_append_right (by rw [midN_len]; omega), midN_len, Nat.add_sub_cancel_left]
theorem rowN_congr {pre post : List Value} {f g : Nat → Nat} (h : ∀ b, b < 256 → f b = g b) : rowN pre f post = rowN pre g post := by
  have : midN f = midN g := List.map_congr_left (fun b hb => by rw [h b (List.mem_range.1 hb)])
  rw [rowN, rowN, this]
theorem rowN_set (pre post : List Value) (f : Nat → Nat) {b : Nat} (hb : b < 256) (x : Nat) : (rowN pre f post).setIfInBounds (pre.length + b) (.int .i64 ((x : Nat) : Int)) = rowN pre (fun c => if c = b then x else f c) post := by
  apply Array.ext_getElem?
  intro i
  rw [Array.getElem?_setIfInBounds]
  by_cases h1 : i < pre.length
  · rw [if_neg (by omega), rowN_pre _ _ _ h1, rowN_pre _ _ _ h1]
  · obtain ⟨c, rfl⟩ : ∃ c, i = pre.length + c := ⟨i - pre.length, by omega⟩
    by_cases h2 : c < 256
    · rw [rowN_mid _ _ _ h2, rowN_mid _ _ _ h2]
      by_cases h3 : c = b
      · subst h3; rw [if_pos rfl, if_pos (by rw [rowN_size]; omega), if_pos rfl]
      · rw [if_neg (by omega), if_neg h3]
    · obtain ⟨d, rfl⟩ : ∃ d, c = 256 + d := ⟨c - 256, by omega⟩
      rw [if_neg (by omega), ← Nat.add_assoc, rowN_post, rowN_post]
theorem rowN_set_pre (pre post : List Value) (f : Nat → Nat) {i : Nat} (hi : i < pre.length) (v : Value) : (rowN pre f post).setIfInBounds i v = rowN (pre.set i v) f post := by
  unfold rowN
  rw [List.setIfInBounds_toArray, List.set_append_left _ _ hi]
theorem rowN_set_post (pre post : List Value) (f : Nat → Nat) (i : Nat) (v : Value) : (rowN pre f post).setIfInBounds (pre.length + 256 + i) v = rowN pre f (post.set i v) := by
  unfold rowN
  rw [List.setIfInBounds_toArray, Nat.add_assoc, List.set_append_right _ _ (by omega), Nat.add_sub_cancel_left, List.set_append_right _ _ (by rw [midN_len]; omega), midN_len, Nat.add_sub_cancel_left]
theorem midN_one (f : Nat → Nat) : (midN f).all (·.oneCell') = true := by
  rw [List.all_eq_true]
  intro v hv
  obtain ⟨b, _, rfl⟩ := List.mem_map.1 hv
  rfl
theorem rowN_one {pre post : List Value} (f : Nat → Nat) (h1 : pre.all (·.oneCell') = true) (h2 : post.all (·.oneCell') = true) : (rowN pre f post).all (·.oneCell') = true := by
  unfold rowN
  rw [List.all_toArray, List.all_append, List.all_append, h1, h2, midN_one]; rfl
theorem rowN_ne (pre post : List Value) (f : Nat → Nat) : rowN pre f post ≠ #[] := fun e => by have := rowN_size pre post f; rw [e] at this; simp at this; omega

/-- The cells of an automaton. -/
def autA (nv : Value) (f : Nat → Nat) (last : Int) : Array Value := rowN [nv] f [.int .i64 last]
def zcA : Array Value := autA (.slice none 0 0) (fun _ => 0) 0
theorem autA_size (nv : Value) (f : Nat → Nat) (last : Int) : (autA nv f last).size = 258 := rowN_size _ _ _
theorem zcA_size : zcA.size = 258 := autA_size _ _ _
theorem zcA_ne : zcA ≠ #[] := rowN_ne _ _ _
theorem zvA (w : World) : (zeroValue 62).run Tryz.prog w = .ok (.agg zcA) w := by kernel_rfl
theorem autA_0 (nv : Value) (f : Nat → Nat) (last : Int) : (autA nv f last)[0]? = some nv := rowN_pre _ _ _ (by simp)
theorem autA_b (nv : Value) (f : Nat → Nat) (last : Int) {b : Nat} (h : b < 256) : (autA nv f last)[1 + b]? = some (.int .i64 ((f b : Nat) : Int)) := rowN_mid [nv] _ _ h
theorem autA_257 (nv : Value) (f : Nat → Nat) (last : Int) : (autA nv f last)[257]? = some (.int .i64 last) := rowN_post [nv] _ _ 0
theorem autA_set (nv : Value) (f : Nat → Nat) (last : Int) {b : Nat} (h : b < 256) (x : Nat) : (autA nv f last).setIfInBounds (1 + b) (.int .i64 ((x : Nat) : Int)) = autA nv (fun c => if c = b then x else f c) last := rowN_set [nv] _ _ h x
theorem autA_one (a : Option Addr) (n c : Nat) (f : Nat → Nat) (last : Int) : (autA (.slice a n c) f last).all (·.oneCell') = true := rowN_one f rfl rfl

/-- An automaton, as a value and in memory. -/
def AutV (w : World) (v : Value) (p : Part) : Prop := ∃ nv, v = .agg (autA nv (fitP p) (p.last : Int)) ∧ NRow w 0 nv p.next
theorem AutV.below {w w' : World} {v : Value} {p : Part} (h : AutV w v p) (hb : Below w.heap.size w w') : AutV w' v p := by
  obtain ⟨nv, h1, h2⟩ := h
  exact ⟨nv, h1, h2.below hb⟩
def AutB (w : World) (g : Nat) (p : Part) : Prop := ∃ nv, w.heap[g]? = some (.cells (autA nv (fitP p) (p.last : Int)) 62 (0, 0)) ∧ NRow w 0 nv p.next
theorem AutB.below {w w' : World} {g : Nat} {p : Part} (h : AutB w g p) (hb : Below w.heap.size w w') : AutB w' g p := by
  obtain ⟨nv, h1, h2⟩ := h
  exact ⟨nv, by rw [hb.block _ (Array.getElem?_eq_some_iff.1 h1).1]; exact h1, h2.below hb⟩
theorem AutB.drew {w : World} {g : Nat} {p : Part} (h : AutB w g p) : AutB w.drew g p := h
theorem fitP_lt {p : Part} (hp : p.Ok) (hl : p.next.length ≤ 50) (b : Nat) : fitP p b < top := Nat.lt_trans (fitN_lt _ _ _) (pow_top (by rw [hp.1]; omega))
theorem reachP_lt {p : Part} (hp : p.Ok) (hl : p.next.length ≤ 50) (x : Nat) : reachP p x < top := Nat.lt_of_lt_of_le (reachN_lt hp.2.2.2 x _) (Nat.pow_le_pow_right (n := 2) (by omega) (show p.next.length ≤ 60 by omega))

end Go.Proofs.YtfooclcjehpcfaaGreat
namespace Go.Proofs.YtfooclcjehpcfaaGreat
open Go.RowKit
attribute [local go_sem ↓] Go.wp_at_zero Go.wp_at_succ

set_option maxHeartbeats 1000000 in
theorem reach_any (w : World) (g : Nat) (p : Part) (x : Nat) (h : AutB w g p) (hp : p.Ok) (hl : p.next.length ≤ 50) (hx : x < top) :
    Calls Tryz.prog 36 #[.pointer (some ⟨g, 0, none⟩), .int .i64 (x : Int)] w fun e w' => e = .returned (.int .i64 ((reachP p x : Nat) : Int)) ∧ w' = w := by
  obtain ⟨nv, h1, h2⟩ := h
  obtain ⟨na, nc, rfl⟩ := h2.form
  have H2 := hide h2
  have hs := hp.small hl
  have HX := hide hx
  have HN := hide hs.2.2.2
  have HR := hide (fun k => reachN_lt (next := p.next) hp.2.2.2 x k)
  have HL := hide hl
  have hlI : (p.next.length : Int) ≤ 50 := by omega
  have HTOP : Hid (2 ^ p.next.length ≤ top) := Nat.pow_le_pow_right (n := 2) (by omega) (show p.next.length ≤ 60 by omega)
  have y0 : w.cell? ⟨g, 0, none⟩ = some (.slice na p.next.length nc) := by rw [cell_of_row _ _ _ _ _ _ h1, autA_0]
  have HP : Hid (reachP p x = reachN p.next x p.next.length) := rfl
  clear h1 h2 hs hp hl hx
  go_enter Tryz.func36, Tryz.ntmps36
  go_wp2
  go_loopw [5, 6] (fun rx ix wr => ∃ k r : Nat, ix = .int .i64 (k : Int) ∧ rx = .int .i64 (r : Int) ∧ k ≤ p.next.length ∧ wr = w ∧ Hid (r = reachN p.next x k)) (fun _ ix _ => p.next.length - (intOf ix).toNat)
  case atStart => exact ⟨0, 0, rfl, rfl, Nat.zero_le _, rfl, rfl⟩
  case round =>
    rename World => wr
    obtain ⟨k, r, rfl, rfl, hk, rfl, HH⟩ := hrel
    by_cases hlt : k < p.next.length
    · obtain ⟨g2, cap, he, hc⟩ := (unhide H2).at hlt
      simp only [Value.slice.injEq, true_and] at he
      obtain ⟨rfl, rfl⟩ := he
      have hlt' : (k : Int) < (p.next.length : Int) := by omega
      have hcall := has_any x k wr (by have := unhide HL; omega) (unhide HX)
      have hn : p.next.getD k 0 < top := by rw [List.getD_eq_getElem?_getD, List.getElem?_eq_getElem hlt]; exact unhide HN _ (List.getElem_mem _)
      have hr : r < top := by rw [unhide HH]; exact Nat.lt_of_lt_of_le (unhide HR k) (unhide HTOP)
      have HE := hide (i64_or_nat r (p.next.getD k 0) hr hn)
      have HSN : Hid (reachN p.next x (k + 1) = if x.testBit k then reachN p.next x k ||| p.next.getD k 0 else reachN p.next x k) := rfl
      clear hn hr
      generalize p.next.getD k 0 = y at *
      by_cases ht : x.testBit k = true
      · rw [ht] at hcall
        have HC := hide hcall
        have HT := hide ht
        clear hcall hlt ht
        go_wp2_with (go_at_call 61; refine (unhide HC).mono ?_; rintro e w' ⟨rfl, rfl⟩)
        go_roundw
        case rel =>
          refine ⟨k + 1, r ||| y, by go_num, ?_, by omega, by trivial, ?_⟩
          · first | rfl | rw [unhide HE]
          · show _ = _
            rw [unhide HSN, if_pos (unhide HT), unhide HH]
        case measure => simp [intOf]; omega
      · have ht' : x.testBit k = false := by simpa using ht
        rw [ht'] at hcall
        have HC := hide hcall
        have HT := hide ht
        clear hcall hlt ht ht'
        go_wp2_with (go_at_call 61; refine (unhide HC).mono ?_; rintro e w' ⟨rfl, rfl⟩)
        go_roundw
        case rel =>
          refine ⟨k + 1, r, by go_num, rfl, by omega, by trivial, ?_⟩
          show _ = _
          rw [unhide HSN, if_neg (unhide HT), unhide HH]
        case measure => simp [intOf]; omega
    · have hk2 : k = p.next.length := by omega
      subst hk2
      go_wp2
      go_ret
      exact ⟨ret_int (by rw [unhide HP, unhide HH]), rfl⟩

theorem grants_any (w : World) (g : Nat) (p : Part) (x : Nat) (h : AutB w g p) (hp : p.Ok) (hl : p.next.length ≤ 50) (hx : x < top) :
    Calls Tryz.prog 35 #[.pointer (some ⟨g, 0, none⟩), .int .i64 (x : Int)] w fun e w' => e = .returned (.bool (decide (x &&& p.last ≠ 0))) ∧ w' = w := by
  obtain ⟨nv, h1, h2⟩ := h
  have y0 : w.cell? ⟨g, 257, none⟩ = some (.int .i64 (p.last : Int)) := by rw [cell_of_row _ _ _ _ _ _ h1, autA_257]
  have e1 := i64_and_nat x p.last hx (hp.small hl).2.2.1
  clear h1 h2 hp hl hx
  go_enter Tryz.func35, Tryz.ntmps35
  go_wp2
  go_ret
  refine ⟨?_, rfl⟩
  generalize x &&& p.last = n
  by_cases h : n = 0
  · subst h; rfl
  · have h1 : ((n : Int) != 0) = true := by simp; omega
    simp [h1, h]

end Go.Proofs.YtfooclcjehpcfaaGreat
namespace Go.Proofs.YtfooclcjehpcfaaGreat
open Go.RowKit

theorem own_set_any {w : World} {B e z : Nat} {v : Value} {n : Nat} {xs : List Value} {b : Nat} {cs : Array Value} {ty : TypeId} {fr : Nat × Nat} (h : w.ownsRow B e z v n xs) (hb : w.heap[b]? = some (.cells cs ty fr)) (hne : e ≠ ty) (o : Nat) (u : Value) : (w.setCell ⟨b, o, none⟩ u).ownsRow B e z v n xs := by
  refine ⟨h.1, ?_⟩
  rcases h.2 with hn | ⟨g, cap, cur, rfl, h1, hg, rest⟩
  · exact .inl hn
  · refine .inr ⟨g, cap, cur, rfl, h1, ?_, rest⟩
    have : g ≠ b := by
      rintro rfl
      rw [hg] at hb
      simp at hb
      exact hne hb.2.1
    rw [Below.heap_setCell _ _ _ _ (by simpa using this)]; exact hg

theorem setRow_alloc (w : World) (A B : Array Value) (t : TypeId) : (w.alloc (Obj.cells A t)).setRow w.heap.size B = w.alloc (Obj.cells B t) := by
  simp only [World.setRow, World.alloc]
  congr 1
  apply Array.ext_getElem?
  intro i
  rw [Array.getElem?_modify, Array.getElem?_push, Array.getElem?_push]
  by_cases h : i = w.heap.size
  · subst h; simp
  · rw [if_neg (fun e => h e.symm), if_neg h, if_neg h]
theorem autA_build (nv : Value) (c : Int) : (zcA.setIfInBounds 0 nv).setIfInBounds 257 (.int .i64 c) = autA nv (fun _ => 0) c := by
  unfold zcA autA
  rw [rowN_set_pre _ _ _ (by simp)]
  exact rowN_set_post [nv] _ _ 0 _
theorem wp_alloc_set (w : World) (d : Option Tmp) (ty : TypeId) (pos : String) (af : Array Edge) (gd : Option (Nat × Bool)) (a : Act) (K : Act → World → Prop) (Q : Exit → Act → World → Prop) :
    Oper.wp Tryz.prog { dst := d, op := .alloc 90, type := ty, pos := pos, after := af, guard := gd } a w K Q = K (a.put d (.pointer (some ⟨w.heap.size, 0, none⟩))) (w.alloc (Obj.cells zcS 90)) := by
  unfold Oper.wp execOp
  simp only [Instr.alloc, newVar, Sem.run_bind, Sem.run_pure, Result.andThen_ok, zvS]
  simp [go_sem]
/-- A value of 256 cells. -/
def Is256 (v : Value) : Prop := v = .agg v.cells ∧ v.cells.size = 256 ∧ v.cells.all (·.oneCell') = true
theorem is256_set (f : Nat → Bool) : Is256 (.agg (setA f)) := by
  unfold Is256
  rw [cells_agg]
  exact And.intro rfl (And.intro (size_setA f) (setA_one f))
theorem wp_store_set (w : World) (g : Nat) (hg : w.heap[g]? = some (.cells zcS 90 (0, 0))) (x y : Operand) (ty : TypeId) (pos : String) (af : Array Edge) (gd : Option (Nat × Bool)) (a : Act) (K : Act → World → Prop) (Q : Exit → Act → World → Prop)
    (hx : a.eval x = .pointer (some ⟨g, 0, none⟩)) (hy : Is256 (a.eval y)) :
    Oper.wp Tryz.prog { dst := none, op := .store 90 x y, type := ty, pos := pos, after := af, guard := gd } a w K Q = K (a.put none undef) (w.setRow g (a.eval y).cells) := by
  obtain ⟨hy, hs, h1⟩ := hy
  have hi : (Tryz.prog.info? 90).map (·.size) = some (a.eval y).cells.size := by rw [hs]; kernel_rfl
  have hr := run_storeVar_row (P := Tryz.prog) w g _ 90 zcS (a.eval y).cells hg hi (by rw [zcS_size, hs]) h1
  rw [← hy] at hr
  unfold Oper.wp execOp
  simp only [hx, Instr.storeAt, Instr.sureAddr, Sem.run_bind, Sem.run_pure, Result.andThen_ok, hr]
  rfl
theorem wp_store_new (w : World) (x y : Operand) (ty : TypeId) (pos : String) (af : Array Edge) (gd : Option (Nat × Bool)) (a : Act) (K : Act → World → Prop) (Q : Exit → Act → World → Prop)
    (hx : a.eval x = .pointer (some ⟨w.heap.size, 0, none⟩)) (hy : Is256 (a.eval y)) :
    Oper.wp Tryz.prog { dst := none, op := .store 90 x y, type := ty, pos := pos, after := af, guard := gd } a (w.alloc (Obj.cells zcS 90)) K Q = K (a.put none undef) (w.alloc (Obj.cells (a.eval y).cells 90)) := by
  rw [wp_store_set _ w.heap.size (heap_alloc_new _ _) x y ty pos af gd a K Q hx hy, setRow_alloc]
def ptrBlock : Value → Nat
  | .pointer (some a) => a.block
  | _ => 0
theorem ptrBlock_at (b o : Nat) : ptrBlock (.pointer (some ⟨b, o, none⟩)) = b := rfl
theorem wp_store_old (w : World) (x y : Operand) (ty : TypeId) (pos : String) (af : Array Edge) (gd : Option (Nat × Bool)) (a : Act) (K : Act → World → Prop) (Q : Exit → Act → World → Prop)
    (hx : a.eval x = .pointer (some ⟨ptrBlock (a.eval x), 0, none⟩)) (hg : w.heap[ptrBlock (a.eval x)]? = some (.cells zcS 90 (0, 0))) (hy : Is256 (a.eval y)) :
    Oper.wp Tryz.prog { dst := none, op := .store 90 x y, type := ty, pos := pos, after := af, guard := gd } a w K Q = K (a.put none undef) (w.setRow (ptrBlock (a.eval x)) (a.eval y).cells) :=
  wp_store_set w _ hg x y ty pos af gd a K Q hx hy
theorem own_setRow {w : World} {B e z : Nat} {v : Value} {n : Nat} {xs : List Value} {b : Nat} (h : w.ownsRow B e z v n xs) (hne : ∀ q, v.ownBlock = some q → q ≠ b) (cs : Array Value) : (w.setRow b cs).ownsRow B e z v n xs := by
  refine ⟨by simpa using h.1, ?_⟩
  rcases h.2 with hn | ⟨g, cap, cur, rfl, h1, hg, rest⟩
  · exact .inl hn
  · refine .inr ⟨g, cap, cur, rfl, h1, ?_, rest⟩
    rw [setRow_other _ _ _ _ (hne g rfl)]; exact hg
theorem own_not_at {w : World} {B e z : Nat} {v : Value} {n : Nat} {xs : List Value} {b : Nat} {cs : Array Value} {ty : TypeId} {fr : Nat × Nat} (h : w.ownsRow B e z v n xs) (hq : v.ownBlock = some b) (hb : w.heap[b]? = some (.cells cs ty fr)) (hne : e ≠ ty) : False := by
  rcases h.2 with ⟨rfl, _⟩ | ⟨g, cap, cur, rfl, h1, hg, rest⟩
  · cases hq
  · cases hq
    rw [hg] at hb
    simp at hb
    exact hne hb.2.1
/-- In the midst of Build, before the loop. -/
structure Bu (w wr : World) (g3 : Nat) (T P : Array Value) : Prop where
  below : Below w.heap.size w wr
  b0 : wr.heap[w.heap.size]? = some (.cells T 58 (0, 0))
  b1 : wr.heap[w.heap.size + 1]? = some (.cells zcA 62 (0, 0))
  b3 : wr.heap[g3]? = some (.cells P 85 (0, 0))
  h3 : w.heap.size + 1 < g3
theorem Bu.lt {w wr : World} {g3 : Nat} {T P : Array Value} (h : Bu w wr g3 T P) : g3 < wr.heap.size := (Array.getElem?_eq_some_iff.1 h.b3).1
theorem Bu.grown {w wr w1 : World} {g3 : Nat} {T P : Array Value} {row : Option Nat} (h : Bu w wr g3 T P) (hg : wr.grownBy w1 row) (hr : ∀ k, row = some k → g3 < k) : Bu w w1 g3 T P := by
  have hl := h.lt
  have h3 := h.h3
  refine ⟨h.below.grown hg h.below.size (fun k hk => by have := hr k hk; omega), ?_, ?_, ?_, h3⟩
  · rw [hg.block _ (by omega) (fun e => by have := hr _ e.symm; omega)]; exact h.b0
  · rw [hg.block _ (by omega) (fun e => by have := hr _ e.symm; omega)]; exact h.b1
  · rw [hg.block _ (by omega) (fun e => by have := hr _ e.symm; omega)]; exact h.b3
theorem Bu.next {w wr w1 : World} {g3 : Nat} {T P : Array Value} (h : Bu w wr g3 T P) (hb : Below wr.heap.size wr w1) : Bu w w1 g3 T P :=
  h.grown (grownBy_of_below hb none) (fun _ h => by cases h)
theorem Bu.drew {w wr : World} {g3 : Nat} {T P : Array Value} (h : Bu w wr g3 T P) : Bu w wr.drew g3 T P := ⟨h.below.drew, h.b0, h.b1, h.b3, h.h3⟩
theorem Bu.put {w wr : World} {g3 : Nat} {T : Array Value} {c0 c1 c2 c3 c4 : Value} (h : Bu w wr g3 T #[c0, c1, c2, c3, c4]) (u0 u1 u2 u3 u4 : Value) : Bu w (set5 wr g3 u0 u1 u2 u3 u4) g3 T #[u0, u1, u2, u3, u4] :=
  ⟨set5_below h.below (by have := h.h3; omega), (set5_other (by have := h.h3; omega)).trans h.b0, (set5_other (by have := h.h3; omega)).trans h.b1, set5_same h.b3, h.h3⟩
theorem Bu.set {w wr : World} {g3 : Nat} {T P : Array Value} (h : Bu w wr g3 T P) {c : Nat} (hc : g3 < c) (o : Nat) (v : Value) : Bu w (wr.setCell ⟨c, o, none⟩ v) g3 T P := by
  have h3 := h.h3
  refine ⟨h.below.setCell (by simp; omega) _, ?_, ?_, ?_, h3⟩
  · rw [Below.heap_setCell _ _ _ _ (by simp; omega)]; exact h.b0
  · rw [Below.heap_setCell _ _ _ _ (by simp; omega)]; exact h.b1
  · rw [Below.heap_setCell _ _ _ _ (by simp; omega)]; exact h.b3
theorem Bu.start {w w1 : World} {T P : Array Value} (h0 : Below (w.heap.size + 2) ((w.alloc (.cells T 58)).alloc (.cells zcA 62)) w1) : Bu w (w1.alloc (.cells P 85)) w1.heap.size T P := by
  have s0 : ((w.alloc (.cells T 58)).alloc (.cells zcA 62)).heap.size = w.heap.size + 2 := by simp
  have s1 := h0.size
  have hb : Below w.heap.size w w1 := (((Below.refl _ _).alloc (Nat.le_refl _) _).alloc (by simp) _).trans (h0.mono (by omega))
  refine ⟨hb.alloc hb.size _, ?_, ?_, heap_alloc_new _ _, by omega⟩
  · rw [Below.heap_alloc _ _ _ (by omega), h0.block _ (by omega)]; exact heap_alloc2_old _ _ _
  · rw [Below.heap_alloc _ _ _ (by omega), h0.block _ (by omega)]; exact heap_alloc2_new _ _ _

/-- In the loop of Build. -/
structure BuL (w w4 : World) (g3 g4 : Nat) (T P : Array Value) (nv zv : Value) (last : Int) (xs : List Nat) (zs : List Int) (F : Nat → Nat) : Prop where
  bu : Bu w w4 g3 T P
  b4 : w4.heap[g4]? = some (.cells (autA nv F last) 62 (0, 0))
  h4 : g3 < g4
  nr : NRow w4 0 nv xs
  zr : ZRow w4 0 zv zs
section bul
variable {w w4 w5 : World} {g3 g4 : Nat} {T P : Array Value} {nv zv : Value} {last : Int} {xs : List Nat} {zs : List Int} {F : Nat → Nat}
theorem BuL.lt (h : BuL w w4 g3 g4 T P nv zv last xs zs F) : g4 < w4.heap.size := (Array.getElem?_eq_some_iff.1 h.b4).1
theorem BuL.next (h : BuL w w4 g3 g4 T P nv zv last xs zs F) (hb : Below w4.heap.size w4 w5) : BuL w w5 g3 g4 T P nv zv last xs zs F :=
  ⟨h.bu.next hb, (hb.block _ h.lt).trans h.b4, h.h4, h.nr.below hb, h.zr.below hb⟩
theorem BuL.drew (h : BuL w w4 g3 g4 T P nv zv last xs zs F) : BuL w w4.drew g3 g4 T P nv zv last xs zs F :=
  ⟨h.bu.drew, h.b4, h.h4, h.nr, h.zr⟩
theorem BuL.step (h : BuL w w4 g3 g4 T P nv zv last xs zs F) {b : Nat} (hb : b < 256) (x : Nat) : BuL w (w4.setCell ⟨g4, 1 + b, none⟩ (.int .i64 (x : Int))) g3 g4 T P nv zv last xs zs (fun c => if c = b then x else F c) :=
  ⟨h.bu.set h.h4 _ _, by rw [heap_setCell_same _ _ _ _ _ _ h.b4, autA_set _ _ _ hb], h.h4, own_set_any h.nr h.b4 (by decide) _ _, own_set_any h.zr h.b4 (by decide) _ _⟩
theorem BuL.row (h : BuL w w4 g3 g4 T P nv zv last xs zs F) {g6 : Nat} (h6 : g4 < g6) (cs : Array Value) (hx : ∀ q, nv.ownBlock = some q → q ≠ g6) (hz : ∀ q, zv.ownBlock = some q → q ≠ g6) : BuL w (w4.setRow g6 cs) g3 g4 T P nv zv last xs zs F := by
  have h3 := h.h4
  have h2 := h.bu.h3
  refine ⟨⟨below_setRow h.bu.below (by omega) cs, ?_, ?_, ?_, h2⟩, ?_, h.h4, ?_, ?_⟩
  · rw [setRow_other _ _ _ _ (by omega)]; exact h.bu.b0
  · rw [setRow_other _ _ _ _ (by omega)]; exact h.bu.b1
  · rw [setRow_other _ _ _ _ (by omega)]; exact h.bu.b3
  · rw [setRow_other _ _ _ _ (by omega)]; exact h.b4
  · exact own_setRow h.nr hx cs
  · exact own_setRow h.zr hz cs
theorem BuL.congr (h : BuL w w4 g3 g4 T P nv zv last xs zs F) {G : Nat → Nat} (hg : ∀ b, b < 256 → F b = G b) : BuL w w4 g3 g4 T P nv zv last xs zs G :=
  ⟨h.bu, by rw [h.b4, autA, autA, rowN_congr hg], h.h4, h.nr, h.zr⟩
theorem BuL.fit (h : BuL w w4 g3 g4 T P nv zv last xs zs F) {b : Nat} (hb : b < 256) : w4.cell? ⟨g4, 1 + b, none⟩ = some (.int .i64 ((F b : Nat) : Int)) := by rw [cell_of_row _ _ _ _ _ _ h.b4, autA_b _ _ _ hb]
end bul
/-- The spots that were found, in the midst of a row. -/
def fitTo (sets : List (Nat → Bool)) (k b : Nat) : Nat → Nat := fun c => if c < b then fitN sets c (k + 1) else fitN sets c k
theorem fitTo_zero (sets : List (Nat → Bool)) (k c : Nat) : fitN sets c k = fitTo sets k 0 c := by unfold fitTo; rw [if_neg (by omega)]
theorem fitTo_all (sets : List (Nat → Bool)) (k c : Nat) (h : c < 256) : fitTo sets k 256 c = fitN sets c (k + 1) := by unfold fitTo; rw [if_pos h]
theorem fitTo_yes {sets : List (Nat → Bool)} {k b : Nat} (h : setAtN sets k b = true) (c : Nat) : (if c = b then fitTo sets k b b ||| 2 ^ k else fitTo sets k b c) = fitTo sets k (b + 1) c := by
  unfold fitTo
  by_cases hc : c = b
  · subst hc; rw [if_pos rfl, if_neg (by omega), if_pos (by omega), fitN, if_pos h]
  · rw [if_neg hc]
    by_cases h2 : c < b
    · rw [if_pos h2, if_pos (by omega)]
    · rw [if_neg h2, if_neg (by omega)]
theorem fitTo_no {sets : List (Nat → Bool)} {k b : Nat} (h : setAtN sets k b = false) (c : Nat) : fitTo sets k b c = fitTo sets k (b + 1) c := by
  unfold fitTo
  by_cases hc : c = b
  · subst hc; rw [if_neg (by omega), if_pos (by omega), fitN, if_neg (by rw [h]; decide)]
  · by_cases h2 : c < b
    · rw [if_pos h2, if_pos (by omega)]
    · rw [if_neg h2, if_neg (by omega)]
theorem fitTo_lt (sets : List (Nat → Bool)) (k b c : Nat) (h : k < 59) : fitTo sets k b c < top := by
  unfold fitTo
  split
  · exact Nat.lt_trans (fitN_lt _ _ _) (pow_top (by omega))
  · exact Nat.lt_trans (fitN_lt _ _ _) (pow_top (by omega))
theorem setAtN_zs {fs : List (Nat → Bool)} {zs : List Int} {k : Nat} (hk : k < zs.length) (b : Nat) : setAtN (zs.map (setOf fs)) k b = setOf fs (zs.getD k 0) b := by
  unfold setAtN
  rw [List.getD_eq_getElem?_getD, List.getElem?_map, List.getD_eq_getElem?_getD, List.getElem?_eq_getElem hk]; rfl

theorem tree_cells {w : World} {b : Nat} {v0 v1 : Value} {e : TypeId} (h : w.heap[b]? = some (.cells #[v0, v1] e (0, 0))) : w.cell? ⟨b, 0, none⟩ = some v0 ∧ w.cell? ⟨b, 1, none⟩ = some v1 :=
  ⟨by rw [cell_of_row _ _ _ _ _ _ h]; rfl, by rw [cell_of_row _ _ _ _ _ _ h]; rfl⟩
end Go.Proofs.YtfooclcjehpcfaaGreat
namespace Go.Proofs.YtfooclcjehpcfaaGreat
open Go.RowKit

structure Fr (S : List Nat) (w w' : World) : Prop where
  os : w'.os = w.os
  tape : w'.tape = w.tape
  output : w'.output = w.output
  size : w.heap.size ≤ w'.heap.size
  block : ∀ k, k < w.heap.size → k ∉ S → w'.heap[k]? = w.heap[k]?
theorem Fr.refl (S : List Nat) (w : World) : Fr S w w := ⟨rfl, rfl, rfl, Nat.le_refl _, fun _ _ _ => rfl⟩
theorem Fr.and {S S' : List Nat} {a b c : World} (h : Fr S a b) (k : Fr S' b c) (hs : ∀ x ∈ S', x ∈ S ∨ a.heap.size ≤ x) : Fr S a c :=
  ⟨k.os.trans h.os, k.tape.trans h.tape, k.output.trans h.output, Nat.le_trans h.size k.size, fun i hi hn => (k.block i (Nat.lt_of_lt_of_le hi h.size) (fun hm => (hs i hm).elim hn (by omega))).trans (h.block i hi hn)⟩
theorem Fr.mono {S S' : List Nat} {w w' : World} (h : Fr S w w') (hs : ∀ x ∈ S, x ∈ S') : Fr S' w w' := ⟨h.os, h.tape, h.output, h.size, fun k hk hn => h.block k hk (fun hm => hn (hs k hm))⟩
theorem Fr.drew {S : List Nat} {w w' : World} (h : Fr S w w') : Fr S w w'.drew := ⟨h.os, h.tape, h.output, h.size, h.block⟩
theorem Fr.ofBelow {w w' : World} (h : Below w.heap.size w w') : Fr [] w w' := ⟨h.os, h.tape, h.output, h.size, fun k hk _ => h.block k hk⟩
theorem Fr.ofGrown {w w' : World} {row : Option Nat} (h : w.grownBy w' row) : Fr row.toList w w' := ⟨h.os, h.tape, h.output, h.size, fun k hk hn => h.block k hk (fun e => hn (by rw [← e]; simp))⟩
theorem Fr.ofAlloc (w : World) (o : Obj) : Fr [] w (w.alloc o) := Fr.ofBelow ((Below.refl _ _).alloc (Nat.le_refl _) _)
theorem Fr.ofSet (w : World) (b o : Nat) (u : Value) : Fr [b] w (w.setCell ⟨b, o, none⟩ u) := ⟨rfl, rfl, rfl, by simp [World.setCell], fun k _ hn => Below.heap_setCell _ _ _ _ (by simpa using hn)⟩
theorem Fr.ofRow (w : World) (b : Nat) (cs : Array Value) : Fr [b] w (w.setRow b cs) := ⟨rfl, rfl, rfl, by simp, fun k _ hn => setRow_other _ _ _ _ (by simpa using hn)⟩
theorem Fr.next {S : List Nat} {w w1 w2 : World} (h : Fr S w w1) (hb : Below w1.heap.size w1 w2) : Fr S w w2 := h.and (Fr.ofBelow hb) (fun x hx => by cases hx)
theorem Fr.alloc {S : List Nat} {w w1 : World} (h : Fr S w w1) (o : Obj) : Fr S w (w1.alloc o) := h.and (Fr.ofAlloc w1 o) (fun x hx => by cases hx)
theorem Fr.set {S : List Nat} {w w1 : World} (h : Fr S w w1) {b : Nat} (hb : b ∈ S ∨ w.heap.size ≤ b) (o : Nat) (u : Value) : Fr S w (w1.setCell ⟨b, o, none⟩ u) := h.and (Fr.ofSet w1 b o u) (fun x hx => by simp at hx; subst hx; exact hb)
theorem Fr.row {S : List Nat} {w w1 : World} (h : Fr S w w1) {b : Nat} (hb : b ∈ S ∨ w.heap.size ≤ b) (cs : Array Value) : Fr S w (w1.setRow b cs) := h.and (Fr.ofRow w1 b cs) (fun x hx => by simp at hx; subst hx; exact hb)
theorem Fr.grown {S : List Nat} {w w1 w2 : World} {row : Option Nat} (h : Fr S w w1) (hg : w1.grownBy w2 row) (hr : ∀ k, row = some k → k ∈ S ∨ w.heap.size ≤ k) : Fr S w w2 := h.and (Fr.ofGrown hg) (fun x hx => hr x (by simpa using hx))
theorem Fr.below {S : List Nat} {w w' : World} (h : Fr S w w') (hs : ∀ x ∈ S, w.heap.size ≤ x) : Below w.heap.size w w' := ⟨h.os, h.tape, h.output, h.size, fun k hk => h.block k hk (fun hm => by have := hs k hm; omega)⟩
theorem Fr.at {S : List Nat} {w w' : World} (h : Fr S w w') {b : Nat} {o : Obj} (hb : w.heap[b]? = some o) (hn : b ∉ S) : w'.heap[b]? = some o := by
  rw [h.block b (Array.getElem?_eq_some_iff.1 hb).1 hn]; exact hb
theorem Fr.own {S : List Nat} {w w' : World} (h : Fr S w w') {B e z : Nat} {v : Value} {n : Nat} {xs : List Value} (ho : w.ownsRow B e z v n xs) (hn : ∀ q, v.ownBlock = some q → q ∉ S) : w'.ownsRow B e z v n xs := by
  refine ⟨ho.1, ?_⟩
  rcases ho.2 with hl | ⟨g, cap, cur, rfl, h1, hg, rest⟩
  · exact .inl hl
  · exact .inr ⟨g, cap, cur, rfl, h1, h.at hg (hn g rfl), rest⟩
theorem Fr.aut {S : List Nat} {w w' : World} (h : Fr S w w') {g : Nat} {p : Part} (ha : AutB w g p) (hg : g ∉ S) (hn : ∀ nv q, w.heap[g]? = some (.cells (autA nv (fitP p) (p.last : Int)) 62 (0, 0)) → nv.ownBlock = some q → q ∉ S) : AutB w' g p := by
  obtain ⟨nv, h1, h2⟩ := ha
  exact ⟨nv, h.at h1 hg, h.own h2 (fun q hq => hn nv q h1 hq)⟩
/-- A row lies not at a block of another kind. -/
theorem own_off {w : World} {B e z : Nat} {v : Value} {n : Nat} {xs : List Value} (h : w.ownsRow B e z v n xs) {b : Nat} {cs : Array Value} {ty : TypeId} {fr : Nat × Nat} (hb : w.heap[b]? = some (.cells cs ty fr)) (hne : e ≠ ty) : ∀ q, v.ownBlock = some q → q ≠ b := fun q hq e => by
  subst e; exact own_not_at h hq hb hne

/-- The cells of a graph. -/
def graphA (lv : Value) (F : Nat → Nat) (gv nv : Value) : Array Value := rowN [lv] F [gv, nv]
def zcG : Array Value := graphA (.slice none 0 0) (fun _ => 0) (.slice none 0 0) (.slice none 0 0)
theorem graphA_size (lv gv nv : Value) (F : Nat → Nat) : (graphA lv F gv nv).size = 259 := rowN_size _ _ _
theorem zcG_size : zcG.size = 259 := graphA_size _ _ _ _
theorem zcG_ne : zcG ≠ #[] := rowN_ne _ _ _
theorem zvG (w : World) : (zeroValue 65).run Tryz.prog w = .ok (.agg zcG) w := by kernel_rfl
theorem graphA_0 (lv gv nv : Value) (F : Nat → Nat) : (graphA lv F gv nv)[0]? = some lv := rowN_pre _ _ _ (by simp)
theorem graphA_b (lv gv nv : Value) (F : Nat → Nat) {b : Nat} (h : b < 256) : (graphA lv F gv nv)[1 + b]? = some (.int .i64 ((F b : Nat) : Int)) := rowN_mid [lv] _ _ h
theorem graphA_257 (lv gv nv : Value) (F : Nat → Nat) : (graphA lv F gv nv)[257]? = some gv := rowN_post [lv] _ _ 0
theorem graphA_258 (lv gv nv : Value) (F : Nat → Nat) : (graphA lv F gv nv)[258]? = some nv := rowN_post [lv] _ _ 1
theorem graphA_set (lv gv nv : Value) (F : Nat → Nat) {b : Nat} (h : b < 256) (x : Nat) : (graphA lv F gv nv).setIfInBounds (1 + b) (.int .i64 ((x : Nat) : Int)) = graphA lv (fun c => if c = b then x else F c) gv nv := rowN_set [lv] _ _ h x
theorem graphA_set0 (lv gv nv : Value) (F : Nat → Nat) (v : Value) : (graphA lv F gv nv).setIfInBounds 0 v = graphA v F gv nv := rowN_set_pre [lv] _ _ (by simp) v
theorem graphA_set257 (lv gv nv : Value) (F : Nat → Nat) (v : Value) : (graphA lv F gv nv).setIfInBounds 257 v = graphA lv F v nv := rowN_set_post [lv] _ _ 0 v
theorem graphA_set258 (lv gv nv : Value) (F : Nat → Nat) (v : Value) : (graphA lv F gv nv).setIfInBounds 258 v = graphA lv F gv v := rowN_set_post [lv] _ _ 1 v
theorem graphA_one (a b c : Option Addr) (n1 n2 n3 c1 c2 c3 : Nat) (F : Nat → Nat) : (graphA (.slice a n1 c1) F (.slice b n2 c2) (.slice c n3 c3)).all (·.oneCell') = true := rowN_one F rfl rfl

end Go.Proofs.YtfooclcjehpcfaaGreat
