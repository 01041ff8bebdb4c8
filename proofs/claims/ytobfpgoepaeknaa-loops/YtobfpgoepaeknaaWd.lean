/-
  Parts: beside.
-/
import Derived.Test.YtobfpgoepaeknaaT08
namespace Go.Proofs.Ytobfpgoepaeknaa
open Go.RowKit
attribute [local go_sem ↓] Go.wp_at_zero Go.wp_at_succ

def partA (p : Part) (nv sv : Value) : Array Value := #[.bool p.empty, .int .i64 (p.first : Int), .int .i64 (p.last : Int), nv, sv]
def zeroPart : Array Value := #[.bool false, .int .i64 0, .int .i64 0, .slice none 0 0, .slice none 0 0]

/-- In the midst of beside: the two parts, the answer's room, and both. -/
structure Bs (w wr : World) (A B : Array Value) (e : Bool) (f l : Int) (nv sv : Value) : Prop where
  below : Below w.heap.size w wr
  b0 : wr.heap[w.heap.size]? = some (.cells A 80 (0, 0))
  b1 : wr.heap[w.heap.size + 1]? = some (.cells B 80 (0, 0))
  b2 : wr.heap[w.heap.size + 1 + 1]? = some (.cells zeroPart 80 (0, 0))
  b3 : wr.heap[w.heap.size + 1 + 1 + 1]? = some (.cells #[.bool e, .int .i64 f, .int .i64 l, nv, sv] 80 (0, 0))
theorem Bs.lt {w wr : World} {A B : Array Value} {e : Bool} {f l : Int} {nv sv : Value} (h : Bs w wr A B e f l nv sv) : w.heap.size + 1 + 1 + 1 < wr.heap.size := (Array.getElem?_eq_some_iff.1 h.b3).1
theorem Bs.start (w : World) (A B : Array Value) (e : Bool) (f l : Int) (nv sv : Value) :
    Bs w ((((w.alloc (.cells A 80)).alloc (.cells B 80)).alloc (.cells zeroPart 80)).alloc (.cells #[.bool e, .int .i64 f, .int .i64 l, nv, sv] 80)) A B e f l nv sv := by
  have s1 : (w.alloc (.cells A 80)).heap.size = w.heap.size + 1 := by simp
  have s2 : ((w.alloc (.cells A 80)).alloc (.cells B 80)).heap.size = w.heap.size + 1 + 1 := by simp
  have s3 : (((w.alloc (.cells A 80)).alloc (.cells B 80)).alloc (.cells zeroPart 80)).heap.size = w.heap.size + 1 + 1 + 1 := by simp
  refine ⟨((((Below.refl _ _).alloc (Nat.le_refl _) _).alloc (by simp) _).alloc (by simp; omega) _).alloc (by simp; omega) _, ?_, ?_, ?_, ?_⟩
  · rw [Below.heap_alloc _ _ _ (by omega), Below.heap_alloc _ _ _ (by omega), Below.heap_alloc _ _ _ (by omega)]; exact heap_alloc_new w _
  · rw [Below.heap_alloc _ _ _ (by omega), Below.heap_alloc _ _ _ (by omega), ← s1]; exact heap_alloc_new _ _
  · rw [Below.heap_alloc _ _ _ (by omega), ← s2]; exact heap_alloc_new _ _
  · rw [← s3]; exact heap_alloc_new _ _
theorem Bs.grown {w wr w1 : World} {A B : Array Value} {e : Bool} {f l : Int} {nv sv : Value} {row : Option Nat} (h : Bs w wr A B e f l nv sv) (hg : wr.grownBy w1 row) (hr : ∀ k, row = some k → w.heap.size + 4 ≤ k) : Bs w w1 A B e f l nv sv := by
  have hl := h.lt
  refine ⟨h.below.grown hg h.below.size (fun k hk => by have := hr k hk; omega), ?_, ?_, ?_, ?_⟩
  · rw [hg.block _ (by omega) (fun e => by have := hr _ e.symm; omega)]; exact h.b0
  · rw [hg.block _ (by omega) (fun e => by have := hr _ e.symm; omega)]; exact h.b1
  · rw [hg.block _ (by omega) (fun e => by have := hr _ e.symm; omega)]; exact h.b2
  · rw [hg.block _ (by omega) (fun e => by have := hr _ e.symm; omega)]; exact h.b3
theorem Bs.next {w wr w1 : World} {A B : Array Value} {e : Bool} {f l : Int} {nv sv : Value} (h : Bs w wr A B e f l nv sv) (hb : Below wr.heap.size wr w1) : Bs w w1 A B e f l nv sv :=
  h.grown (grownBy_of_below hb none) (fun _ h => by cases h)
theorem Bs.drew {w wr : World} {A B : Array Value} {e : Bool} {f l : Int} {nv sv : Value} (h : Bs w wr A B e f l nv sv) : Bs w wr.drew A B e f l nv sv := ⟨h.below.drew, h.b0, h.b1, h.b2, h.b3⟩
theorem Bs.putN {w wr : World} {A B : Array Value} {e : Bool} {f l : Int} {nv sv : Value} (h : Bs w wr A B e f l nv sv) (nv' : Value) : Bs w (wr.setCell ⟨w.heap.size + 1 + 1 + 1, 3, none⟩ nv') A B e f l nv' sv := by
  refine ⟨h.below.setCell (by simp; omega) _, ?_, ?_, ?_, ?_⟩
  · rw [Below.heap_setCell _ _ _ _ (by simp; omega)]; exact h.b0
  · rw [Below.heap_setCell _ _ _ _ (by simp)]; exact h.b1
  · rw [Below.heap_setCell _ _ _ _ (by simp)]; exact h.b2
  · simp only [World.setCell, Array.getElem?_modify, if_pos, h.b3]; simp
theorem Bs.putS {w wr : World} {A B : Array Value} {e : Bool} {f l : Int} {nv sv : Value} (h : Bs w wr A B e f l nv sv) (sv' : Value) : Bs w (wr.setCell ⟨w.heap.size + 1 + 1 + 1, 4, none⟩ sv') A B e f l nv sv' := by
  refine ⟨h.below.setCell (by simp; omega) _, ?_, ?_, ?_, ?_⟩
  · rw [Below.heap_setCell _ _ _ _ (by simp; omega)]; exact h.b0
  · rw [Below.heap_setCell _ _ _ _ (by simp)]; exact h.b1
  · rw [Below.heap_setCell _ _ _ _ (by simp)]; exact h.b2
  · simp only [World.setCell, Array.getElem?_modify, if_pos, h.b3]; simp

theorem NRow.of {w : World} {B : Nat} {v : Value} {xs : List Nat} {y : Nat} (h : w.ownsRow B 3 1 v (xs.length + 1) (natCells xs ++ [.int .i64 (y : Int)])) : NRow w B v (xs ++ [y]) := by
  unfold NRow; rw [natCells_snoc]; simpa using h
theorem intCells_snoc (xs : List Int) (x : Int) : intCells (xs ++ [x]) = intCells xs ++ [.int .i64 x] := by simp [intCells]
theorem ZRow.of {w : World} {B : Nat} {v : Value} {xs : List Int} {y : Int} (h : w.ownsRow B 3 1 v (xs.length + 1) (intCells xs ++ [.int .i64 y])) : ZRow w B v (xs ++ [y]) := by
  unfold ZRow; rw [intCells_snoc]; simpa using h
theorem take_snoc' {zs : List Int} {k : Nat} (hk : k < zs.length) : zs.take (k + 1) = zs.take k ++ [zs.getD k 0] := by
  rw [List.take_add_one, List.getD_eq_getElem?_getD, List.getElem?_eq_getElem hk]; rfl

/-- While the sets are being put: the row of nexts stands. -/
def BsZ (w : World) (N : Nat) (w4 : World) (A B : Array Value) (e : Bool) (f l : Int) (nv sv : Value) (xs : List Nat) (zs : List Int) : Prop :=
  Bs w w4 A B e f l nv sv ∧ NRow w4 (w.heap.size + 4) nv xs ∧ ZRow w4 N sv zs ∧ N ≤ w4.heap.size ∧ w.heap.size + 4 ≤ N ∧ ∀ q, nv.ownBlock = some q → q < N
theorem BsZ.step {w : World} {N : Nat} {w4 w5 : World} {A B : Array Value} {e : Bool} {f l : Int} {nv sv v' : Value} {xs : List Nat} {zs : List Int} {z : Int} {o : Obj} (h : BsZ w N w4 A B e f l nv sv xs zs)
    (hg : (w4.alloc o).drew.grownBy w5 sv.ownBlock) (ho : w5.ownsRow N 3 1 v' (zs.length + 1) (intCells zs ++ [.int .i64 z])) : BsZ w N (w5.setCell ⟨w.heap.size + 1 + 1 + 1, 4, none⟩ v') A B e f l nv v' xs (zs ++ [z]) := by
  obtain ⟨h1, h2, h3, h4, h5, h6⟩ := h
  have hb : Below w4.heap.size w4 (w4.alloc o).drew := ((Below.refl _ _).alloc (Nat.le_refl _) _).drew
  have hsl : ∀ q, sv.ownBlock = some q → N ≤ q := fun q hq => (h3.lt q hq).1
  refine ⟨((h1.next hb).grown hg (fun q hq => by have := hsl q hq; omega)).putS _, ?_, ?_, ?_, h5, h6⟩
  · refine NRow.set ?_ (by omega) _ _
    have h2' : (w4.alloc o).drew.ownsRow (w.heap.size + 4) 3 1 nv xs.length (natCells xs) := h2.below hb
    refine h2'.kept hg ?_
    cases hn : nv.ownBlock with
    | none => exact Or.inl rfl
    | some q =>
      refine Or.inr ?_
      intro e
      have := h6 q hn
      have := hsl q e.symm
      omega
  · exact (ZRow.of ho).set (by omega) _ _
  · have := hg.size
    simp at this ⊢
    omega
theorem BsZ.s3 {w : World} {N : Nat} {w4 w5 : World} {A B : Array Value} {e : Bool} {f l : Int} {nv sv : Value} {xs : List Nat} {zs : List Int} {o : Obj} (h : BsZ w N w4 A B e f l nv sv xs zs)
    (hg : (w4.alloc o).drew.grownBy w5 sv.ownBlock) : Bs w w5 A B e f l nv sv :=
  (h.1.next ((Below.refl _ _).alloc (Nat.le_refl _) _).drew).grown hg (fun q hq => by have := (h.2.2.1.lt q hq).1; have := h.2.2.2.2.1; omega)

def movedK (a b : Part) (k : Nat) : List Nat := a.next ++ (b.next.take k).map (· * 2 ^ a.next.length)
theorem movedK_snoc (a b : Part) {k : Nat} (hk : k < b.next.length) : movedK a b (k + 1) = movedK a b k ++ [b.next.getD k 0 * 2 ^ a.next.length] := by
  unfold movedK
  rw [List.take_add_one, List.getD_eq_getElem?_getD, List.getElem?_eq_getElem hk]
  simp only [Option.toList_some, List.map_append, List.map_cons, List.map_nil, List.append_assoc, Option.getD_some]
theorem movedK_len (a b : Part) {k : Nat} (hk : k ≤ b.next.length) : (movedK a b k).length = a.next.length + k := by simp [movedK]; omega

set_option maxRecDepth 20000 in
set_option maxHeartbeats 2000000 in
theorem beside_any (w : World) (va vb : Value) (fs : List (Nat → Bool)) (a b : Part) (ha : PartAt w va fs a) (hb : PartAt w vb fs b) (oa : a.Ok) (ob : b.Ok) (hl : a.next.length + b.next.length ≤ 50) :
    Calls Try.prog 60 #[va, vb] w fun e w' => ∃ v, e = .returned v ∧ PartAt w' v fs (besideN a b) ∧ Below w.heap.size w w' := by
  obtain ⟨anv, asv, az, rfl, a2, a3, a4⟩ := ha
  obtain ⟨bnv, bsv, bz, rfl, b2, b3, b4⟩ := hb
  obtain ⟨ana, anc, rfl⟩ := a2.form
  obtain ⟨asa, asc, rfl⟩ := a3.form
  obtain ⟨bna, bnc, rfl⟩ := b2.form
  obtain ⟨bsa, bsc, rfl⟩ := b3.form
  have sa := oa.small (by omega)
  have sb := ob.small (by omega)
  have tt : ∀ x, x < 2 ^ b.next.length → x * 2 ^ a.next.length < top := fun x hx =>
    Nat.lt_of_lt_of_le (move_lt hx) (Nat.pow_le_pow_right (n := 2) (by omega) (show a.next.length + b.next.length ≤ 60 by omega))
  have HM1 := hide (fun w => move_any b.first a.next.length w (by omega) (tt _ ob.2.1))
  have HM2 := hide (fun w => move_any b.last a.next.length w (by omega) (tt _ ob.2.2.1))
  have HM3 : Hid (∀ k w, k < b.next.length → Calls Try.prog 42 #[.int .i64 ((b.next.getD k 0 : Nat) : Int), .int .i64 (a.next.length : Int)] w fun e w' => e = .returned (.int .i64 ((b.next.getD k 0 * 2 ^ a.next.length : Nat) : Int)) ∧ w' = w) := by
    intro k w hk
    refine move_any _ _ w (by omega) (tt _ ?_)
    rw [List.getD_eq_getElem?_getD, List.getElem?_eq_getElem hk]; exact ob.2.2.2 _ (List.getElem_mem _)
  have e1 := i64_or_nat a.first (b.first * 2 ^ a.next.length) sa.2.1 (tt _ ob.2.1)
  have e2 := i64_or_nat a.last (b.last * 2 ^ a.next.length) sa.2.2.1 (tt _ ob.2.2.1)
  have HL : Hid (∀ W, Below w.heap.size w W → Calls Try.prog 63 #[.slice ana a.next.length anc, .int .i64 0, .int .i64 0] W fun e w' => ∃ v', e = .returned v' ∧ NRow w' W.heap.size v' a.next ∧ Below W.heap.size W w') := by
    intro W hW
    have := link_any W _ a.next 0 0 (a2.below hW) sa.1 sa.2.2.2 (by decide) (by decide)
    rw [linkN_zero] at this
    exact this
  have hlen : (a.next.length : Int) ≤ 50 := by omega
  have hblen : (b.next.length : Int) ≤ 50 := by omega
  have A2 := hide a2
  have A3 := hide a3
  have B2 := hide b2
  have B3 := hide b3
  have HLL := hide hl
  have hazl : az.length ≤ 50 := by have := congrArg List.length a4; rw [List.length_map, oa.1] at this; omega
  have hbzl : bz.length ≤ 50 := by have := congrArg List.length b4; rw [List.length_map, ob.1] at this; omega
  have HAZ := hide hazl
  have HBZ := hide hbzl
  have hazI : (az.length : Int) ≤ 50 := by omega
  have hbzI : (bz.length : Int) ≤ 50 := by omega
  have HA4 := hide a4
  have HB4 := hide b4
  obtain ⟨i, i0, i1, i2, i3⟩ := info_of info3
  have HI := hide (And.intro i0 (And.intro i1 (And.intro i2 i3)))
  clear a2 a3 b2 b3 a4 b4 sa sb oa ob hl tt i0 i1 i2 i3 hazl hbzl
  generalize hbf : b.first * 2 ^ a.next.length = bf at *
  generalize hbl : b.last * 2 ^ a.next.length = bl at *
  have HBF := hide hbf
  have HBL := hide hbl
  clear hbf hbl
  cases hae : a.empty
  all_goals
    go_enter Try.func60, Try.ntmps60
    go_wp2
    go_region_held3 (fun w' => w'.cell? ⟨w.heap.size, 1, none⟩ = some (.int .i64 (a.first : Int)) ∧ w'.cell? ⟨w.heap.size + 1, 1, none⟩ = some (.int .i64 (b.first : Int))) (go_keep) ((go_at_call 42; refine (unhide HM1 _).mono ?_; rintro e w' ⟨rfl, rfl⟩))
    go_wp2
    go_region_held3 (fun w' => w'.cell? ⟨w.heap.size, 2, none⟩ = some (.int .i64 (a.last : Int)) ∧ w'.cell? ⟨w.heap.size + 1, 2, none⟩ = some (.int .i64 (b.last : Int))) (go_keep) ((go_at_call 42; refine (unhide HM2 _).mono ?_; rintro e w' ⟨rfl, rfl⟩))
    go_wp2_with fail
    refine (unhide HL _ (by exact (Bs.start w _ _ _ _ _ _ _).below.drew.drew)).mono ?_
    rintro e w1 ⟨v', rfl, hv, hw1⟩
    have hS : Bs w w1 (partA a (.slice ana a.next.length anc) (.slice asa az.length asc)) (partA b (.slice bna b.next.length bnc) (.slice bsa bz.length bsc)) (a.empty || b.empty) ((a.first ||| bf : Nat) : Int) ((a.last ||| bl : Nat) : Int) (.slice none 0 0) (.slice none 0 0) := by
      refine Bs.next ?_ hw1
      rw [partA, hae]
      exact (Bs.start w _ _ _ _ _ _ _).drew.drew
    obtain ⟨y0, y1, y2, y3, y4⟩ := part_cells hS.b3
    obtain ⟨z0, z1, z2, z3, z4⟩ := part_free hS.b3
    have hsz : w.heap.size + 1 + 1 + 1 < w1.heap.size := hS.lt
    have HS := hide hS
    have hv4 : NRow w1 (w.heap.size + 4) v' a.next := ownsRow_less hv (by simp)
    have HV := hide hv4
    obtain ⟨na', nc', rfl⟩ := hv.form
    clear hS hv hv4 hw1 e1 e2
    go_wp2
    go_loopw [7] (fun ix wr => ∃ k nv, ix = .int .i64 (k : Nat) ∧ k ≤ b.next.length ∧ Hid (Bs w wr (partA a (.slice ana a.next.length anc) (.slice asa az.length asc)) (partA b (.slice bna b.next.length bnc) (.slice bsa bz.length bsc)) (a.empty || b.empty) ((a.first ||| bf : Nat) : Int) ((a.last ||| bl : Nat) : Int) nv (.slice none 0 0) ∧ NRow wr (w.heap.size + 4) nv (movedK a b k))) (fun ix _ => b.next.length - (intOf ix).toNat)
    case atStart =>
      refine ⟨0, _, rfl, Nat.zero_le _, (unhide HS).putN _, ?_⟩
      have := (unhide HV).set (b := w.heap.size + 1 + 1 + 1) (by omega) 3 (.slice na' a.next.length nc')
      unfold movedK
      rw [List.take_zero, List.map_nil, List.append_nil]
      exact this
    case round =>
      rename_i wr
      obtain ⟨k, nv, rfl, hk, HH⟩ := hrel
      obtain ⟨nva, nvc, rfl⟩ := (unhide HH).2.form
      obtain ⟨x0, x1, x2, x3, x4⟩ := part_cells (unhide HH).1.b1
      obtain ⟨y0, y1, y2, y3, y4⟩ := part_cells (unhide HH).1.b3
      obtain ⟨z0, z1, z2, z3, z4⟩ := part_free (unhide HH).1.b3
      have hsz : w.heap.size + 1 + 1 + 1 < wr.heap.size := (unhide HH).1.lt
      by_cases hlt : k < b.next.length
      · obtain ⟨g, cap, he, hc⟩ := ((unhide B2).below (unhide HH).1.below).at hlt
        simp only [Value.slice.injEq, true_and] at he
        obtain ⟨rfl, rfl⟩ := he
        have hlt' : (k : Int) < (b.next.length : Int) := by omega
        have HSN := hide (movedK_snoc a b hlt)
        have HK := hide (movedK_len a b hk)
        have HM := hide (fun w => unhide HM3 k w hlt)
        have hg0 : g < w.heap.size := ((unhide B2).lt g rfl).2
        have hg3 : ¬ g = w.heap.size + 1 + 1 + 1 := by omega
        have hgw : ¬ g = wr.heap.size := by omega
        clear hlt x0 x1 x2 x4 y0 y1 y2 y4 z0 z1 z2 z4
        generalize b.next.getD k 0 = x at *
        generalize x * 2 ^ a.next.length = y at *
        have hne : ∀ q, q < w.heap.size + 4 → some q ≠ (Value.slice nva (movedK a b k).length nvc).ownBlock := fun q hq e => by have := ((unhide HH).2.lt q e.symm).1; omega
        have HNE := hide hne
        have HO2 := hide ((unhide HH).2.alloc (Obj.cells #[.int .i64 (y : Int)] 3))
        clear hne
        go_wp2
        go_region_law (first
            | (refine step_append_own (by rfl) _ _ _ (by rfl) (w.heap.size + 4) 3 i (.int .i64 0) 1 8 Try.underlying53 (unhide HI).1 (unhide HI).2.1 (unhide HI).2.2.1 (unhide HI).2.2.2 rfl (by decide) _ _ _ (by rfl) (by exact unhide HO2) ⟨wr.heap.size, 0, none⟩ 1 1 [.int .i64 (y : Int)] (by rfl) rfl (by exact cell_one_new _ _ _) (by intro u hu; simp at hu; subst hu; rfl) (by have := unhide HK; have := unhide HLL; unfold maxLen; omega) (by have := unhide HK; have := unhide HLL; omega) (by simp; omega) ?_; intro v' w3 ho3 hgrow; have hS3 := Bs.grown ((unhide HH).1.next ((Below.refl _ _).alloc (Nat.le_refl _) _)).drew hgrow (fun q hq => ((unhide HH).2.lt q hq).1); have z3' := (part_free hS3.b3).2.2.2.1; have y3' := (part_cells hS3.b3).2.2.2.1; have HS3 := hide hS3; have HO3 := hide ho3; obtain ⟨va3, n3, vc3, rfl⟩ := own_slice ho3; clear hS3 ho3)
            | (go_simp; go_at_call 42; refine (unhide HM _).mono ?_; rintro e w' ⟨rfl, rfl⟩))
        all_goals
          go_wp2
          go_roundw
          case rel =>
            refine ⟨k + 1, _, by go_num, by omega, (unhide HS3).putN _, ?_⟩
            rw [unhide HSN]
            exact (NRow.of (unhide HO3)).set (by omega) _ _
          case measure => simp [intOf]; omega
      · have hk2 : k = b.next.length := by omega
        subst hk2
        have hZ : BsZ w wr.heap.size wr (partA a (.slice ana a.next.length anc) (.slice asa az.length asc)) (partA b (.slice bna b.next.length bnc) (.slice bsa bz.length bsc)) (a.empty || b.empty) ((a.first ||| bf : Nat) : Int) ((a.last ||| bl : Nat) : Int) (.slice nva (movedK a b b.next.length).length nvc) (.slice none 0 0) (movedK a b b.next.length) [] :=
          ⟨(unhide HH).1, (unhide HH).2, World.ownsRow_nil _ _ _ _, Nat.le_refl _, hsz, fun q hq => ((unhide HH).2.lt q hq).2⟩
        have HZ := hide hZ
        clear hZ HH y0 y1 y2 y3 y4 z0 z1 z2 z3 z4
        generalize wr.heap.size = N at *
        go_wp2
        go_loopw [8] (fun ix w4 => ∃ k sv, ix = .int .i64 (k : Nat) ∧ k ≤ az.length ∧ Hid (BsZ w N w4 (partA a (.slice ana a.next.length anc) (.slice asa az.length asc)) (partA b (.slice bna b.next.length bnc) (.slice bsa bz.length bsc)) (a.empty || b.empty) ((a.first ||| bf : Nat) : Int) ((a.last ||| bl : Nat) : Int) (.slice nva (movedK a b b.next.length).length nvc) sv (movedK a b b.next.length) (az.take k))) (fun ix _ => az.length - (intOf ix).toNat)
        case atStart => exact ⟨0, _, rfl, Nat.zero_le _, by rw [List.take_zero]; exact unhide HZ⟩
        case round =>
          rename World => w4
          obtain ⟨k, sv, rfl, hk, HH⟩ := hrel
          obtain ⟨sva, svc, hsv⟩ := (unhide HH).2.2.1.form
          obtain ⟨m, hm⟩ : ∃ m, m = (az.take k).length := ⟨_, rfl⟩
          rw [← hm] at hsv
          subst hsv
          have HMm := hide hm
          clear hm
          obtain ⟨x0, x1, x2, x3, x4⟩ := part_cells (unhide HH).1.b0
          obtain ⟨y0, y1, y2, y3, y4⟩ := part_cells (unhide HH).1.b3
          obtain ⟨z0, z1, z2, z3, z4⟩ := part_free (unhide HH).1.b3
          have hsz : w.heap.size + 1 + 1 + 1 < w4.heap.size := (unhide HH).1.lt
          by_cases hlt : k < az.length
          · obtain ⟨g, cap, he, hc⟩ := ((unhide A3).below (unhide HH).1.below).at hlt
            simp only [Value.slice.injEq, true_and] at he
            obtain ⟨rfl, rfl⟩ := he
            have hlt' : (k : Int) < (az.length : Int) := by omega
            have HSN := hide (take_snoc' hlt)
            have hg0 : g < w.heap.size := ((unhide A3).lt g rfl).2
            have hg3 : ¬ g = w.heap.size + 1 + 1 + 1 := by omega
            have hgw : ¬ g = w4.heap.size := by omega
            have HK := hide (show (az.take k).length ≤ 100 by have := unhide HAZ; have := unhide HBZ; simp; omega)
            clear hlt x0 x1 x2 x3 y0 y1 y2 y3 z0 z1 z2 z3
            generalize az.getD k 0 = x at *
            have HO2 := hide ((unhide HH).2.2.1.alloc (Obj.cells #[.int .i64 x] 3))
            go_wp2
            go_region_law (refine step_append_own (by rfl) _ _ _ (by rfl) N 3 i (.int .i64 0) 1 8 Try.underlying53 (unhide HI).1 (unhide HI).2.1 (unhide HI).2.2.1 (unhide HI).2.2.2 rfl (by decide) _ _ _ (by rfl) (by exact unhide HO2) ⟨w4.heap.size, 0, none⟩ 1 1 [.int .i64 x] (by rfl) rfl (by exact cell_one_new _ _ _) (by intro u hu; simp at hu; subst hu; rfl) (by have := unhide HK; unfold maxLen; omega) (by have := unhide HK; omega) (by have := (unhide HH).2.2.2.1; simp; omega) ?_; intro v' w5 ho5 hgrow; have hS5 := BsZ.s3 (unhide HH) hgrow; have z4' := (part_free hS5.b3).2.2.2.2; have y4' := (part_cells hS5.b3).2.2.2.2; have HG5 := hide (BsZ.step (unhide HH) hgrow ho5); obtain ⟨va5, n5, vc5, rfl⟩ := own_slice ho5; clear hS5 ho5 hgrow)
            all_goals
              go_wp2
              go_roundw
              case rel =>
                refine ⟨k + 1, .slice va5 n5 vc5, by go_num, by omega, ?_⟩
                rw [unhide HSN]
                exact unhide HG5
              case measure => simp [intOf]; omega
          · have hk2 : k = az.length := by omega
            subst hk2
            have HZ2 := HH
            rw [List.take_length] at HZ2
            clear x0 x1 x2 x3 y0 y1 y2 y3 y4 z0 z1 z2 z3 z4 HH HZ HMm
            go_wp2
            go_loopw [9] (fun ix w4 => ∃ k sv, ix = .int .i64 (k : Nat) ∧ k ≤ bz.length ∧ Hid (BsZ w N w4 (partA a (.slice ana a.next.length anc) (.slice asa az.length asc)) (partA b (.slice bna b.next.length bnc) (.slice bsa bz.length bsc)) (a.empty || b.empty) ((a.first ||| bf : Nat) : Int) ((a.last ||| bl : Nat) : Int) (.slice nva (movedK a b b.next.length).length nvc) sv (movedK a b b.next.length) (az ++ bz.take k))) (fun ix _ => bz.length - (intOf ix).toNat)
            case atStart => exact ⟨0, _, rfl, Nat.zero_le _, by rw [List.take_zero, List.append_nil]; exact unhide HZ2⟩
            case round =>
              rename World => w4
              obtain ⟨k, sv, rfl, hk, HH⟩ := hrel
              obtain ⟨sva, svc, hsv⟩ := (unhide HH).2.2.1.form
              obtain ⟨m, hm⟩ : ∃ m, m = (az ++ bz.take k).length := ⟨_, rfl⟩
              rw [← hm] at hsv
              subst hsv
              have HMm := hide hm
              clear hm
              obtain ⟨x0, x1, x2, x3, x4⟩ := part_cells (unhide HH).1.b1
              obtain ⟨y0, y1, y2, y3, y4⟩ := part_cells (unhide HH).1.b3
              obtain ⟨z0, z1, z2, z3, z4⟩ := part_free (unhide HH).1.b3
              have hsz : w.heap.size + 1 + 1 + 1 < w4.heap.size := (unhide HH).1.lt
              by_cases hlt : k < bz.length
              · obtain ⟨g, cap, he, hc⟩ := ((unhide B3).below (unhide HH).1.below).at hlt
                simp only [Value.slice.injEq, true_and] at he
                obtain ⟨rfl, rfl⟩ := he
                have hlt' : (k : Int) < (bz.length : Int) := by omega
                have HSN := hide (take_snoc' hlt)
                have hg0 : g < w.heap.size := ((unhide B3).lt g rfl).2
                have hg3 : ¬ g = w.heap.size + 1 + 1 + 1 := by omega
                have hgw : ¬ g = w4.heap.size := by omega
                have HK := hide (show (az ++ bz.take k).length ≤ 100 by have := unhide HAZ; have := unhide HBZ; simp; omega)
                clear hlt x0 x1 x2 x3 y0 y1 y2 y3 z0 z1 z2 z3
                generalize bz.getD k 0 = x at *
                have HO2 := hide ((unhide HH).2.2.1.alloc (Obj.cells #[.int .i64 x] 3))
                go_wp2
                go_region_law (refine step_append_own (by rfl) _ _ _ (by rfl) N 3 i (.int .i64 0) 1 8 Try.underlying53 (unhide HI).1 (unhide HI).2.1 (unhide HI).2.2.1 (unhide HI).2.2.2 rfl (by decide) _ _ _ (by rfl) (by exact unhide HO2) ⟨w4.heap.size, 0, none⟩ 1 1 [.int .i64 x] (by rfl) rfl (by exact cell_one_new _ _ _) (by intro u hu; simp at hu; subst hu; rfl) (by have := unhide HK; unfold maxLen; omega) (by have := unhide HK; omega) (by have := (unhide HH).2.2.2.1; simp; omega) ?_; intro v' w5 ho5 hgrow; have hS5 := BsZ.s3 (unhide HH) hgrow; have z4' := (part_free hS5.b3).2.2.2.2; have y4' := (part_cells hS5.b3).2.2.2.2; have HG5 := hide (BsZ.step (unhide HH) hgrow ho5); obtain ⟨va5, n5, vc5, rfl⟩ := own_slice ho5; clear hS5 ho5 hgrow)
                all_goals
                  go_wp2
                  go_roundw
                  case rel =>
                    refine ⟨k + 1, .slice va5 n5 vc5, by go_num, by omega, ?_⟩
                    rw [unhide HSN]
                    rw [← List.append_assoc]; exact unhide HG5
                  case measure => simp [intOf]; omega
              · have hk2 : k = bz.length := by omega
                subst hk2
                have HZ3 := HH
                rw [List.take_length] at HZ3
                obtain ⟨q0, q1, q2, q3, q4⟩ := part_cells (unhide HZ3).1.b2
                obtain ⟨r0, r1, r2, r3, r4⟩ := part_free (unhide HZ3).1.b2
                go_wp2
                refine bodyPost_ret (v := .agg #[.bool (a.empty || b.empty), .int .i64 ((a.first ||| bf : Nat) : Int), .int .i64 ((a.last ||| bl : Nat) : Int), .slice nva (movedK a b b.next.length).length nvc, .slice sva m svc]) (by simp [results, Try.results60, go_sem, *]) rfl ?_
                have HF : ∀ u0 u1 u2 u3 u4, Below w.heap.size w (((((w4.setCell ⟨w.heap.size + 1 + 1, 0, none⟩ u0).setCell ⟨w.heap.size + 1 + 1, 1, none⟩ u1).setCell ⟨w.heap.size + 1 + 1, 2, none⟩ u2).setCell ⟨w.heap.size + 1 + 1, 3, none⟩ u3).setCell ⟨w.heap.size + 1 + 1, 4, none⟩ u4) :=
                  fun _ _ _ _ _ => (((((unhide HZ3).1.below.setCell (by simp; omega) _).setCell (by simp; omega) _).setCell (by simp; omega) _).setCell (by simp; omega) _).setCell (by simp; omega) _
                have hbf := unhide HBF
                have hbl := unhide HBL
                subst hbf hbl
                have h5 := (unhide HZ3).2.2.2.2.1
                refine ⟨_, rfl, ⟨_, _, az ++ bz, rfl, ?_, ?_, ?_⟩, HF _ _ _ _ _⟩
                · have e : (besideN a b).next = movedK a b b.next.length := by simp [movedK, besideN, linkN_zero]
                  rw [e]
                  exact ((((((unhide HZ3).2.1.set (by omega) _ _).set (by omega) _ _).set (by omega) _ _).set (by omega) _ _).set (by omega) _ _).zero
                · exact ((((((unhide HZ3).2.2.1.set (by omega) _ _).set (by omega) _ _).set (by omega) _ _).set (by omega) _ _).set (by omega) _ _).zero
                · rw [List.map_append, unhide HA4, unhide HB4]; rfl

end Go.Proofs.Ytobfpgoepaeknaa
