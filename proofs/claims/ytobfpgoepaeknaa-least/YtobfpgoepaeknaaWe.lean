/-
  Parts: behind.
-/
import Derived.Test.YtobfpgoepaeknaaWd
import Derived.Deep.DeepCutAuto
namespace Go.Proofs.Ytobfpgoepaeknaa
open Go.RowKit
attribute [local go_sem ↓] Go.wp_at_zero Go.wp_at_succ

def PartBlk (w : World) (b : Nat) : Prop := ∃ cs fr, w.heap[b]? = some (.cells cs 80 fr)
theorem PartBlk.set {w : World} {b : Nat} (h : PartBlk w b) (q o : Nat) (u : Value) : PartBlk (w.setCell ⟨q, o, none⟩ u) b := by
  obtain ⟨cs, fr, h⟩ := h
  by_cases hq : q = b
  · subst hq
    simp only [PartBlk, World.setCell, Array.getElem?_modify, if_pos, h]
    exact ⟨_, _, rfl⟩
  · exact ⟨cs, fr, by rw [Below.heap_setCell _ _ _ _ (by simpa using Ne.symm hq)]; exact h⟩
theorem own_set_ty {w : World} {B e z : Nat} {v : Value} {n : Nat} {xs : List Value} {b : Nat} (h : w.ownsRow B e z v n xs) (hb : PartBlk w b) (hne : e ≠ 80) (o : Nat) (u : Value) : (w.setCell ⟨b, o, none⟩ u).ownsRow B e z v n xs := by
  refine ⟨h.1, ?_⟩
  rcases h.2 with hn | ⟨g, cap, cur, rfl, h1, hg, rest⟩
  · exact .inl hn
  · refine .inr ⟨g, cap, cur, rfl, h1, ?_, rest⟩
    obtain ⟨cs, fr, hb⟩ := hb
    have : g ≠ b := by
      rintro rfl
      rw [hg] at hb
      simp at hb
      exact hne hb.2.1
    rw [Below.heap_setCell _ _ _ _ (by simpa using this)]
    exact hg

theorem ZRow.drew {w : World} {B : Nat} {v : Value} {xs : List Int} (h : ZRow w B v xs) : ZRow w.drew B v xs := h
theorem NRow.drew {w : World} {B : Nat} {v : Value} {xs : List Nat} (h : NRow w B v xs) : NRow w.drew B v xs := h
/-- Two rows of numbers, and two blocks that hold parts. -/
structure Keeps (w : World) (b c : Nat) (nv sv : Value) (xs : List Nat) (zs : List Int) : Prop where
  n : NRow w 0 nv xs
  s : ZRow w 0 sv zs
  pb : PartBlk w b
  pc : PartBlk w c
theorem Keeps.setB {w : World} {b c : Nat} {nv sv : Value} {xs : List Nat} {zs : List Int} (h : Keeps w b c nv sv xs zs) (o : Nat) (u : Value) : Keeps (w.setCell ⟨b, o, none⟩ u) b c nv sv xs zs :=
  ⟨own_set_ty h.n h.pb (by decide) _ _, own_set_ty h.s h.pb (by decide) _ _, h.pb.set _ _ _, h.pc.set _ _ _⟩
theorem Keeps.setC {w : World} {b c : Nat} {nv sv : Value} {xs : List Nat} {zs : List Int} (h : Keeps w b c nv sv xs zs) (o : Nat) (u : Value) : Keeps (w.setCell ⟨c, o, none⟩ u) b c nv sv xs zs :=
  ⟨own_set_ty h.n h.pc (by decide) _ _, own_set_ty h.s h.pc (by decide) _ _, h.pb.set _ _ _, h.pc.set _ _ _⟩

/-- In the midst of behind. -/
structure Bh (w wr : World) (h : Nat) (A B C : Array Value) : Prop where
  below : Below w.heap.size w wr
  b0 : wr.heap[w.heap.size]? = some (.cells A 80 (0, 0))
  b1 : wr.heap[w.heap.size + 1]? = some (.cells B 80 (0, 0))
  b2 : wr.heap[w.heap.size + 1 + 1]? = some (.cells zeroPart 80 (0, 0))
  b3 : wr.heap[h]? = some (.cells C 80 (0, 0))
theorem Bh.drew {w wr : World} {h : Nat} {A B C : Array Value} (k : Bh w wr h A B C) : Bh w wr.drew h A B C := ⟨k.below.drew, k.b0, k.b1, k.b2, k.b3⟩
theorem Bh.next {w wr w1 : World} {h : Nat} {A B C : Array Value} (k : Bh w wr h A B C) (hb : Below wr.heap.size wr w1) : Bh w w1 h A B C := by
  have l2 := (Array.getElem?_eq_some_iff.1 k.b2).1
  have l3 := (Array.getElem?_eq_some_iff.1 k.b3).1
  exact ⟨k.below.trans (hb.mono k.below.size), (hb.block _ (by omega)).trans k.b0, (hb.block _ (by omega)).trans k.b1, (hb.block _ (by omega)).trans k.b2, (hb.block _ l3).trans k.b3⟩
theorem Bh.put {w wr : World} {h : Nat} {A B : Array Value} {c0 c1 c2 c3 c4 : Value} (k : Bh w wr h A B #[c0, c1, c2, c3, c4]) (hh : w.heap.size + 1 + 1 < h) (u : Value) : Bh w (wr.setCell ⟨h, 3, none⟩ u) h A B #[c0, c1, c2, u, c4] := by
  refine ⟨k.below.setCell (by simp; omega) _, ?_, ?_, ?_, ?_⟩
  · rw [Below.heap_setCell _ _ _ _ (by simp; omega)]; exact k.b0
  · rw [Below.heap_setCell _ _ _ _ (by simp; omega)]; exact k.b1
  · rw [Below.heap_setCell _ _ _ _ (by simp; omega)]; exact k.b2
  · simp only [World.setCell, Array.getElem?_modify, if_pos, k.b3]; simp
theorem three_blocks (w : World) (A B Z : Obj) : ((((w.alloc A).alloc B).alloc Z)).heap[w.heap.size]? = some A ∧ ((((w.alloc A).alloc B).alloc Z)).heap[w.heap.size + 1]? = some B ∧ ((((w.alloc A).alloc B).alloc Z)).heap[w.heap.size + 1 + 1]? = some Z := by
  have s1 : (w.alloc A).heap.size = w.heap.size + 1 := by simp
  have s2 : ((w.alloc A).alloc B).heap.size = w.heap.size + 1 + 1 := by simp
  refine ⟨?_, ?_, ?_⟩
  · rw [Below.heap_alloc _ _ _ (by omega), Below.heap_alloc _ _ _ (by omega)]; exact heap_alloc_new w _
  · rw [Below.heap_alloc _ _ _ (by omega), ← s1]; exact heap_alloc_new _ _
  · rw [← s2]; exact heap_alloc_new _ _
theorem three_below (w : World) (A B Z : Obj) : Below w.heap.size w (((w.alloc A).alloc B).alloc Z) := (((Below.refl _ _).alloc (Nat.le_refl _) _).alloc (by simp) _).alloc (by simp; omega) _

set_option maxHeartbeats 2000000 in
theorem behind_any (w : World) (va vb : Value) (fs : List (Nat → Bool)) (a b : Part) (ha : PartAt w va fs a) (hb : PartAt w vb fs b) (oa : a.Ok) (ob : b.Ok) (hl : a.next.length + b.next.length ≤ 50) :
    Calls Try.prog 39 #[va, vb] w fun e w' => ∃ v, e = .returned v ∧ PartAt w' v fs (behindN a b) ∧ Below w.heap.size w w' := by
  have HBE : Hid (∀ W, Below w.heap.size w W → Calls Try.prog 60 #[va, vb] W fun e w' => ∃ v, e = .returned v ∧ PartAt w' v fs (besideN a b) ∧ Below W.heap.size W w') :=
    fun W hW => beside_any W va vb fs a b (ha.below hW) (hb.below hW) oa ob hl
  obtain ⟨anv, asv, az, rfl, a2, a3, a4⟩ := ha
  obtain ⟨bnv, bsv, bz, rfl, b2, b3, b4⟩ := hb
  obtain ⟨ana, anc, rfl⟩ := a2.form
  obtain ⟨asa, asc, rfl⟩ := a3.form
  obtain ⟨bna, bnc, rfl⟩ := b2.form
  obtain ⟨bsa, bsc, rfl⟩ := b3.form
  have tt : ∀ x, x < 2 ^ b.next.length → x * 2 ^ a.next.length < top := fun x hx =>
    Nat.lt_of_lt_of_le (move_lt hx) (Nat.pow_le_pow_right (n := 2) (by omega) (show a.next.length + b.next.length ≤ 60 by omega))
  have HM1 := hide (fun w => move_any b.first a.next.length w (by omega) (tt _ ob.2.1))
  have HM2 := hide (fun w => move_any b.last a.next.length w (by omega) (tt _ ob.2.2.1))
  have hsm := (besideN_ok oa ob).small (by rw [besideN_len]; exact hl)
  have HL : Hid (∀ W v, NRow W 0 v (besideN a b).next → Calls Try.prog 63 #[v, .int .i64 (a.last : Int), .int .i64 ((b.first * 2 ^ a.next.length : Nat) : Int)] W fun e w' => ∃ v', e = .returned v' ∧ NRow w' W.heap.size v' (behindN a b).next ∧ Below W.heap.size W w') :=
    fun W v hv => link_any W v _ a.last (b.first * 2 ^ a.next.length) hv hsm.1 hsm.2.2.2 (oa.small (by omega)).2.2.1 (tt _ ob.2.1)
  have hlen : (a.next.length : Int) ≤ 50 := by omega
  clear a2 a3 b2 b3 a4 b4 oa ob hl tt hsm
  generalize hbf : b.first * 2 ^ a.next.length = bf at *
  generalize hbl : b.last * 2 ^ a.next.length = bl at *
  have HBF := hide hbf
  have HBL := hide hbl
  clear hbf hbl
  go_enter Try.func39, Try.ntmps39
  go_wp2_with fail
  refine (unhide HBE _ (by exact three_below w _ _ _)).mono ?_
  rintro e w1 ⟨v, rfl, ⟨cnv, csv, cz, rfl, c2, c3, c4⟩, hw1⟩
  obtain ⟨cna, cnc, rfl⟩ := c2.form
  obtain ⟨csa, csc, rfl⟩ := c3.form
  have t3 := three_blocks w (Obj.cells (partA a (.slice ana a.next.length anc) (.slice asa az.length asc)) 80) (Obj.cells (partA b (.slice bna b.next.length bnc) (.slice bsa bz.length bsc)) 80) (Obj.cells zeroPart 80)
  have hs1 := hw1.size
  simp at hs1
  have k0 := (hw1.block w.heap.size (by simp; omega)).trans t3.1
  have k1 := (hw1.block (w.heap.size + 1) (by simp)).trans t3.2.1
  have k2 := (hw1.block (w.heap.size + 1 + 1) (by simp)).trans t3.2.2
  have hB1 : Below w.heap.size w w1 := (three_below w _ _ _).trans (hw1.mono (by simp; omega))
  have h4 : Bh w (w1.alloc (Obj.cells #[.bool (besideN a b).empty, .int .i64 ((besideN a b).first : Int), .int .i64 ((besideN a b).last : Int), .slice cna (besideN a b).next.length cnc, .slice csa cz.length csc] 80)) w1.heap.size (partA a (.slice ana a.next.length anc) (.slice asa az.length asc)) (partA b (.slice bna b.next.length bnc) (.slice bsa bz.length bsc)) #[.bool (besideN a b).empty, .int .i64 ((besideN a b).first : Int), .int .i64 ((besideN a b).last : Int), .slice cna (besideN a b).next.length cnc, .slice csa cz.length csc] :=
    ⟨hB1.alloc hB1.size _, (Below.heap_alloc _ _ _ (by omega)).trans k0, (Below.heap_alloc _ _ _ (by omega)).trans k1, (Below.heap_alloc _ _ _ (by omega)).trans k2, heap_alloc_new _ _⟩
  obtain ⟨x0, x1, x2, x3, x4⟩ := part_cells h4.b0
  obtain ⟨y0, y1, y2, y3, y4⟩ := part_cells h4.b1
  have HB4 := hide h4
  have C2 := hide (c2.below ((Below.refl _ _).alloc (Nat.le_refl _) (Obj.cells #[.bool (besideN a b).empty, .int .i64 ((besideN a b).first : Int), .int .i64 ((besideN a b).last : Int), .slice cna (besideN a b).next.length cnc, .slice csa cz.length csc] 80)))
  have C3 := hide (c3.below ((Below.refl _ _).alloc (Nat.le_refl _) (Obj.cells #[.bool (besideN a b).empty, .int .i64 ((besideN a b).first : Int), .int .i64 ((besideN a b).last : Int), .slice cna (besideN a b).next.length cnc, .slice csa cz.length csc] 80)))
  have C4 := hide c4
  clear k0 k1 k2 hB1 h4 t3 hw1 c2 c3 c4 HBE x0 x1 x3 x4 y0 y2 y3 y4
  generalize (besideN a b).empty = be at *
  generalize hgf : (besideN a b).first = bfi at *
  generalize hgl : (besideN a b).last = bla at *
  have HGF := hide hgf
  have HGL := hide hgl
  clear hgf hgl
  go_upto_region 3 with fail
  go_cut [] (fun wx => ∃ nva n nvc, Hid (Bh w wx w1.heap.size (partA a (.slice ana a.next.length anc) (.slice asa az.length asc)) (partA b (.slice bna b.next.length bnc) (.slice bsa bz.length bsc)) #[.bool be, .int .i64 (bfi : Int), .int .i64 (bla : Int), .slice nva n nvc, .slice csa cz.length csc] ∧ Keeps wx (w.heap.size + 1 + 1) w1.heap.size (.slice nva n nvc) (.slice csa cz.length csc) (behindN a b).next cz))
  case first =>
    go_region_with ((first
      | (go_at_call 42; refine (unhide HM1 _).mono ?_; rintro e w' ⟨rfl, rfl⟩)
      | (go_at_call 63; refine (unhide HL _ _ (by exact unhide C2)).mono ?_; rintro e w3 ⟨v', rfl, hv, hw3⟩; have hb3 := (unhide HB4).drew.next hw3; obtain ⟨v0, v1, v2, v3, v4⟩ := part_cells hb3.b3; obtain ⟨f0, f1, f2, f3, f4⟩ := part_free hb3.b3; obtain ⟨nva, nvc, rfl⟩ := hv.form; have HB3 := hide hb3; have HV := hide hv; have HZ := hide ((unhide C3).drew.below hw3); clear hb3 hv hw3 v0 v1 v2 v4 f0 f1 f2 f4)))
    all_goals
      go_wp2_with fail
      go_meet
      exact ⟨nva, _, nvc, (unhide HB3).put (by omega) _, Keeps.setC ⟨(unhide HV).zero, unhide HZ, ⟨_, _, (unhide HB3).b2⟩, ⟨_, _, (unhide HB3).b3⟩⟩ _ _⟩
  case rest =>
    obtain ⟨nva, n, nvc, HC⟩ := hcut
    obtain ⟨x0, x1, x2, x3, x4⟩ := part_cells (unhide HC).1.b0
    obtain ⟨y0, y1, y2, y3, y4⟩ := part_cells (unhide HC).1.b1
    obtain ⟨p0, p1, p2, p3, p4⟩ := part_cells (unhide HC).1.b2
    obtain ⟨r0, r1, r2, r3, r4⟩ := part_free (unhide HC).1.b2
    obtain ⟨s0, s1, s2, s3, s4⟩ := part_cells (unhide HC).1.b3
    obtain ⟨f0, f1, f2, f3, f4⟩ := part_free (unhide HC).1.b3
    clear x2 x3 x4 y1 y3 y4
    cases hae : a.empty <;> cases hbe : b.empty
    all_goals
      go_wp2_with (go_at_call 42; refine (unhide HM2 _).mono ?_; rintro e w' ⟨rfl, rfl⟩)
    all_goals
      have hgf := unhide HGF
      have hgl := unhide HGL
      have hbl := unhide HBL
      refine bodyPost_ret (v := .agg #[.bool (behindN a b).empty, .int .i64 ((behindN a b).first : Int), .int .i64 ((behindN a b).last : Int), .slice nva n nvc, .slice csa cz.length csc]) (by simp [results, Try.results39, go_sem, behindN, *]) rfl ?_
      refine ⟨_, rfl, ⟨_, _, cz, rfl, Keeps.n (b := w.heap.size + 1 + 1) (c := w1.heap.size) (sv := .slice csa cz.length csc) (zs := cz) ?_, Keeps.s (b := w.heap.size + 1 + 1) (c := w1.heap.size) (nv := .slice nva n nvc) (xs := (behindN a b).next) ?_, unhide C4⟩, ?_⟩
      · repeat (first | refine Keeps.setB ?_ _ _ | refine Keeps.setC ?_ _ _)
        exact (unhide HC).2
      · repeat (first | refine Keeps.setB ?_ _ _ | refine Keeps.setC ?_ _ _)
        exact (unhide HC).2
      · repeat (refine Below.setCell ?_ (by first | (simp; done) | (simp; omega)) _)
        exact (unhide HC).1.below

end Go.Proofs.Ytobfpgoepaeknaa
