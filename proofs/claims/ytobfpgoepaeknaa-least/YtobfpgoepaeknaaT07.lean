/-
  The weight of a tree: weigh.
  pattern.Read and veil.Pattern: what they answer, by the reading of a text.
  Sets of spots as numbers: move, has, onePart; rows of numbers.
-/
import Derived.Test.YtobfpgoepaeknaaT06
import Derived.Test.YtobfpgoepaeknaaLL
import Derived.Laws.BitsAllLaws
namespace Go.Proofs.Ytobfpgoepaeknaa
open Go.RowKit

def intCells (ws : List Int) : List Value := ws.map fun v => .int .i64 v

/-- The row of nodes in memory. -/
theorem node_cells {w : World} {B g cap : Nat} {ns : List Nd} (h : w.ownsRow B 109 6 (.slice (some ⟨g, 0, none⟩) ns.length cap) ns.length (nodeCells ns)) (k : Nat) (n : Nd) (hk : ns[k]? = some n) :
    w.cell? ⟨g, k * 6, none⟩ = some (.int .i64 n.kind) ∧ w.cell? ⟨g, k * 6 + 1, none⟩ = some (.int .i64 n.left) ∧ w.cell? ⟨g, k * 6 + 2, none⟩ = some (.int .i64 n.right) ∧
    w.cell? ⟨g, k * 6 + 3, none⟩ = some (.int .i64 n.low) ∧ w.cell? ⟨g, k * 6 + 4, none⟩ = some (.int .i64 n.high) ∧ w.cell? ⟨g, k * 6 + 5, none⟩ = some (.int .i64 n.set) := by
  have key : ∀ (l : List Nd) (k : Nat) (j : Nat), j < 6 → l[k]? = some n → (nodeCells l)[k * 6 + j]? = (ndCells n)[j]? := by
    intro l
    induction l with
    | nil => intro k j _ h; simp at h
    | cons a l ih =>
      intro k j hj h
      have e : nodeCells (a :: l) = ndCells a ++ nodeCells l := by simp [nodeCells]
      rw [e]
      have hl : (ndCells a).length = 6 := rfl
      cases k with
      | zero =>
        simp only [List.getElem?_cons_zero, Option.some.injEq] at h
        subst h
        rw [List.getElem?_append_left (by rw [hl]; omega)]
        simp
      | succ k =>
        rw [List.getElem?_append_right (by rw [hl]; omega), hl]
        have := ih k j hj (by simpa using h)
        rw [← this]
        congr 1
        omega
  have cell : ∀ j u, (nodeCells ns)[j]? = some u → w.cell? ⟨g, j, none⟩ = some u := by
    intro j u hu
    have := h.cells (g := g) rfl j u hu
    have hadd : (⟨g, 0, none⟩ : Addr).add j = ⟨g, j, none⟩ := by unfold Addr.add; split <;> simp_all
    rwa [hadd] at this
  refine ⟨cell _ _ ?_, cell _ _ ?_, cell _ _ ?_, cell _ _ ?_, cell _ _ ?_, cell _ _ ?_⟩
  · have := key ns k 0 (by omega) hk; simpa [ndCells] using this
  · have := key ns k 1 (by omega) hk; simpa [ndCells] using this
  · have := key ns k 2 (by omega) hk; simpa [ndCells] using this
  · have := key ns k 3 (by omega) hk; simpa [ndCells] using this
  · have := key ns k 4 (by omega) hk; simpa [ndCells] using this
  · have := key ns k 5 (by omega) hk; simpa [ndCells] using this

theorem int_row {w : World} {B g cap n : Nat} {ws : List Int} (h : w.ownsRow B 3 1 (.slice (some ⟨g, 0, none⟩) n cap) n (intCells ws)) : IntRow w g ws := by
  intro j hj
  have := h.cells (g := g) rfl j (.int .i64 (ws.getD j 0)) (by simp [intCells, hj])
  have hadd : (⟨g, 0, none⟩ : Addr).add j = ⟨g, j, none⟩ := by unfold Addr.add; split <;> simp_all
  rwa [hadd] at this


theorem info3 : (Try.prog.info? 3).map (fun i => (i.zero, i.size, i.bytes)) = some (some (.int .i64 0), 1, 8) := by kernel_rfl

set_option maxHeartbeats 1000000 in
theorem weigh_any (w : World) (B : Nat) (nv sv : Value) (ns : List Nd) (h : w.ownsRow B 109 6 nv ns.length (nodeCells ns)) (hn : ns.length ≤ 1000) (hne : ns ≠ []) (hhi : ∀ n ∈ ns, 0 ≤ n.high ∧ n.high ≤ 9) :
    Calls Try.prog 37 #[.agg #[nv, sv]] w fun e w' =>
      e = .returned (.int .i64 (lastW (weighAll ns))) ∧ Below w.heap.size w w' := by
  obtain ⟨m, hm⟩ : ∃ m, ns.length = m + 1 := ⟨ns.length - 1, by have := List.length_pos_iff.2 hne; omega⟩
  obtain ⟨g, cap, rfl⟩ : ∃ g cap, nv = .slice (some ⟨g, 0, none⟩) ns.length cap := by
    rw [hm] at h ⊢; exact own_form h
  have hg := (h.lt g rfl).2
  obtain ⟨i, i0, i1, i2, i3⟩ := info_of info3
  have HI := hide (And.intro i0 (And.intro i1 (And.intro i2 i3)))
  have H := hide h
  have HHI := hide hhi
  have HN := hide hn
  have hL : (ns.length : Int) ≤ 1000 := by omega
  clear i0 i1 i2 i3 hm hne h hhi hn
  go_enter Try.func37, Try.ntmps37
  go_wp2
  go_loopw [3, 4, 5] (fun v la ix wr => ∃ k g2 cap2 : Nat, v = .slice (some ⟨g2, 0, none⟩) k cap2 ∧ la = .int .i64 (lastW (weighAll (ns.take k))) ∧ ix = .int .i64 k ∧ k ≤ ns.length ∧
    Hid (wr.ownsRow (w.heap.size + 1) 3 1 (.slice (some ⟨g2, 0, none⟩) k cap2) k (intCells (weighAll (ns.take k))) ∧ Below w.heap.size w wr ∧ wr.heap[w.heap.size]? = some (Obj.cells #[.slice (some ⟨g, 0, none⟩) ns.length cap, sv] 50 (0, 0)))) (fun _ _ ix _ => ns.length - (intOf ix).toNat)
  case atStart =>
    refine ⟨0, w.heap.size + 1, 0, rfl, rfl, rfl, Nat.zero_le _, ?_, ?_, ?_⟩
    · have := World.ownsRow_made (base := w.heap.size + 1) (e := 3) (size := 1) (w.alloc (Obj.cells #[.slice (some ⟨g, 0, none⟩) ns.length cap, sv] 50)) #[] 0 (by simp) (by simp) rfl
      simpa [intCells, weighAll] using this
    · exact ((Below.refl _ _).alloc (Nat.le_refl _) _).alloc (by simp) _
    · exact heap_alloc2_old _ _ _
  case round =>
    rename_i wr
    obtain ⟨k, g2, cap2, rfl, rfl, rfl, hk, HH⟩ := hrel
    obtain ⟨ho, hbel, hbox⟩ := unhide HH
    have cb : wr.cell? ⟨w.heap.size, 0, none⟩ = some (.slice (some ⟨g, 0, none⟩) ns.length cap) := by rw [cell_of_row _ _ _ _ _ _ hbox]; rfl
    by_cases hlt : k < ns.length
    · obtain ⟨nd, hnd⟩ : ∃ nd, ns[k]? = some nd := ⟨ns[k], List.getElem?_eq_getElem hlt⟩
      obtain ⟨x0, x1, x2, x3, x4, x5⟩ := node_cells (unhide H) k nd hnd
      have y0 := (hbel.cell (p := ⟨g, k * 6, none⟩) hg).trans x0
      have y1 := (hbel.cell (p := ⟨g, k * 6 + 1, none⟩) hg).trans x1
      have y2 := (hbel.cell (p := ⟨g, k * 6 + 2, none⟩) hg).trans x2
      have y3 := (hbel.cell (p := ⟨g, k * 6 + 3, none⟩) hg).trans x3
      have y4 := (hbel.cell (p := ⟨g, k * 6 + 4, none⟩) hg).trans x4
      have y5 := (hbel.cell (p := ⟨g, k * 6 + 5, none⟩) hg).trans x5
      have hlt' : (k : Int) < (ns.length : Int) := by omega
      have HND := hide hnd
      clear hbel hbox ho x0 x1 x2 x3 x4 x5 hnd hlt
      have hlk : (weighAll (ns.take k)).length = k := by rw [weighAll_len, List.length_take, Nat.min_eq_left hk]
      have hst : weighAll (ns.take (k + 1)) = weighAll (ns.take k) ++ [weighNd (weighAll (ns.take k)) nd] := by
        rw [List.take_add_one, unhide HND, Option.toList_some, weighAll_snoc]
      have hmem : nd ∈ ns := List.mem_of_getElem? (unhide HND)
      have hW := weighNode_any wr g2 cap2 (weighAll (ns.take k)) nd.kind nd.left nd.right nd.low nd.high nd.set (int_row (unhide HH).1) (weighAll_bd _) (unhide HHI nd hmem).1 (unhide HHI nd hmem).2
      rw [hlk] at hW
      have HW := hide hW
      have HST := hide hst
      have hv := clampW_bd (rawW (weighAll (ns.take k)) nd)
      have eN : weighNd (weighAll (ns.take k)) ⟨nd.kind, nd.left, nd.right, nd.low, nd.high, nd.set⟩ = weighNd (weighAll (ns.take k)) nd := rfl
      rw [eN] at HW
      have hk1000 : k ≤ 1000 := by have := unhide HN; omega
      have HK := hide hk1000
      clear hlk hst hW hmem eN hk1000 hv
      generalize weighNd (weighAll (ns.take k)) nd = v1 at *
      go_wp2_with fail
      refine (unhide HW).mono ?_
      rintro e w2 ⟨rfl, hw2⟩
      have ho2 := (unhide HH).1.kept (grownBy_of_below hw2 none) (Or.inr (by simp [Value.ownBlock]))
      have HO2 := hide (ho2.alloc (Obj.cells #[.int .i64 v1] 3))
      have hb2 : Below w.heap.size w w2 := (unhide HH).2.1.trans (hw2.mono (unhide HH).2.1.size)
      have HB2 := hide hb2
      have hbx : w.heap.size < wr.heap.size := (Array.getElem?_eq_some_iff.1 (unhide HH).2.2).1
      have HX2 := hide ((hw2.block _ hbx).trans (unhide HH).2.2)
      have hs2 := hw2.size
      clear ho2 hb2 hw2 y0 y1 y2 y3 y4 y5 cb
      go_wp2_with (at_builtin; refine wpList_append_own _ rfl (.tmp 21) (.tmp 23) 53 rfl (w.heap.size + 1) 3 i (.int .i64 0) 1 8 Try.underlying53 (unhide HI).1 (unhide HI).2.1 (unhide HI).2.2.1 (unhide HI).2.2.2 rfl (by decide) _ k _ rfl (unhide HO2) ⟨w2.heap.size, 0, none⟩ 1 1 [.int .i64 v1] rfl rfl ?c1 ?c2 ?b1 ?b2 ?b3 ?next)
      case c1 => exact cell_one_new _ _ _
      case c2 => intro u hu; simp at hu; subst hu; rfl
      case b1 => have := unhide HK; unfold maxLen; omega
      case b2 => have := unhide HK; omega
      case b3 => have := (unhide HB2).size; simp; omega
      case next =>
        intro v' w3 ho3 hg3 _
        obtain ⟨g3, cap3, rfl⟩ := own_form ho3
        have HO3 := hide ho3
        have HG3 := hide hg3
        clear ho3 hg3
        go_wp2
        go_roundw
        case rel =>
          refine ⟨k + 1, g3, cap3, rfl, ?_, by go_num, by omega, ?_, ?_, ?_⟩
          · rw [unhide HST]; simp [lastW]
          · rw [unhide HST]; simpa [intCells] using unhide HO3
          · exact ((unhide HB2).alloc (by omega) _).grown (unhide HG3) (by simp; omega) (fun k' hk' => by have := ((unhide HO2).lt k' hk').1; omega)
          · rw [(unhide HG3).block _ (by simp; omega) (fun e => by have := ((unhide HO2).lt _ e.symm).1; omega), Below.heap_alloc _ _ _ (by omega)]
            exact unhide HX2
        case measure => simp [intOf]; omega
    · have hk2 : k = ns.length := by omega
      subst hk2
      have e1 : ns.take ns.length = ns := List.take_of_length_le (Nat.le_refl _)
      have HE := hide e1
      have HB := hide hbel
      clear hbel hbox ho e1 HH
      go_wp2
      go_ret
      exact ⟨ret_int (by rw [unhide HE]), unhide HB⟩

end Go.Proofs.Ytobfpgoepaeknaa
namespace Go.Proofs.Ytobfpgoepaeknaa
open Go.RowKit

set_option maxHeartbeats 400000 in
theorem Read_long (w : World) (t : ByteArray) (ht : 60 < t.size) :
    Calls Try.prog 26 #[.string t] w fun e w' =>
      e = .returned (.tuple #[.agg #[.slice none 0 0, .slice none 0 0], .int .i64 1, .int .i64 0]) ∧ Below w.heap.size w w' := by
  have ht' : (60 : Int) < (t.size : Int) := by omega
  go_enter Try.func26, Try.ntmps26
  go_wp2
  exact bodyPost_ret (v := .tuple #[.agg #[.slice none 0 0, .slice none 0 0], .int .i64 1, .int .i64 0]) (by simp [results, Try.results26, go_sem]) rfl ⟨rfl, (Below.refl _ _).alloc (Nat.le_refl _) _⟩

theorem ownsRow_less {w : World} {B B' e z : Nat} {v : Value} {n : Nat} {xs : List Value} (h : w.ownsRow B e z v n xs) (hB : B' ≤ B) : w.ownsRow B' e z v n xs := by
  refine ⟨h.1, ?_⟩
  rcases h.2 with h2 | ⟨g, cap, cur, hv, hg, r⟩
  · exact Or.inl h2
  · exact Or.inr ⟨g, cap, cur, hv, Nat.le_trans hB hg, r⟩

theorem below_set2 {B : Nat} {a w : World} {u v : Value} (h : Below B a w) : Below B a ((w.setCell ⟨B, 0, none⟩ u).setCell ⟨B, 1, none⟩ v) :=
  (h.setCell (p := ⟨B, 0, none⟩) (Nat.le_refl _) u).setCell (p := ⟨B, 1, none⟩) (Nat.le_refl _) v
theorem own_slice {w : World} {B e z : Nat} {v : Value} {n : Nat} {xs : List Value} (h : w.ownsRow B e z v n xs) : ∃ a n' c, v = .slice a n' c := by
  rcases h.2 with ⟨h1, _⟩ | ⟨g, cap, cur, hv, _⟩
  · exact ⟨_, _, _, h1⟩
  · exact ⟨_, _, _, hv⟩

theorem readErr_bad {t : ByteArray} {y : St} (h : y.s.bad = true ∨ y.s.k < t.size) : readErr t y = (2, (y.s.k : Int)) := by
  unfold readErr
  rw [if_pos]
  simpa using h
theorem readErr_big {t : ByteArray} {y : St} (h : y.s.bad = false) (h2 : ¬ y.s.k < t.size) (h3 : 12 < lastW (weighAll y.ns)) : readErr t y = (3, 0) := by
  unfold readErr
  rw [if_neg (by simp [h]; omega), if_pos h3]
theorem readErr_ok {t : ByteArray} {y : St} (h : y.s.bad = false) (h2 : ¬ y.s.k < t.size) (h3 : ¬ 12 < lastW (weighAll y.ns)) : readErr t y = (0, lastW (weighAll y.ns)) := by
  unfold readErr
  rw [if_neg (by simp [h]; omega), if_neg h3]

set_option maxHeartbeats 1000000 in
theorem Read_any (w : World) (t : ByteArray) (ht : t.size ≤ 60) :
    Calls Try.prog 26 #[.string t] w fun e w' => ∃ y i nv sv, Rds t 0 0 x0 (y, i) ∧
      (∃ a n c, nv = .slice a n c) ∧ (∃ a n c, sv = .slice a n c) ∧ e = .returned (.tuple #[.agg #[nv, sv], .int .i64 (readErr t y).1, .int .i64 (readErr t y).2]) ∧ Below w.heap.size w w' ∧
      ((readErr t y).1 = 0 → w'.ownsRow w.heap.size 109 6 nv y.ns.length (nodeCells y.ns) ∧ w'.ownsRow w.heap.size 85 256 sv y.fs.length (setsCells y.fs)) := by
  have ht' : (t.size : Int) ≤ 60 := by omega
  have R0 : RdS ((w.alloc (Obj.cells #[.slice none 0 0, .slice none 0 0] 50)).alloc (Obj.cells #[.string t, .int .i64 0, .bool false, .slice none 0 0, .slice none 0 0] 76)) (w.heap.size + 1) t x0 := by
    refine ⟨.slice none 0 0, .slice none 0 0, ?_, World.ownsRow_nil _ _ _ _, World.ownsRow_nil _ _ _ _⟩
    exact heap_alloc2_new _ _ _
  have HP := hide (readPattern_any t ht t.size _ _ x0 R0 ⟨Nat.zero_le _, Nat.le_refl _, by simp [x0]; omega⟩ (Nat.sub_le _ _))
  have HT0 := hide (heap_alloc2_old w (Obj.cells #[.slice none 0 0, .slice none 0 0] 50) (Obj.cells #[.string t, .int .i64 0, .bool false, .slice none 0 0, .slice none 0 0] 76))
  have HB0 := hide (((Below.refl w.heap.size w).alloc (Nat.le_refl _) (Obj.cells #[.slice none 0 0, .slice none 0 0] 50)).alloc (by simp) (Obj.cells #[.string t, .int .i64 0, .bool false, .slice none 0 0, .slice none 0 0] 76))
  clear R0
  go_enter Try.func26, Try.ntmps26
  go_wp2_with fail
  refine (unhide HP).mono ?_
  rintro e w1 ⟨y, i, rfl, hr, hb1, nv, sv, h1, h2, h3⟩
  have hy := Rds.facts (x := x0) (Nat.zero_le _) hr
  have hky : y.s.k ≤ t.size := hy.2.1
  have hny : y.ns.length ≤ 1000 := by have := hy.2.2.2; simp [x0] at this; omega
  obtain ⟨fu, hfu⟩ := hr
  have hdo := rdF_ok t fu 0 0 x0 (y, i) hfu (by intro n hn; simp [x0] at hn)
  have hne : y.ns ≠ [] := by have := hdo.2; intro e; rw [e] at this; simp [lays] at this
  have HR := hide (show Rds t 0 0 x0 (y, i) from ⟨fu, hfu⟩)
  have hT1 := (hb1.block w.heap.size (by omega)).trans (unhide HT0)
  have HT1 := hide hT1
  have hB1 := (unhide HB0).trans (hb1.mono (by omega))
  have HB1 := hide hB1
  have t0 : w1.cell? ⟨w.heap.size, 0, none⟩ = some (.slice none 0 0) := by rw [cell_of_row _ _ _ _ _ _ hT1]; rfl
  have t1 : w1.cell? ⟨w.heap.size, 1, none⟩ = some (.slice none 0 0) := by rw [cell_of_row _ _ _ _ _ _ hT1]; rfl
  have u0 : w1.frozen? ⟨w.heap.size, 0, none⟩ = false := frozen_of_row _ _ _ _ _ hT1
  have u1 : w1.frozen? ⟨w.heap.size, 1, none⟩ = false := frozen_of_row _ _ _ _ _ hT1
  obtain ⟨c0, c1, c2, c3, c4⟩ := h1.cells
  obtain ⟨na, nn, nc, rfl⟩ := own_slice h2
  obtain ⟨sa, sn, sc, rfl⟩ := own_slice h3
  have H2 := hide h2
  have H3 := hide h3
  have HD := hide hdo.1
  have hs1 := hB1.size
  have hk60 : (y.s.k : Int) ≤ 60 := by omega
  clear hy hfu hdo hT1 hB1 h1 h2 h3 hb1 HP HT0 HB0
  by_cases hbad : y.s.bad = true
  · have HE := hide (readErr_bad (t := t) (y := y) (Or.inl hbad))
    go_wp2
    go_region
    all_goals go_wp2
    all_goals
      refine bodyPost_ret (v := .tuple #[.agg #[.slice none 0 0, .slice none 0 0], .int .i64 2, .int .i64 (y.s.k : Int)]) (by simp [results, Try.results26, go_sem, t0, t1]) rfl ?_
      exact ⟨y, i, _, _, unhide HR, ⟨_, _, _, rfl⟩, ⟨_, _, _, rfl⟩, by rw [unhide HE], (by first | exact below_set2 (unhide HB1) | exact (below_set2 (unhide HB1)).drew), fun h => by rw [unhide HE] at h; cases h⟩
  · have hbad' : y.s.bad = false := by simpa using hbad
    clear hbad
    by_cases hlt : y.s.k < t.size
    · have HE := hide (readErr_bad (t := t) (y := y) (Or.inr hlt))
      have hlt' : (y.s.k : Int) < (t.size : Int) := by omega
      clear hlt
      go_wp2
      go_region
      all_goals go_wp2
      all_goals
        refine bodyPost_ret (v := .tuple #[.agg #[.slice none 0 0, .slice none 0 0], .int .i64 2, .int .i64 (y.s.k : Int)]) (by simp [results, Try.results26, go_sem, t0, t1]) rfl ?_
        exact ⟨y, i, _, _, unhide HR, ⟨_, _, _, rfl⟩, ⟨_, _, _, rfl⟩, by rw [unhide HE], (by first | exact below_set2 (unhide HB1) | exact (below_set2 (unhide HB1)).drew), fun h => by rw [unhide HE] at h; cases h⟩
    · have hlt' : (t.size : Int) ≤ (y.s.k : Int) := by omega
      have HW := hide (weigh_any w1 _ _ (.slice sa sn sc) y.ns (unhide H2) hny hne (unhide HD))
      have HLT := hide hlt
      clear hlt
      go_wp2_with fail
      refine (unhide HW).mono ?_
      rintro e w2 ⟨rfl, hw2⟩
      have hsz : w.heap.size < w1.heap.size := (Array.getElem?_eq_some_iff.1 (unhide HT1)).1
      have hbl : w.heap.size + 1 < w1.heap.size := block_lt_of_cell c0
      have t0' := (hw2.cell (p := ⟨w.heap.size, 0, none⟩) hsz).trans t0
      have t1' := (hw2.cell (p := ⟨w.heap.size, 1, none⟩) hsz).trans t1
      have u0' := (hw2.frozen (p := ⟨w.heap.size, 0, none⟩) hsz).trans u0
      have u1' := (hw2.frozen (p := ⟨w.heap.size, 1, none⟩) hsz).trans u1
      have d3 := (hw2.cell (p := ⟨w.heap.size + 1, 3, none⟩) hbl).trans c3
      have d4 := (hw2.cell (p := ⟨w.heap.size + 1, 4, none⟩) hbl).trans c4
      have hw2' : Below w.heap.size w w2 := (unhide HB1).trans (hw2.mono (by omega))
      have HB2 := hide hw2'
      have hg2 := grownBy_of_below hw2 none
      have HN2 := hide ((unhide H2).kept hg2 (by cases (Value.slice na nn nc).ownBlock <;> simp))
      have HS2 := hide ((unhide H3).kept hg2 (by cases (Value.slice sa sn sc).ownBlock <;> simp))
      clear t0 t1 u0 u1 c0 c1 c2 c3 c4 hw2 hw2' hg2 HB1 HT1 HW
      by_cases hbig : 12 < lastW (weighAll y.ns)
      · have HE := hide (readErr_big (t := t) (y := y) hbad' (unhide HLT) hbig)
        generalize lastW (weighAll y.ns) = lw at *
        go_wp2
        refine bodyPost_ret (v := .tuple #[.agg #[.slice none 0 0, .slice none 0 0], .int .i64 3, .int .i64 0]) (by simp [results, Try.results26, go_sem, t0', t1']) rfl ?_
        exact ⟨y, i, _, _, unhide HR, ⟨_, _, _, rfl⟩, ⟨_, _, _, rfl⟩, by rw [unhide HE], below_set2 (unhide HB2), fun h => by rw [unhide HE] at h; cases h⟩
      · have HE := hide (readErr_ok (t := t) (y := y) hbad' (unhide HLT) hbig)
        have hbig' : lastW (weighAll y.ns) ≤ 12 := by omega
        clear hbig
        generalize lastW (weighAll y.ns) = lw at *
        go_wp2
        refine bodyPost_ret (v := .tuple #[.agg #[.slice na nn nc, .slice sa sn sc], .int .i64 0, .int .i64 lw]) (by simp [results, Try.results26, go_sem, t0', t1']) rfl ?_
        refine ⟨y, i, _, _, unhide HR, ⟨_, _, _, rfl⟩, ⟨_, _, _, rfl⟩, by rw [unhide HE], below_set2 (unhide HB2), fun _ => ⟨?_, ?_⟩⟩
        · exact ownsRow_less (ownsRow_setCell_below (ownsRow_setCell_below (unhide HN2) (by simp; omega) _) (by simp; omega) _) (by omega)
        · exact ownsRow_less (ownsRow_setCell_below (ownsRow_setCell_below (unhide HS2) (by simp; omega) _) (by simp; omega) _) (by omega)

end Go.Proofs.Ytobfpgoepaeknaa
namespace Go.Proofs.Ytobfpgoepaeknaa
open Go.RowKit

def top : Nat := 1152921504606846976
theorem ofInt_i64 (a : Nat) (ha : a < top) : (BitVec.ofInt 64 (a : Int)).toNat = a := by
  unfold top at ha
  rw [BitVec.ofInt_natCast, BitVec.toNat_ofNat]; exact Nat.mod_eq_of_lt (by omega)
theorem wrap_i64 (a : Nat) (ha : a < top) : IntKind.i64.wrap (a : Int) = (a : Int) := by
  unfold top at ha
  unfold IntKind.wrap
  simp only [IntKind.bits, IntKind.signed]
  have h1 : (a : Int) % (2 ^ 64 : Int) = a := Int.emod_eq_of_lt (by omega) (by omega)
  simp only [h1]
  rw [if_neg (by simp; omega)]
theorem i64_and_nat (a b : Nat) (ha : a < top) (hb : b < top) : bits .and .i64 (a : Int) (b : Int) = ((a &&& b : Nat) : Int) := by
  have hx : a &&& b < top := Nat.lt_of_le_of_lt Nat.and_le_left ha
  show IntKind.i64.wrap ((BitVec.ofInt 64 (a : Int) &&& BitVec.ofInt 64 (b : Int)).toNat : Int) = _
  rw [BitVec.toNat_and, ofInt_i64 a ha, ofInt_i64 b hb, wrap_i64 _ hx]
theorem i64_or_nat (a b : Nat) (ha : a < top) (hb : b < top) : bits .or .i64 (a : Int) (b : Int) = ((a ||| b : Nat) : Int) := by
  have hx : a ||| b < top := Nat.or_lt_two_pow (n := 60) ha hb
  show IntKind.i64.wrap ((BitVec.ofInt 64 (a : Int) ||| BitVec.ofInt 64 (b : Int)).toNat : Int) = _
  rw [BitVec.toNat_or, ofInt_i64 a ha, ofInt_i64 b hb, wrap_i64 _ hx]

theorem wrap64_nat (a : Nat) (ha : a < top) : wrap64 (a : Int) = (a : Int) := by unfold top at ha; unfold wrap64; omega
theorem cast_move (x k : Nat) : ((x * 2 ^ k : Nat) : Int) = (x : Int) * 2 ^ k := by simp

set_option maxHeartbeats 400000 in
theorem move_any (x k : Nat) (w : World) (hk : k ≤ 60) (hx : x * 2 ^ k < top) :
    Calls Try.prog 42 #[.int .i64 (x : Int), .int .i64 (k : Int)] w fun e w' => e = .returned (.int .i64 ((x * 2 ^ k : Nat) : Int)) ∧ w' = w := by
  have HW := hide (wrap64_nat _ hx)
  have hk' : (k : Int) ≤ 60 := by omega
  clear hx
  go_enter Try.func42, Try.ntmps42
  go_wp2
  go_ret
  exact ⟨ret_int (by rw [← unhide HW, cast_move]), rfl⟩

theorem pow_top {k : Nat} (hk : k < 60) : 2 ^ k < top := Nat.pow_lt_pow_right (a := 2) (m := k) (n := 60) (by omega) hk
theorem bit_and (x k : Nat) : ((2 ^ k &&& x : Nat) : Int) ≠ 0 ↔ x.testBit k = true := by
  have h : 2 ^ k &&& x ≠ 0 ↔ x.testBit k = true := by
    rw [and_ne_zero]
    constructor
    · rintro ⟨i, h1, h2⟩; rw [bit_two] at h1; subst h1; exact h2
    · intro h; exact ⟨k, (bit_two k k).2 rfl, h⟩
  rw [← h]; omega

set_option maxHeartbeats 400000 in
theorem has_any (x k : Nat) (w : World) (hk : k < 60) (hx : x < top) :
    Calls Try.prog 64 #[.int .i64 (x : Int), .int .i64 (k : Int)] w fun e w' => e = .returned (.bool (x.testBit k)) ∧ w' = w := by
  have hm := move_any 1 k w (Nat.le_of_lt hk) (by rw [Nat.one_mul]; exact pow_top hk)
  rw [Nat.one_mul] at hm
  have HM := hide hm
  have e1 := i64_and_nat (2 ^ k) x (pow_top hk) hx
  have HB := hide (bit_and x k)
  clear hm hk hx
  generalize 2 ^ k = b at *
  go_enter Try.func64, Try.ntmps64
  go_wp2_with (go_at_call 42; refine (unhide HM).mono ?_; rintro e w' ⟨rfl, rfl⟩)
  go_ret
  exact ⟨ret_bool (by rw [Bool.eq_iff_iff, ← unhide HB]; simp), rfl⟩

def natCells (xs : List Nat) : List Value := xs.map fun n : Nat => .int .i64 (n : Int)

/-- A row of numbers in memory, and a slice of it. -/
def NRow (w : World) (B : Nat) (v : Value) (xs : List Nat) : Prop := w.ownsRow B 3 1 v xs.length (natCells xs)
def ZRow (w : World) (B : Nat) (v : Value) (zs : List Int) : Prop := w.ownsRow B 3 1 v zs.length (intCells zs)
def setOf (fs : List (Nat → Bool)) (z : Int) : Nat → Bool := if 0 ≤ z then (fs[z.toNat]?).getD (fun _ => false) else fun _ => false

/-- A part in memory. -/
def PartAt (w : World) (v : Value) (fs : List (Nat → Bool)) (p : Part) : Prop :=
  ∃ nv sv zs, v = .agg #[.bool p.empty, .int .i64 (p.first : Int), .int .i64 (p.last : Int), nv, sv] ∧ NRow w 0 nv p.next ∧ ZRow w 0 sv zs ∧ zs.map (setOf fs) = p.sets

theorem own_below {w w' : World} {B e z : Nat} {v : Value} {n : Nat} {xs : List Value} (h : w.ownsRow B e z v n xs) (hb : Below w.heap.size w w') : w'.ownsRow B e z v n xs :=
  h.kept (grownBy_of_below hb none) (by cases v.ownBlock <;> simp)
theorem NRow.below {w w' : World} {B : Nat} {v : Value} {xs : List Nat} (h : NRow w B v xs) (hb : Below w.heap.size w w') : NRow w' B v xs := own_below h hb
theorem ZRow.below {w w' : World} {B : Nat} {v : Value} {xs : List Int} (h : ZRow w B v xs) (hb : Below w.heap.size w w') : ZRow w' B v xs := own_below h hb
theorem PartAt.below {w w' : World} {v : Value} {fs : List (Nat → Bool)} {p : Part} (h : PartAt w v fs p) (hb : Below w.heap.size w w') : PartAt w' v fs p := by
  obtain ⟨nv, sv, zs, h1, h2, h3, h4⟩ := h
  exact ⟨nv, sv, zs, h1, h2.below hb, h3.below hb, h4⟩
theorem NRow.zero {w : World} {B : Nat} {v : Value} {xs : List Nat} (h : NRow w B v xs) : NRow w 0 v xs := ownsRow_less h (Nat.zero_le _)
theorem ZRow.zero {w : World} {B : Nat} {v : Value} {xs : List Int} (h : ZRow w B v xs) : ZRow w 0 v xs := ownsRow_less h (Nat.zero_le _)
theorem NRow.form {w : World} {B : Nat} {v : Value} {xs : List Nat} (h : NRow w B v xs) : (∃ a c, v = .slice a xs.length c) := by
  rcases h.2 with ⟨rfl, h0⟩ | ⟨g, cap, cur, rfl, _⟩
  · exact ⟨none, 0, by rw [h0]⟩
  · exact ⟨_, _, rfl⟩
theorem ZRow.form {w : World} {B : Nat} {v : Value} {xs : List Int} (h : ZRow w B v xs) : (∃ a c, v = .slice a xs.length c) := by
  rcases h.2 with ⟨rfl, h0⟩ | ⟨g, cap, cur, rfl, _⟩
  · exact ⟨none, 0, by rw [h0]⟩
  · exact ⟨_, _, rfl⟩
theorem NRow.at {w : World} {B : Nat} {v : Value} {xs : List Nat} (h : NRow w B v xs) {k : Nat} (hk : k < xs.length) : ∃ g cap, v = .slice (some ⟨g, 0, none⟩) xs.length cap ∧ w.cell? ⟨g, k, none⟩ = some (.int .i64 ((xs.getD k 0 : Nat) : Int)) := by
  obtain ⟨m, hm⟩ : ∃ m, xs.length = m + 1 := ⟨xs.length - 1, by omega⟩
  have h' : w.ownsRow B 3 1 v xs.length (natCells xs) := h
  obtain ⟨g, cap, rfl⟩ : ∃ g cap, v = .slice (some ⟨g, 0, none⟩) xs.length cap := by
    rw [hm] at h' ⊢; exact own_form h'
  refine ⟨g, cap, rfl, ?_⟩
  have := h'.cells (g := g) rfl k (.int .i64 ((xs.getD k 0 : Nat) : Int)) (by simp [natCells, hk])
  have hadd : (⟨g, 0, none⟩ : Addr).add k = ⟨g, k, none⟩ := by unfold Addr.add; split <;> simp_all
  rwa [hadd] at this
theorem ZRow.at {w : World} {B : Nat} {v : Value} {xs : List Int} (h : ZRow w B v xs) {k : Nat} (hk : k < xs.length) : ∃ g cap, v = .slice (some ⟨g, 0, none⟩) xs.length cap ∧ w.cell? ⟨g, k, none⟩ = some (.int .i64 (xs.getD k 0)) := by
  obtain ⟨m, hm⟩ : ∃ m, xs.length = m + 1 := ⟨xs.length - 1, by omega⟩
  have h' : w.ownsRow B 3 1 v xs.length (intCells xs) := h
  obtain ⟨g, cap, rfl⟩ : ∃ g cap, v = .slice (some ⟨g, 0, none⟩) xs.length cap := by
    rw [hm] at h' ⊢; exact own_form h'
  refine ⟨g, cap, rfl, ?_⟩
  have := h'.cells (g := g) rfl k (.int .i64 (xs.getD k 0)) (by simp [intCells, hk])
  have hadd : (⟨g, 0, none⟩ : Addr).add k = ⟨g, k, none⟩ := by unfold Addr.add; split <;> simp_all
  rwa [hadd] at this

end Go.Proofs.Ytobfpgoepaeknaa
