/-
  The weight of a tree: weigh.
-/
import Derived.Test.YtohefinejdfhaabWgt
namespace Go.Proofs.Ytohefinejdfhaab
open Go.RowKit

def intCells (ws : List Int) : List Value := ws.map fun v => .int .i64 v

/-- The row of nodes in memory. -/
theorem node_cells {w : World} {B g cap : Nat} {ns : List Nd} (h : w.ownsRow B 157 6 (.slice (some ⟨g, 0, none⟩) ns.length cap) ns.length (nodeCells ns)) (k : Nat) (n : Nd) (hk : ns[k]? = some n) :
    w.cell? ⟨g, k * 6, none⟩ = some (.int .i64 n.kind) ∧ w.cell? ⟨g, k * 6 + 1, none⟩ = some (.int .i64 n.left) ∧ w.cell? ⟨g, k * 6 + 2, none⟩ = some (.int .i64 n.right) ∧
    w.cell? ⟨g, k * 6 + 3, none⟩ = some (.int .i64 n.low) ∧ w.cell? ⟨g, k * 6 + 4, none⟩ = some (.int .i64 n.high) ∧ w.cell? ⟨g, k * 6 + 5, none⟩ = some (.int .i64 n.set) := by
  have key : ∀ (l : List Nd) (k : Nat) (j : Nat), j < 6 → l[k]? = some n → (nodeCells l)[k * 6 + j]? = (ndCells n)[j]? := by
    intro l
    induction l with
    | nil => intro k j _ h; simp at h
    | cons a l ih =>
      intro k j hj h
      have e : nodeCells (a :: l) = ndCells a ++ nodeCells l := by simp [nodeCells]
      rw [e]
      have hl : (ndCells a).length = 6 := rfl
      cases k with
      | zero =>
        simp only [List.getElem?_cons_zero, Option.some.injEq] at h
        subst h
        rw [List.getElem?_append_left (by rw [hl]; omega)]
        simp
      | succ k =>
        rw [List.getElem?_append_right (by rw [hl]; omega), hl]
        have := ih k j hj (by simpa using h)
        rw [← this]
        congr 1
        omega
  have cell : ∀ j u, (nodeCells ns)[j]? = some u → w.cell? ⟨g, j, none⟩ = some u := by
    intro j u hu
    have := h.cells (g := g) rfl j u hu
    have hadd : (⟨g, 0, none⟩ : Addr).add j = ⟨g, j, none⟩ := by unfold Addr.add; split <;> simp_all
    rwa [hadd] at this
  refine ⟨cell _ _ ?_, cell _ _ ?_, cell _ _ ?_, cell _ _ ?_, cell _ _ ?_, cell _ _ ?_⟩
  · have := key ns k 0 (by omega) hk; simpa [ndCells] using this
  · have := key ns k 1 (by omega) hk; simpa [ndCells] using this
  · have := key ns k 2 (by omega) hk; simpa [ndCells] using this
  · have := key ns k 3 (by omega) hk; simpa [ndCells] using this
  · have := key ns k 4 (by omega) hk; simpa [ndCells] using this
  · have := key ns k 5 (by omega) hk; simpa [ndCells] using this

theorem int_row {w : World} {B g cap n : Nat} {ws : List Int} (h : w.ownsRow B 3 1 (.slice (some ⟨g, 0, none⟩) n cap) n (intCells ws)) : IntRow w g ws := by
  intro j hj
  have := h.cells (g := g) rfl j (.int .i64 (ws.getD j 0)) (by simp [intCells, hj])
  have hadd : (⟨g, 0, none⟩ : Addr).add j = ⟨g, j, none⟩ := by unfold Addr.add; split <;> simp_all
  rwa [hadd] at this


theorem info3 : (Try.prog.info? 3).map (fun i => (i.zero, i.size, i.bytes)) = some (some (.int .i64 0), 1, 8) := by kernel_rfl

set_option maxHeartbeats 1000000 in
theorem weigh_any (w : World) (B : Nat) (nv sv : Value) (ns : List Nd) (h : w.ownsRow B 157 6 nv ns.length (nodeCells ns)) (hn : ns.length ≤ 1000) (hne : ns ≠ []) (hhi : ∀ n ∈ ns, 0 ≤ n.high ∧ n.high ≤ 9) :
    Calls Try.prog 54 #[.agg #[nv, sv]] w fun e w' =>
      e = .returned (.int .i64 (lastW (weighAll ns))) ∧ Below w.heap.size w w' := by
  obtain ⟨m, hm⟩ : ∃ m, ns.length = m + 1 := ⟨ns.length - 1, by have := List.length_pos_iff.2 hne; omega⟩
  obtain ⟨g, cap, rfl⟩ : ∃ g cap, nv = .slice (some ⟨g, 0, none⟩) ns.length cap := by
    rw [hm] at h ⊢; exact own_form h
  have hg := (h.lt g rfl).2
  obtain ⟨i, i0, i1, i2, i3⟩ := info_of info3
  have HI := hide (And.intro i0 (And.intro i1 (And.intro i2 i3)))
  have H := hide h
  have HHI := hide hhi
  have HN := hide hn
  have hL : (ns.length : Int) ≤ 1000 := by omega
  clear i0 i1 i2 i3 hm hne h hhi hn
  go_enter Try.func54, Try.ntmps54
  go_wp2
  go_loopw [3, 4, 5] (fun v la ix wr => ∃ k g2 cap2 : Nat, v = .slice (some ⟨g2, 0, none⟩) k cap2 ∧ la = .int .i64 (lastW (weighAll (ns.take k))) ∧ ix = .int .i64 k ∧ k ≤ ns.length ∧
    Hid (wr.ownsRow (w.heap.size + 1) 3 1 (.slice (some ⟨g2, 0, none⟩) k cap2) k (intCells (weighAll (ns.take k))) ∧ Below w.heap.size w wr ∧ wr.heap[w.heap.size]? = some (Obj.cells #[.slice (some ⟨g, 0, none⟩) ns.length cap, sv] 70 (0, 0)))) (fun _ _ ix _ => ns.length - (intOf ix).toNat)
  case atStart =>
    refine ⟨0, w.heap.size + 1, 0, rfl, rfl, rfl, Nat.zero_le _, ?_, ?_, ?_⟩
    · have := World.ownsRow_made (base := w.heap.size + 1) (e := 3) (size := 1) (w.alloc (Obj.cells #[.slice (some ⟨g, 0, none⟩) ns.length cap, sv] 70)) #[] 0 (by simp) (by simp) rfl
      simpa [intCells, weighAll] using this
    · exact ((Below.refl _ _).alloc (Nat.le_refl _) _).alloc (by simp) _
    · exact heap_alloc2_old _ _ _
  case round =>
    rename_i wr
    obtain ⟨k, g2, cap2, rfl, rfl, rfl, hk, HH⟩ := hrel
    obtain ⟨ho, hbel, hbox⟩ := unhide HH
    have cb : wr.cell? ⟨w.heap.size, 0, none⟩ = some (.slice (some ⟨g, 0, none⟩) ns.length cap) := by rw [cell_of_row _ _ _ _ _ _ hbox]; rfl
    by_cases hlt : k < ns.length
    · obtain ⟨nd, hnd⟩ : ∃ nd, ns[k]? = some nd := ⟨ns[k], List.getElem?_eq_getElem hlt⟩
      obtain ⟨x0, x1, x2, x3, x4, x5⟩ := node_cells (unhide H) k nd hnd
      have y0 := (hbel.cell (p := ⟨g, k * 6, none⟩) hg).trans x0
      have y1 := (hbel.cell (p := ⟨g, k * 6 + 1, none⟩) hg).trans x1
      have y2 := (hbel.cell (p := ⟨g, k * 6 + 2, none⟩) hg).trans x2
      have y3 := (hbel.cell (p := ⟨g, k * 6 + 3, none⟩) hg).trans x3
      have y4 := (hbel.cell (p := ⟨g, k * 6 + 4, none⟩) hg).trans x4
      have y5 := (hbel.cell (p := ⟨g, k * 6 + 5, none⟩) hg).trans x5
      have hlt' : (k : Int) < (ns.length : Int) := by omega
      have HND := hide hnd
      clear hbel hbox ho x0 x1 x2 x3 x4 x5 hnd hlt
      have hlk : (weighAll (ns.take k)).length = k := by rw [weighAll_len, List.length_take, Nat.min_eq_left hk]
      have hst : weighAll (ns.take (k + 1)) = weighAll (ns.take k) ++ [weighNd (weighAll (ns.take k)) nd] := by
        rw [List.take_add_one, unhide HND, Option.toList_some, weighAll_snoc]
      have hmem : nd ∈ ns := List.mem_of_getElem? (unhide HND)
      have hW := weighNode_any wr g2 cap2 (weighAll (ns.take k)) nd.kind nd.left nd.right nd.low nd.high nd.set (int_row (unhide HH).1) (weighAll_bd _) (unhide HHI nd hmem).1 (unhide HHI nd hmem).2
      rw [hlk] at hW
      have HW := hide hW
      have HST := hide hst
      have hv := clampW_bd (rawW (weighAll (ns.take k)) nd)
      have eN : weighNd (weighAll (ns.take k)) ⟨nd.kind, nd.left, nd.right, nd.low, nd.high, nd.set⟩ = weighNd (weighAll (ns.take k)) nd := rfl
      rw [eN] at HW
      have hk1000 : k ≤ 1000 := by have := unhide HN; omega
      have HK := hide hk1000
      clear hlk hst hW hmem eN hk1000 hv
      generalize weighNd (weighAll (ns.take k)) nd = v1 at *
      go_wp2_with fail
      refine (unhide HW).mono ?_
      rintro e w2 ⟨rfl, hw2⟩
      have ho2 := (unhide HH).1.kept (grownBy_of_below hw2 none) (Or.inr (by simp [Value.ownBlock]))
      have HO2 := hide (ho2.alloc (Obj.cells #[.int .i64 v1] 3))
      have hb2 : Below w.heap.size w w2 := (unhide HH).2.1.trans (hw2.mono (unhide HH).2.1.size)
      have HB2 := hide hb2
      have hbx : w.heap.size < wr.heap.size := (Array.getElem?_eq_some_iff.1 (unhide HH).2.2).1
      have HX2 := hide ((hw2.block _ hbx).trans (unhide HH).2.2)
      have hs2 := hw2.size
      clear ho2 hb2 hw2 y0 y1 y2 y3 y4 y5 cb
      go_wp2_with (at_builtin; refine wpList_append_own _ rfl (.tmp 21) (.tmp 23) 48 rfl (w.heap.size + 1) 3 i (.int .i64 0) 1 8 Try.underlying48 (unhide HI).1 (unhide HI).2.1 (unhide HI).2.2.1 (unhide HI).2.2.2 rfl (by decide) _ k _ rfl (unhide HO2) ⟨w2.heap.size, 0, none⟩ 1 1 [.int .i64 v1] rfl rfl ?c1 ?c2 ?b1 ?b2 ?b3 ?next)
      case c1 => exact cell_one_new _ _ _
      case c2 => intro u hu; simp at hu; subst hu; rfl
      case b1 => have := unhide HK; unfold maxLen; omega
      case b2 => have := unhide HK; omega
      case b3 => have := (unhide HB2).size; simp; omega
      case next =>
        intro v' w3 ho3 hg3 _
        obtain ⟨g3, cap3, rfl⟩ := own_form ho3
        have HO3 := hide ho3
        have HG3 := hide hg3
        clear ho3 hg3
        go_wp2
        go_roundw
        case rel =>
          refine ⟨k + 1, g3, cap3, rfl, ?_, by go_num, by omega, ?_, ?_, ?_⟩
          · rw [unhide HST]; simp [lastW]
          · rw [unhide HST]; simpa [intCells] using unhide HO3
          · exact ((unhide HB2).alloc (by omega) _).grown (unhide HG3) (by simp; omega) (fun k' hk' => by have := ((unhide HO2).lt k' hk').1; omega)
          · rw [(unhide HG3).block _ (by simp; omega) (fun e => by have := ((unhide HO2).lt _ e.symm).1; omega), Below.heap_alloc _ _ _ (by omega)]
            exact unhide HX2
        case measure => simp [intOf]; omega
    · have hk2 : k = ns.length := by omega
      subst hk2
      have e1 : ns.take ns.length = ns := List.take_of_length_le (Nat.le_refl _)
      have HE := hide e1
      have HB := hide hbel
      clear hbel hbox ho e1 HH
      go_wp2
      go_ret
      exact ⟨ret_int (by rw [unhide HE]), unhide HB⟩

end Go.Proofs.Ytohefinejdfhaab
