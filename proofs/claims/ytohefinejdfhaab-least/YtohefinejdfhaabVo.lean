/-
  table.Table.Bytes: the bytes of a table.
-/
import Derived.Test.YtohefinejdfhaabVm
import Derived.Laws.IdiomStrings
namespace Go.Proofs.Ytohefinejdfhaab
open Go.RowKit
attribute [local go_sem ↓] Go.wp_at_zero Go.wp_at_succ

def byteCells (xs : List Nat) : List Value := xs.map fun (n : Nat) => Value.int .u8 (n : Int)
def URow (w : World) (B : Nat) (v : Value) (xs : List Nat) : Prop := w.ownsRow B 5 1 v xs.length (byteCells xs)
theorem URow.of {w : World} {B : Nat} {v : Value} {xs : List Nat} {y : Nat} (h : w.ownsRow B 5 1 v (xs.length + 1) (byteCells xs ++ [.int .u8 (y : Int)])) : URow w B v (xs ++ [y]) := by
  unfold URow byteCells
  rw [List.length_append, List.map_append]; exact h
theorem URow.cells {w : World} {B g cap : Nat} {xs : List Nat} (h : URow w B (.slice (some ⟨g, 0, none⟩) xs.length cap) xs) {k : Nat} (hk : k < xs.length) : w.cell? ⟨g, k, none⟩ = some (.int .u8 ((xs.getD k 0 : Nat) : Int)) := by
  rcases h.2 with ⟨he, _⟩ | ⟨g', cap', cur, he, h1, hg, h2, h3, h4, h5⟩
  · cases he
  · simp only [Value.slice.injEq, Option.some.injEq, Addr.mk.injEq, and_true, true_and] at he
    obtain ⟨rfl, rfl⟩ := he
    rw [cell_of_row _ _ _ _ _ _ hg]
    have e : cur.toList[k]? = (byteCells xs)[k]? := by
      rw [← h5, List.getElem?_take, if_pos (by simp; omega)]
    rw [← Array.getElem?_toList, e, byteCells, List.getElem?_map, List.getElem?_eq_getElem hk, List.getD_eq_getElem?_getD, List.getElem?_eq_getElem hk]; rfl
def strN (xs : List Nat) : ByteArray := ⟨(xs.map UInt8.ofNat).toArray⟩
theorem u8_ofNat {x : Nat} (h : x < 256) : (UInt8.ofNat x).toNat = x := by rw [UInt8.toNat_ofNat']; exact Nat.mod_eq_of_lt (by omega)
theorem bytesN_strN {xs : List Nat} (h : ∀ x ∈ xs, x < 256) : bytesN (strN xs) = xs := by
  unfold bytesN strN
  simp only [List.map_map]
  conv => rhs; rw [← List.map_id xs]
  exact List.map_congr_left fun x hx => u8_ofNat (h x hx)
theorem conv_row {w : World} {B g cap : Nat} {xs : List Nat} (h : URow w B (.slice (some ⟨g, 0, none⟩) xs.length cap) xs) (hx : ∀ x ∈ xs, x < 256) :
    (convert 86 9 (.slice (some ⟨g, 0, none⟩) xs.length cap)).run Try.prog w = .ok (.string (strN xs)) w := by
  have hl : (xs.map UInt8.ofNat).length = xs.length := List.length_map _
  have := run_convert_bytes_back (P := Try.prog) w 86 9 5 ⟨g, 0, none⟩ cap (xs.map UInt8.ofNat) Try.underlying86 Try.underlying5 Try.underlying9 (by
    intro j hj
    rw [hl] at hj
    have e : (xs.map UInt8.ofNat)[j] = UInt8.ofNat xs[j] := List.getElem_map _
    rw [e, u8_ofNat (hx _ (List.getElem_mem _))]
    have := h.cells hj
    rw [List.getD_eq_getElem?_getD, List.getElem?_eq_getElem hj] at this
    rw [show (Addr.add ⟨g, 0, none⟩ j) = ⟨g, j, none⟩ from by unfold Addr.add; split <;> simp_all]
    exact this)
  rw [hl] at this
  exact this
theorem infoU8 : (Try.prog.info? 5).map (fun i => (i.zero, i.size, i.bytes)) = some (some (.int .u8 0), 1, 1) := by kernel_rfl

/-- A table in memory. -/
structure TabB (w : World) (gt : Nat) (cl : Nat → Nat) (C : Nat) (bs : List Bool) (ns : List Nat) : Prop where
  ex : ∃ gv nv, w.heap[gt]? = some (.cells (tabA cl C gv nv) 78 (0, 0)) ∧ BRow w 0 gv bs ∧ NRow w 0 nv ns
theorem TabB.below {w w' : World} {gt C : Nat} {cl : Nat → Nat} {bs : List Bool} {ns : List Nat} (h : TabB w gt cl C bs ns) (hb : Below w.heap.size w w') : TabB w' gt cl C bs ns := by
  obtain ⟨gv, nv, h1, h2, h3⟩ := h.ex
  exact ⟨gv, nv, by rw [hb.block _ (Array.getElem?_eq_some_iff.1 h1).1]; exact h1, h2.below hb, h3.below hb⟩
structure ByI (w wr : World) (tv : Value) (xs : List Nat) : Prop where
  below : Below w.heap.size w wr
  row : URow wr w.heap.size tv xs
theorem ByI.grown {w wr w2 : World} {tv : Value} {xs : List Nat} (h : ByI w wr tv xs) {o : Obj} (hgrow : (wr.alloc o).grownBy w2 tv.ownBlock) {v' : Value} {y : Nat} (ho : w2.ownsRow w.heap.size 5 1 v' (xs.length + 1) (byteCells xs ++ [.int .u8 (y : Int)])) : ByI w w2 v' (xs ++ [y]) :=
  ⟨(below_then h.below o).grown hgrow (by have := h.below.size; simp; omega) (fun k hk => (h.row.lt k hk).1), URow.of ho⟩
def bitN (b : Bool) : Nat := if b then 1 else 0
def bytesT (S C : Nat) (cl : Nat → Nat) (bs : List Bool) (ns : List Nat) : List Nat := [S, C] ++ (List.range 256).map cl ++ bs.map bitN ++ ns
theorem take_snoc {α : Type} (l : List α) (d : α) {k : Nat} (hk : k < l.length) : l.take (k + 1) = l.take k ++ [l.getD k d] := by
  rw [List.take_add_one, List.getD_eq_getElem?_getD, List.getElem?_eq_getElem hk]; rfl
theorem own_slice' {w : World} {B e z : Nat} {v : Value} {n : Nat} {xs : List Value} (h : w.ownsRow B e z v n xs) (hn : 0 < n) : ∃ g cap, v = .slice (some ⟨g, 0, none⟩) n cap := by
  obtain ⟨g, cap, rfl, _⟩ := h.form hn
  exact ⟨g, cap, rfl⟩

end Go.Proofs.Ytohefinejdfhaab
