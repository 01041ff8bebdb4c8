/-
  The two machines in memory: the program's and the document's.
-/
import Derived.Test.YtohefinejdfhaabNb
namespace Go.Proofs.Ytohefinejdfhaab
namespace Mc
open Go.RowKit

/-- The cells of the program's machine. -/
def pmC (R : List Nat) (mv tv : Value) (p : Nat) : Array Value := (ncs R ++ [mv, tv, .int .i64 (p : Int)]).toArray
/-- The cells of the document's machine. -/
def rmC (R M : List Nat) (p : Nat) (tv : Value) : Array Value := (ncs R ++ (ncs M ++ [.int .i64 (p : Int), tv])).toArray

theorem ncs_len (l : List Nat) : (ncs l).length = l.length := by unfold ncs; rw [List.length_map]
theorem ncs_get (l : List Nat) {k : Nat} (hk : k < l.length) : (ncs l)[k]? = some (.int .i64 ((l.getD k 0 : Nat) : Int)) := by
  unfold ncs; rw [List.getElem?_map, List.getElem?_eq_getElem hk, List.getD_eq_getElem?_getD, List.getElem?_eq_getElem hk]; rfl
section
variable {R M : List Nat} {mv tv : Value} {p : Nat}
theorem pmC_r (h : R.length = 16) {k : Nat} (hk : k < 16) : (pmC R mv tv p)[k]? = some (.int .i64 ((R.getD k 0 : Nat) : Int)) := by
  unfold pmC
  rw [List.getElem?_toArray, List.getElem?_append_left (by rw [ncs_len]; omega), ncs_get _ (by omega)]
theorem pmC_tail (h : R.length = 16) (j : Nat) : (pmC R mv tv p)[16 + j]? = [mv, tv, .int .i64 (p : Int)][j]? := by
  unfold pmC
  rw [List.getElem?_toArray, List.getElem?_append_right (by rw [ncs_len]; omega), ncs_len, h, Nat.add_sub_cancel_left]
theorem pmC_set (h : R.length = 16) {k : Nat} (hk : k < 16) (x : Nat) : (pmC R mv tv p).setIfInBounds k (.int .i64 ((x : Nat) : Int)) = pmC (R.set k x) mv tv p := by
  unfold pmC
  rw [List.setIfInBounds_toArray, List.set_append_left _ _ (by rw [ncs_len]; omega), ncs_set]
theorem pmC_setT (h : R.length = 16) (v : Value) : (pmC R mv tv p).setIfInBounds 17 v = pmC R mv v p := by
  unfold pmC
  rw [List.setIfInBounds_toArray, List.set_append_right _ _ (by rw [ncs_len]; omega), ncs_len, h]; rfl
theorem pmC_setP (h : R.length = 16) (x : Nat) : (pmC R mv tv p).setIfInBounds 18 (.int .i64 (x : Int)) = pmC R mv tv x := by
  unfold pmC
  rw [List.setIfInBounds_toArray, List.set_append_right _ _ (by rw [ncs_len]; omega), ncs_len, h]; rfl
theorem pmC_size (h : R.length = 16) : (pmC R mv tv p).size = 19 := by unfold pmC; simp [ncs_len, h]
theorem rmC_r (h : R.length = 16) {k : Nat} (hk : k < 16) : (rmC R M p tv)[k]? = some (.int .i64 ((R.getD k 0 : Nat) : Int)) := by
  unfold rmC
  rw [List.getElem?_toArray, List.getElem?_append_left (by rw [ncs_len]; omega), ncs_get _ (by omega)]
theorem rmC_m (h : R.length = 16) (h2 : M.length = 4096) {k : Nat} (hk : k < 4096) : (rmC R M p tv)[16 + k]? = some (.int .i64 ((M.getD k 0 : Nat) : Int)) := by
  unfold rmC
  rw [List.getElem?_toArray, List.getElem?_append_right (by rw [ncs_len]; omega), ncs_len, h, Nat.add_sub_cancel_left, List.getElem?_append_left (by rw [ncs_len]; omega), ncs_get _ (by omega)]
theorem rmC_tail (h : R.length = 16) (h2 : M.length = 4096) (j : Nat) : (rmC R M p tv)[4112 + j]? = [.int .i64 (p : Int), tv][j]? := by
  unfold rmC
  rw [List.getElem?_toArray, List.getElem?_append_right (by rw [ncs_len]; omega), ncs_len, h, List.getElem?_append_right (by rw [ncs_len]; omega), ncs_len, h2, show 4112 + j - 16 - 4096 = j by omega]
theorem rmC_set (h : R.length = 16) {k : Nat} (hk : k < 16) (x : Nat) : (rmC R M p tv).setIfInBounds k (.int .i64 ((x : Nat) : Int)) = rmC (R.set k x) M p tv := by
  unfold rmC
  rw [List.setIfInBounds_toArray, List.set_append_left _ _ (by rw [ncs_len]; omega), ncs_set]
theorem rmC_setM (h : R.length = 16) (h2 : M.length = 4096) {k : Nat} (hk : k < 4096) (x : Nat) : (rmC R M p tv).setIfInBounds (16 + k) (.int .i64 ((x : Nat) : Int)) = rmC R (M.set k x) p tv := by
  unfold rmC
  rw [List.setIfInBounds_toArray, List.set_append_right _ _ (by rw [ncs_len]; omega), ncs_len, h, Nat.add_sub_cancel_left, List.set_append_left _ _ (by rw [ncs_len]; omega), ncs_set]
theorem rmC_setP (h : R.length = 16) (h2 : M.length = 4096) (x : Nat) : (rmC R M p tv).setIfInBounds 4112 (.int .i64 ((x : Nat) : Int)) = rmC R M x tv := by
  unfold rmC
  rw [List.setIfInBounds_toArray, List.set_append_right _ _ (by rw [ncs_len]; omega), ncs_len, h, List.set_append_right _ _ (by rw [ncs_len]; omega), ncs_len, h2]; rfl
theorem rmC_setT (h : R.length = 16) (h2 : M.length = 4096) (v : Value) : (rmC R M p tv).setIfInBounds 4113 v = rmC R M p v := by
  unfold rmC
  rw [List.setIfInBounds_toArray, List.set_append_right _ _ (by rw [ncs_len]; omega), ncs_len, h, List.set_append_right _ _ (by rw [ncs_len]; omega), ncs_len, h2]; rfl
theorem rmC_size (h : R.length = 16) (h2 : M.length = 4096) : (rmC R M p tv).size = 4114 := by unfold rmC; simp [ncs_len, h, h2]
end

/-- The program's machine in memory. -/
structure PMx (w : World) (B gm gmem : Nat) (tv : Value) (s : MS) : Prop where
  hB : B ≤ gm
  heap : w.heap[gm]? = some (.cells (pmC s.R (.slice (some ⟨gmem, 0, none⟩) 4096 4096) tv s.p) 144 (0, 0))
  mem : NR w B (.slice (some ⟨gmem, 0, none⟩) 4096 4096) s.M
  tr : NR w B tv s.T
  ne : tv.ownBlock ≠ some gmem
def PM (w : World) (B gm : Nat) (s : MS) : Prop := ∃ gmem tv, PMx w B gm gmem tv s
section
variable {w w' : World} {B gm gmem : Nat} {tv : Value} {s : MS}
theorem PMx.lt (h : PMx w B gm gmem tv s) : gm < w.heap.size := (Array.getElem?_eq_some_iff.1 h.heap).1
theorem PMx.ltm (h : PMx w B gm gmem tv s) : gmem < w.heap.size := (h.mem.lt gmem rfl).2
theorem PMx.neM (h : PMx w B gm gmem tv s) : gmem ≠ gm := own_off h.mem h.heap (by decide) gmem rfl
theorem PMx.neT (h : PMx w B gm gmem tv s) : ∀ q, tv.ownBlock = some q → q ≠ gm := own_off h.tr h.heap (by decide)
theorem PMx.fr (h : PMx w B gm gmem tv s) {S : List Nat} (f : Fr S w w') (h1 : gm ∉ S) (h2 : gmem ∉ S) (h3 : ∀ q, tv.ownBlock = some q → q ∉ S) : PMx w' B gm gmem tv s :=
  ⟨h.hB, f.at h.heap h1, f.own h.mem (fun q hq => by have : gmem = q := by simpa [Value.ownBlock] using hq
                                                     rw [← this]; exact h2), f.own h.tr h3, h.ne⟩
theorem PMx.drew (h : PMx w B gm gmem tv s) : PMx w.drew B gm gmem tv s := ⟨h.hB, h.heap, h.mem, h.tr, h.ne⟩
theorem PMx.alloc (h : PMx w B gm gmem tv s) (o : Obj) : PMx (w.alloc o) B gm gmem tv s := h.fr (Fr.ofAlloc w o) (by simp) (by simp) (by simp)
theorem PMx.cellset (h : PMx w B gm gmem tv s) {o : Nat} {u : Value} {R : List Nat} {p : Nat} (he : (pmC s.R (.slice (some ⟨gmem, 0, none⟩) 4096 4096) tv s.p).setIfInBounds o u = pmC R (.slice (some ⟨gmem, 0, none⟩) 4096 4096) tv p) :
    PMx (w.setCell ⟨gm, o, none⟩ u) B gm gmem tv ⟨R, s.M, p, s.T⟩ := by
  have f := Fr.ofSet w gm o u
  refine ⟨h.hB, ?_, f.own h.mem (fun q hq => ?_), f.own h.tr (fun q hq => by simpa using h.neT q hq), h.ne⟩
  · rw [heap_setCell_same _ _ _ _ _ _ h.heap, he]
  · have : gmem = q := by simpa [Value.ownBlock] using hq
    rw [← this]; simpa using h.neM
theorem PMx.setP (h : PMx w B gm gmem tv s) (hr : s.R.length = 16) (x : Nat) : PMx (w.setCell ⟨gm, 18, none⟩ (.int .i64 (x : Int))) B gm gmem tv ⟨s.R, s.M, x, s.T⟩ := h.cellset (pmC_setP hr x)
theorem PMx.setR (h : PMx w B gm gmem tv s) (hr : s.R.length = 16) {k : Nat} (hk : k < 16) (x : Nat) : PMx (w.setCell ⟨gm, k, none⟩ (.int .i64 (x : Int))) B gm gmem tv ⟨s.R.set k x, s.M, s.p, s.T⟩ := h.cellset (pmC_set hr hk x)
theorem PMx.setM (h : PMx w B gm gmem tv s) (hm : s.M.length = 4096) (k x : Nat) : PMx (w.setCell ⟨gmem, k, none⟩ (.int .i64 (x : Int))) B gm gmem tv ⟨s.R, s.M.set k x, s.p, s.T⟩ := by
  have f := Fr.ofSet w gmem k (.int .i64 (x : Int))
  have hme := h.mem
  rw [← hm] at hme
  refine ⟨h.hB, f.at h.heap (by simpa using fun e => h.neM e.symm), ?_, f.own h.tr (fun q hq => by simp; intro e; subst e; exact h.ne hq), h.ne⟩
  have := hme.put k x
  rw [hm] at this
  exact this
/-- A number more in the trace. -/
theorem PMx.push (h : PMx w B gm gmem tv s) (hr : s.R.length = 16) {g cap y : Nat} (hgrow : w.grownBy w' tv.ownBlock) (ho : w'.ownsRow B 3 1 (.slice (some ⟨g, 0, none⟩) (s.T.length + 1) cap) (s.T.length + 1) (ncs s.T ++ [.int .i64 (y : Int)])) (hl : tv.ownBlock = some g ∨ g = w.heap.size) :
    PMx (w'.setCell ⟨gm, 17, none⟩ (.slice (some ⟨g, 0, none⟩) (s.T.length + 1) cap)) B gm gmem (.slice (some ⟨g, 0, none⟩) (s.T.length + 1) cap) ⟨s.R, s.M, s.p, s.T ++ [y]⟩ := by
  have hgm := h.lt
  have hm := h.ltm
  have hgne : g ≠ gm := by
    rcases hl with hl | hl
    · exact h.neT g hl
    · omega
  have hgnm : g ≠ gmem := by
    rcases hl with hl | hl
    · intro e; subst e; exact h.ne hl
    · omega
  have f1 : Fr tv.ownBlock.toList w w' := Fr.ofGrown hgrow
  have a1 : w'.heap[gm]? = _ := f1.at h.heap (fun hm => by rw [Option.mem_toList] at hm; exact h.neT _ hm rfl)
  have a2 : NR w' B _ s.M := f1.own h.mem (fun q hq hm => by
    have : gmem = q := by simpa [Value.ownBlock] using hq
    rw [Option.mem_toList, ← this] at hm; exact h.ne hm)
  have f := Fr.ofSet w' gm 17 (.slice (some ⟨g, 0, none⟩) (s.T.length + 1) cap)
  refine ⟨h.hB, ?_, f.own a2 (fun q hq => ?_), ?_, ?_⟩
  · rw [heap_setCell_same _ _ _ _ _ _ a1, pmC_setT hr]
  · have : gmem = q := by simpa [Value.ownBlock] using hq
    rw [← this]; simpa using h.neM
  · exact f.own (NR.of ho) (fun q hq => by
      have : g = q := by simpa [Value.ownBlock] using hq
      rw [← this]; simpa using hgne)
  · simpa [Value.ownBlock] using hgnm
end
/-- Blocks below a bound stay. -/
theorem below_set {B : Nat} {w w1 : World} (h : Below B w w1) {g o : Nat} {u : Value} (hg : B ≤ g) : Below B w (w1.setCell ⟨g, o, none⟩ u) := h.setCell (p := ⟨g, o, none⟩) hg u
theorem below_grown {B : Nat} {w w1 w2 : World} {row : Option Nat} (h : Below B w w1) (hg : w1.grownBy w2 row) (hB : B ≤ w1.heap.size) (hr : ∀ k, row = some k → B ≤ k) : Below B w w2 := h.grown hg hB hr

end Mc
end Go.Proofs.Ytohefinejdfhaab
