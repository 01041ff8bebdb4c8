/-
  Rows of operations, a row's copy.
-/
import Derived.Test.YtlafngfoejngaaaN1
import Derived.Laws.CopyRow
namespace Go.Proofs.Ytlafngfoejngaaa
namespace Mc
open Go.RowKit

theorem copy_law {P : Program} (w : World) (dT ty elem : TypeId) (g dLen dCap : Nat) (sa : Option Addr) (n sCap size : Nat) (cur : Array Value) (t : TypeId) (cs : List Value)
    (hu : P.underlying dT = some (.slice elem)) (hs : (P.info? elem).map (·.size) = some size) (hg : w.heap[g]? = some (.cells cur t (0, 0))) (hnd : n ≤ dLen) (hl : cs.length = n * size)
    (hsrc : (sa = none ∧ cs = []) ∨ ∃ a, sa = some a ∧ ∀ j v, cs[j]? = some v → w.cell? (a.add j) = some v) (hfit : cs.length ≤ cur.size) (h1 : ∀ v ∈ cs, v.oneCell' = true) :
    (Builtin.copy_ #[dT, dT] ty #[.slice (some ⟨g, 0, none⟩) dLen dCap, .slice sa n sCap]).run P w = .ok (goInt n) (w.setRow g (cs ++ cur.toList.drop cs.length).toArray) := by
  have hst := run_storeCells_at P g 0 t cs 0 cur w hg (by simpa using hfit) h1
  have hmin : Nat.min n dLen = n := Nat.min_eq_left hnd
  cases hq : P.info? elem with
  | none => simp [hq] at hs
  | some i =>
    have hi : i.size = size := by simpa [hq] using hs
    rcases hsrc with ⟨rfl, rfl⟩ | ⟨a, rfl, hc⟩
    · simp at hst
      simp [Builtin.copy_, run_underlying hu, Builtin.lenOf, Builtin.firstCells, sizeOf, typeInfo, hq, hmin, hst]
    · have hld := run_loadCells_list (P := P) w a cs hc
      rw [hl] at hld
      simp [Builtin.copy_, run_underlying hu, Builtin.lenOf, Builtin.firstCells, sizeOf, typeInfo, hq, hi, hmin, hld, hst]
theorem add_at (b off j : Nat) : (⟨b, off, none⟩ : Addr).add j = ⟨b, off + j, none⟩ := by unfold Addr.add; split <;> simp_all

theorem ics_get (zs : List Int) {k : Nat} (hk : k < zs.length) : (ics zs)[k]? = some (.int .i64 (zs.getD k 0)) := by
  unfold ics; rw [List.getElem?_map, List.getElem?_eq_getElem hk, List.getD_eq_getElem?_getD, List.getElem?_eq_getElem hk]; rfl
theorem ics_len (zs : List Int) : (ics zs).length = zs.length := by unfold ics; rw [List.length_map]

/-- An operation in a row. -/
def OpIn (cu : Array Value) (i : Nat) (o : OpI) : Prop := cu[i * 4]? = some (.int .i64 o.k) ∧ cu[i * 4 + 1]? = some (.int .i64 o.a) ∧ cu[i * 4 + 2]? = some (.int .i64 o.b) ∧ cu[i * 4 + 3]? = some (.int .i64 o.c)
def oCells (os : List OpI) : List Value := os.flatMap ocs
theorem oCells_len (os : List OpI) : (oCells os).length = os.length * 4 := by
  induction os with
  | nil => rfl
  | cons o os ih => simp only [oCells, List.flatMap_cons, List.length_append, List.length_cons] at *; rw [ih]; simp [ocs]; omega
theorem oCells_get (os : List OpI) : ∀ i j, i < os.length → j < 4 → (oCells os)[i * 4 + j]? = (ocs (os.getD i default))[j]? := by
  induction os with
  | nil => intro i j hi; simp at hi
  | cons o os ih =>
    intro i j hi hj
    simp only [oCells, List.flatMap_cons] at *
    cases i with
    | zero => rw [List.getElem?_append_left (by simp [ocs]; omega)]; simp
    | succ i =>
      rw [List.getElem?_append_right (by simp [ocs]; omega), show (i + 1) * 4 + j - (ocs o).length = i * 4 + j by simp [ocs]; omega, ih i j (by simpa using hi) hj]
      simp
theorem oCells_in (os : List OpI) {cu : Array Value} (h : ∀ k, k < os.length * 4 → cu[k]? = (oCells os)[k]?) : ∀ i, i < os.length → OpIn cu i (os.getD i default) := fun i hi => by
  have e : ∀ j, j < 4 → cu[i * 4 + j]? = (ocs (os.getD i default))[j]? := fun j hj => by rw [h _ (by omega), oCells_get os i j hi hj]
  exact ⟨e 0 (by omega), e 1 (by omega), e 2 (by omega), e 3 (by omega)⟩
end Mc
end Go.Proofs.Ytlafngfoejngaaa
