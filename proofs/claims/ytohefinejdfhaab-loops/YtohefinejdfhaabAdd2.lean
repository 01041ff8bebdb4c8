/-
  The reader of patterns: a set is laid behind the others, and a node for it.
-/
import Derived.Test.YtohefinejdfhaabAdd
namespace Go.Proofs.Ytohefinejdfhaab
open Go.RowKit

theorem info84 : (Try.prog.info? 109).map (fun i => (i.zero, i.size, i.bytes)) = some (some (.agg (setA fun _ => false)), 256, 256) := by kernel_rfl

theorem load_set (w : World) (f : Nat → Bool) :
    (Instr.loadAt 109 (.pointer (some ⟨w.heap.size, 0, none⟩))).run Try.prog (w.alloc (Obj.cells (setA f) 109)).drew = .ok (.agg (setA f)) (w.alloc (Obj.cells (setA f) 109)).drew := by
  have := run_loadVar_row (P := Try.prog) (w.alloc (Obj.cells (setA f) 109)).drew w.heap.size 109 109 (setA f) (0, 0) _ (heap_alloc_new w _) Try.underlying109 rfl (by rw [size_setA]; kernel_rfl)
  simp only [Instr.loadAt, Instr.sureAddr, Sem.run_bind, Sem.run_pure, Result.andThen_ok]
  exact this

theorem lay_from : ∀ (l : List Value) (k : Nat) (a : Array Value), k + l.length ≤ a.size →
    ((l.zipIdx k).foldl (fun (acc : Array Value) (x : Value × Nat) => acc.setIfInBounds (0 + x.2) x.1) a) = (a.toList.take k ++ l ++ a.toList.drop (k + l.length)).toArray
  | [], k, a, _ => by simp
  | v :: l, k, a, h => by
    have hlt : k < a.size := by simp at h; omega
    rw [List.zipIdx_cons, List.foldl_cons, lay_from l (k + 1) _ (by simp at h ⊢; omega)]
    apply Array.toList_inj.1
    simp only [Array.toList_setIfInBounds, Nat.zero_add]
    apply List.ext_getElem?
    intro j
    simp only [List.getElem?_append, List.length_take, List.length_set, Array.length_toList, List.length_append, List.length_cons, List.getElem?_take, List.getElem?_set, List.getElem?_drop, List.getElem?_cons]
    by_cases h1 : j < k
    · simp [h1, show j < k + 1 by omega, show min (k + 1) a.size = k + 1 by omega, show min k a.size = k by omega, show ¬ k = j by omega, show j < k + 1 + l.length by omega, show j < k + (l.length + 1) by omega]
    · by_cases h2 : j = k
      · subst h2
        simp [show min (j + 1) a.size = j + 1 by omega, show min j a.size = j by omega, hlt, show j < j + 1 + l.length by omega]
      · by_cases h3 : j < k + (l.length + 1)
        · simp [h1, h3, show ¬ j < k + 1 by omega, show min (k + 1) a.size = k + 1 by omega, show min k a.size = k by omega, show j < k + 1 + l.length by omega, show ¬ j - k = 0 by omega, show j - (k + 1) = j - k - 1 by omega]
        · simp [h3, show min (k + 1) a.size = k + 1 by omega, show min k a.size = k by omega, show ¬ j < k + 1 + l.length by omega]
          rw [if_neg (by omega)]
          congr 1
          omega

theorem lay_all (cs a : Array Value) (h : cs.size = a.size) :
    (cs.zipIdx.foldl (fun (acc : Array Value) (x : Value × Nat) => acc.setIfInBounds (0 + x.2) x.1) a) = cs := by
  rw [← Array.foldl_toList, Array.toList_zipIdx, lay_from cs.toList 0 a (by simp; omega)]
  have e : List.drop (0 + cs.toList.length) a.toList = [] := List.drop_eq_nil_of_le (by simp; omega)
  rw [e]
  simp

theorem fill_one (c cs : Array Value) (n : Nat) (hc : c.size = n) (hs : cs.size = n) : Instr.fill (fun i => some (i * n, n)) c [(0, Value.agg cs)] = some cs := by
  subst hc
  simp only [Instr.fill, Value.cells, Nat.zero_mul]
  rw [lay_all cs c hs]
  simp [hs]

theorem build_one {P : Program} (w : World) (t e : TypeId) (ie : TypeInfo) (z : Value) (cs : Array Value) (hu : P.underlying t = some (.slice e)) (hie : P.info? e = some ie) (hz : ie.zero = some z)
    (hs : cs.size = ie.size) (hsmall : ¬ 1 * ie.size > 2 ^ 24) (hpos : ¬ 1 * ie.size = 0) :
    (Instr.buildSlice t 1 #[(0, .agg cs)]).run P w = .ok (.slice (some ⟨w.heap.size, 0, none⟩) 1 1) (w.alloc (Obj.cells cs e)) := by
  have hf := fill_one ((Array.range (1 * ie.size)).map (z.cells[· % z.cells.size]!)) cs ie.size (by simp) hs
  simp [Instr.buildSlice, run_underlying hu, sizeOf, typeInfo, zeroValue, hie, hz, newRow] at hf ⊢
  rw [if_neg (by omega), if_neg (by omega)]
  simp [hf]

theorem build_set (w : World) (f : Nat → Bool) :
    (Instr.buildSlice 68 1 #[(0, .agg (setA f))]).run Try.prog w = .ok (.slice (some ⟨w.heap.size, 0, none⟩) 1 1) (w.alloc (Obj.cells (setA f) 109)) := by
  obtain ⟨i, i0, i1, i2, i3⟩ := info_of info84
  exact build_one w _ _ i _ (setA f) Try.underlying68 i0 i1 (by rw [size_setA, i2]) (by rw [i2]; decide) (by rw [i2]; decide)

end Go.Proofs.Ytohefinejdfhaab
