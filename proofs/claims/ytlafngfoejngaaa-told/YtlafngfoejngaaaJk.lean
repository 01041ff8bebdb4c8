/-
  What stands before what; few tuples of small tables. (Mathematics.)
-/
import Derived.Test.YtlafngfoejngaaaJf
import Derived.Test.YtlafngfoejngaaaHF
namespace Go.Proofs.Ytlafngfoejngaaa
namespace Mc
open Go.RowKit

theorem nvf_lt : ∀ (xs ys : List Nat) (n m : Nat), xs.length = ys.length → Byt xs → n < m → xs.foldl (fun n b => n * 256 + b + 1) n < ys.foldl (fun n b => n * 256 + b + 1) m
  | [], [], n, m, _, _, h => h
  | [], _ :: _, _, _, hl, _, _ => by simp at hl
  | _ :: _, [], _, _, hl, _, _ => by simp at hl
  | x :: xs, y :: ys, n, m, hl, hb, h => by
    have hx := hb x (by simp)
    exact nvf_lt xs ys _ _ (by simpa using hl) (fun b hb' => hb b (by simp [hb'])) (by show n * 256 + x + 1 < m * 256 + y + 1; omega)
theorem less_nvf : ∀ (xs ys : List UInt8) (n : Nat), xs.length = ys.length → Op.bytesLess xs ys = decide ((xs.map UInt8.toNat).foldl (fun n b => n * 256 + b + 1) n < (ys.map UInt8.toNat).foldl (fun n b => n * 256 + b + 1) n)
  | [], [], n, _ => by simp [Op.bytesLess]
  | [], _ :: _, _, hl => by simp at hl
  | _ :: _, [], _, hl => by simp at hl
  | x :: xs, y :: ys, n, hl => by
    have hl' : xs.length = ys.length := by simpa using hl
    have hbx : Byt (xs.map UInt8.toNat) := fun b hb => by obtain ⟨u, _, rfl⟩ := List.mem_map.1 hb; exact u.toNat_lt
    have hby : Byt (ys.map UInt8.toNat) := fun b hb => by obtain ⟨u, _, rfl⟩ := List.mem_map.1 hb; exact u.toNat_lt
    have hll : (xs.map UInt8.toNat).length = (ys.map UInt8.toNat).length := by simpa using hl'
    rw [Op.bytesLess, List.map_cons, List.map_cons, List.foldl_cons, List.foldl_cons]
    by_cases h1 : x.toNat < y.toNat
    · have := nvf_lt _ _ (n * 256 + x.toNat + 1) (n * 256 + y.toNat + 1) hll hbx (by omega)
      rw [decide_eq_true this, show decide (x < y) = true from decide_eq_true h1]; rfl
    · have h1' : decide (x < y) = false := decide_eq_false h1
      rw [h1', Bool.false_or]
      by_cases h2 : x = y
      · subst h2
        rw [beq_self_eq_true, Bool.true_and, less_nvf xs ys _ hl']
      · rw [show (x == y) = false from beq_eq_false_iff_ne.2 h2, Bool.false_and]
        have h3 : y.toNat < x.toNat := by
          have : x.toNat ≠ y.toNat := fun e => h2 (UInt8.toNat.inj e)
          omega
        have := nvf_lt _ _ (n * 256 + y.toNat + 1) (n * 256 + x.toNat + 1) hll.symm hby (by omega)
        exact (decide_eq_false (by omega)).symm
theorem btsN_list (s : ByteArray) : btsN s = s.toList.map UInt8.toNat := by
  apply List.ext_getElem?
  intro k
  unfold btsN
  rw [ByteArray.toList_eq, List.getElem?_map, List.getElem?_map]
  by_cases hk : k < s.size
  · have hk' : k < s.data.toList.length := hk
    rw [List.getElem?_range hk, List.getElem?_eq_getElem hk', Option.map_some, Option.map_some]
    exact congrArg some (bt_at s k hk).symm
  · rw [List.getElem?_eq_none (by simp; omega), List.getElem?_eq_none (by show s.data.toList.length ≤ k; rw [Array.length_toList]; exact Nat.le_of_not_lt hk)]; rfl
/-- Which stands before. -/
def befN (a b : List Nat) : Bool := decide (nv a < nv b)
theorem befN_short {a b : ByteArray} (h : a.size < b.size) : befN (btsN a) (btsN b) = true := decide_eq_true (nv_len _ _ (btsN_byt a) (btsN_byt b) (by rw [btsN_len, btsN_len]; exact h))
theorem befN_long {a b : ByteArray} (h : b.size < a.size) : befN (btsN a) (btsN b) = false := decide_eq_false (by have := nv_len _ _ (btsN_byt b) (btsN_byt a) (by rw [btsN_len, btsN_len]; exact h); omega)
theorem befN_same {a b : ByteArray} (h : a.size = b.size) : befN (btsN a) (btsN b) = Op.bytesLess a.toList b.toList := by
  rw [less_nvf a.toList b.toList 0 (by rw [ByteArray.toList_eq, ByteArray.toList_eq, Array.length_toList, Array.length_toList]; exact h)]
  unfold befN nv
  rw [btsN_list, btsN_list]

end Mc
end Go.Proofs.Ytlafngfoejngaaa
