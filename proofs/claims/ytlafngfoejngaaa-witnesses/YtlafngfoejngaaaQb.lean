/-
  What an image is.
-/
import Derived.Test.YtlafngfoejngaaaQa
namespace Go.Proofs.Ytlafngfoejngaaa
namespace Mc
open Go.RowKit

theorem bt_ext (T : ByteArray) (a b k : Nat) : bt (T.extract a b) k = if a + k < b then bt T (a + k) else 0 := by
  have hs : (T.extract a b).size = min b T.size - a := ByteArray.size_extract
  unfold bt
  by_cases h : k < (T.extract a b).size
  · rw [dif_pos h, if_pos (by omega), dif_pos (by omega)]
    rw [ByteArray.getElem_extract]
  · rw [dif_neg h]
    by_cases h2 : a + k < b
    · rw [if_pos h2, dif_neg (by omega)]
    · rw [if_neg h2]
theorem bt_rest (T : ByteArray) (a k : Nat) : bt (T.extract a T.size) k = bt T (a + k) := by
  rw [bt_ext]
  split
  · rfl
  · next h => rw [bt_end h]
theorem ext_ext (T : ByteArray) (a b : Nat) : (T.extract a T.size).extract b (T.extract a T.size).size = T.extract (a + b) T.size := by
  rw [ByteArray.extract_extract, ByteArray.size_extract]
  congr 1
  omega

/-- The table that a text has at a place. -/
def tabAt (x : ByteArray) (p : Nat) : TabN := ⟨bt x p, bt x (p + 1), fun b => bt x (p + 2 + b), fun q => decide (bt x (p + 258 + q) = 1), fun q c => bt x (p + 258 + bt x p + (q * bt x (p + 1) + c))⟩
def tsz (x : ByteArray) (p : Nat) : Nat := 258 + bt x p + bt x p * bt x (p + 1)
structure TOk (x : ByteArray) (p : Nat) : Prop where
  s1 : 1 ≤ bt x p
  s2 : bt x p ≤ 24
  c1 : 1 ≤ bt x (p + 1)
  c2 : bt x (p + 1) ≤ 24
  size : p + tsz x p ≤ x.size
  cl : ∀ b, b < 256 → bt x (p + 2 + b) < bt x (p + 1)
  gr : ∀ q, q < bt x p → bt x (p + 258 + q) < 2
  nx : ∀ k, k < bt x p * bt x (p + 1) → bt x (p + 258 + bt x p + k) < bt x p
theorem TOk.ok {x : ByteArray} {p : Nat} (h : TOk x p) : (tabAt x p).Ok := by
  refine ⟨h.s1, h.c1, h.s2, h.c2, h.cl, fun q c hq hc => h.nx _ ?_⟩
  have h1 : (q + 1) * bt x (p + 1) ≤ bt x p * bt x (p + 1) := Nat.mul_le_mul_right _ hq
  rw [Nat.add_mul, Nat.one_mul] at h1
  have : c < bt x (p + 1) := hc
  omega
theorem tabAt_rest (x : ByteArray) (a p : Nat) : tabAt (x.extract a x.size) p = tabAt x (a + p) := by
  unfold tabAt
  simp only [bt_rest, Nat.add_assoc]
theorem tsz_rest (x : ByteArray) (a p : Nat) : tsz (x.extract a x.size) p = tsz x (a + p) := by
  unfold tsz
  simp only [bt_rest, Nat.add_assoc]
theorem TOk_rest {x : ByteArray} {a p : Nat} (ha : a ≤ x.size) : TOk (x.extract a x.size) p ↔ TOk x (a + p) := by
  have e : (x.extract a x.size).size = x.size - a := by rw [ByteArray.size_extract]; omega
  constructor
  · rintro ⟨h1, h2, h3, h4, h5, h6, h7, h8⟩
    simp only [bt_rest, tsz_rest, e, ← Nat.add_assoc] at h1 h2 h3 h4 h5 h6 h7 h8
    exact ⟨h1, h2, h3, h4, by omega, h6, h7, h8⟩
  · rintro ⟨h1, h2, h3, h4, h5, h6, h7, h8⟩
    refine ⟨?_, ?_, ?_, ?_, ?_, ?_, ?_, ?_⟩ <;> simp only [bt_rest, tsz_rest, e, ← Nat.add_assoc] <;> first | assumption | omega
theorem tsz_pos (x : ByteArray) (p : Nat) : 258 ≤ tsz x p := by unfold tsz; omega
theorem TOk.tsz_le {x : ByteArray} {p : Nat} (h : TOk x p) : tsz x p ≤ 858 := by
  unfold tsz
  have : bt x p * bt x (p + 1) ≤ 24 * 24 := Nat.mul_le_mul h.s2 h.c2
  have := h.s2
  omega
/-- Where the tables begin. -/
def tpos (x : ByteArray) (p : Nat) : Nat → Nat
  | 0 => p
  | i + 1 => tpos x p i + tsz x (tpos x p i)
/-- So many tables stand there, and nothing behind them. -/
def TsOk (x : ByteArray) (p r : Nat) : Prop := (∀ i, i < r → TOk x (tpos x p i)) ∧ tpos x p r = x.size
theorem tpos_le {x : ByteArray} {p : Nat} (hp : p ≤ x.size) : ∀ i, (∀ j, j < i → TOk x (tpos x p j)) → tpos x p i ≤ x.size
  | 0, _ => hp
  | i + 1, h => (h i (by omega)).size
theorem tpos_bound {x : ByteArray} {p : Nat} : ∀ i, (∀ j, j < i → TOk x (tpos x p j)) → tpos x p i ≤ p + 858 * i
  | 0, _ => by rw [tpos]; omega
  | i + 1, h => by
    have := tpos_bound i (fun j hj => h j (by omega))
    have := (h i (by omega)).tsz_le
    rw [tpos]; omega
/-- The formula of an image. -/
def imF (x : ByteArray) : ByteArray := x.extract 5 (5 + bt x 4)
structure ImOk (x : ByteArray) : Prop where
  len : 5 ≤ x.size
  b0 : bt x 0 = 86
  b1 : bt x 1 = 80
  n : bt x 2 ≤ 16
  r1 : 1 ≤ bt x 3
  r2 : bt x 3 ≤ 4
  f1 : 1 ≤ bt x 4
  f2 : bt x 4 ≤ 40
  fl : 5 + bt x 4 ≤ x.size
  fm : fscan (bt x 3) (imF x) (imF x).size 0 0 0 = none
  ts : TsOk x (5 + bt x 4) (bt x 3)
def imT (x : ByteArray) (i : Nat) : TabN := tabAt x (tpos x (5 + bt x 4) i)
theorem imF_size {x : ByteArray} (h : 5 + bt x 4 ≤ x.size) : (imF x).size = bt x 4 := by unfold imF; rw [ByteArray.size_extract]; omega

end Mc
end Go.Proofs.Ytlafngfoejngaaa
