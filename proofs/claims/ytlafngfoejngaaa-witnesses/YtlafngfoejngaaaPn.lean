/-
  The data of an image's code, laid in memory, are what the code wants.
-/
import Derived.Test.YtlafngfoejngaaaP3
namespace Go.Proofs.Ytlafngfoejngaaa
namespace Mc

theorem sumG_succ : ∀ (l : List Bool) (i : Nat), sumG (i + 1) l = 2 * sumG i l
  | [], _ => rfl
  | b :: l, i => by
    rw [sumG, sumG, sumG_succ l (i + 1), Nat.pow_succ]
    split <;> omega
theorem bits_sum : ∀ (l : List Bool), bitsM (sumG 0 l) l.length = l
  | [] => rfl
  | b :: l => by
    rw [sumG, sumG_succ, List.length_cons, bitsM]
    cases b
    · have e1 : (0 + 2 * sumG 0 l) % 2 = 0 := by omega
      have e2 : (0 + 2 * sumG 0 l) / 2 = sumG 0 l := by omega
      simp only [Bool.false_eq_true, if_false, e1, e2, bits_sum l]
      rfl
    · have e1 : (2 ^ 0 + 2 * sumG 0 l) % 2 = 1 := by omega
      have e2 : (2 ^ 0 + 2 * sumG 0 l) / 2 = sumG 0 l := by omega
      simp only [if_true, e1, e2, bits_sum l]
      rfl

theorem getD_left {xs ys : List Nat} {k : Nat} (h : k < xs.length) : (xs ++ ys).getD k 0 = xs.getD k 0 := by
  rw [List.getD_eq_getElem?_getD, List.getElem?_append_left h, ← List.getD_eq_getElem?_getD]
theorem getD_right (xs ys : List Nat) (k : Nat) : (xs ++ ys).getD (xs.length + k) 0 = ys.getD k 0 := by
  rw [List.getD_eq_getElem?_getD, List.getElem?_append_right (by omega), Nat.add_sub_cancel_left, ← List.getD_eq_getElem?_getD]
theorem getD_map {f : Nat → Nat} {n k : Nat} (h : k < n) : ((List.range n).map f).getD k 0 = f k := by
  rw [List.getD_eq_getElem?_getD, List.getElem?_map, List.getElem?_range h]; rfl

theorem rowsW_get (t : TabN) (b mark : Nat) : ∀ (n q j : Nat), q < n → j < 1 + t.C → (rowsW t b mark n).getD (q * (1 + t.C) + j) 0 = (rowW t b mark q t.C).getD j 0
  | n + 1, q, j, hq, hj => by
    rw [rowsW]
    by_cases h : q < n
    · have h1 : (q + 1) * (1 + t.C) ≤ n * (1 + t.C) := Nat.mul_le_mul_right _ h
      rw [Nat.add_mul, Nat.one_mul] at h1
      rw [getD_left (by rw [rowsW_len]; omega)]
      exact rowsW_get t b mark n q j h hj
    · have e : q = n := by omega
      subst e
      have := getD_right (rowsW t b mark q) (rowW t b mark q t.C) j
      rwa [rowsW_len] at this
theorem rowW_0 (t : TabN) (b mark q : Nat) : (rowW t b mark q t.C).getD 0 0 = if t.gr q then mark else 0 := rfl
theorem rowW_s (t : TabN) (b mark q : Nat) {c : Nat} (h : c < t.C) : (rowW t b mark q t.C).getD (1 + c) 0 = b + t.nx q c * (1 + t.C) := by
  have := getD_right [if t.gr q then mark else 0] ((List.range t.C).map fun k => b + t.nx q k * (1 + t.C)) c
  unfold rowW
  rw [show (1 : Nat) + c = [if t.gr q then mark else 0].length + c from rfl, this, getD_map h]

theorem layD_pre (f : ByteArray) (m : Nat) (ts : Nat → TabN) (i : Nat) : ∀ k, ∃ r, layD f m ts (i + k) = layD f m ts i ++ r
  | 0 => ⟨[], by simp⟩
  | k + 1 => by
    obtain ⟨r, hr⟩ := layD_pre f m ts i k
    rw [← Nat.add_assoc, layD]
    exact ⟨r ++ clsW (ts (i + k)) 256 ++ rowsW (ts (i + k)) (32 + (layD f m ts (i + k) ++ clsW (ts (i + k)) 256).length) (2 ^ (i + k)) (ts (i + k)).S, by rw [hr]; simp only [List.append_assoc]⟩

section
variable {f : ByteArray} {m : Nat} {ts : Nat → TabN} {M : List Nat}
theorem layP_get : ∀ (i j : Nat) (x : Pt), (layP f m ts i)[j]? = some x → j < i ∧ x = ⟨32 + (layD f m ts j).length, 32 + (layD f m ts j).length + 256, ts j⟩
  | 0, j, x, h => by simp [layP] at h
  | i + 1, j, x, h => by
    rw [layP] at h
    by_cases hj : j < i
    · rw [List.getElem?_append_left (by rw [layP_len]; exact hj)] at h
      have := layP_get i j x h
      exact ⟨by omega, this.2⟩
    · rw [List.getElem?_append_right (by rw [layP_len]; omega), layP_len] at h
      by_cases hj2 : j = i
      · subst hj2
        simp at h
        exact ⟨by omega, h.symm⟩
      · rw [List.getElem?_eq_none (by simp; omega)] at h
        cases h

theorem data_ok (hok : ∀ i, i < m → (ts i).Ok) (hm : m ≤ 4) (hM : ∀ j, j < (layD f m ts m).length → M.getD (32 + j) 0 = (layD f m ts m).getD j 0) : PartsOk M 0 (layP f m ts m) := by
  intro j x hx
  obtain ⟨hj, rfl⟩ := layP_get m j x hx
  have ho := hok j hj
  have hl := layD_len f m ts hok hm j (by omega)
  have hl2 := layD_len f m ts hok hm (j + 1) (by omega)
  have hle := hl2
  rw [layD, List.length_append, List.length_append, clsW_len, rowsW_len] at hl2
  obtain ⟨r, hr⟩ := layD_pre f m ts (j + 1) (m - (j + 1))
  rw [show j + 1 + (m - (j + 1)) = m by omega] at hr
  have hpre : ∀ k, k < (layD f m ts (j + 1)).length → M.getD (32 + k) 0 = (layD f m ts (j + 1)).getD k 0 := fun k hk => by
    rw [hM k (by rw [hr, List.length_append]; omega), hr, getD_left hk]
  have hlen : (layD f m ts (j + 1)).length = (layD f m ts j).length + 256 + (ts j).S * (1 + (ts j).C) := by rw [layD, List.length_append, List.length_append, clsW_len, rowsW_len]
  have hrow : ∀ q k, q < (ts j).S → k < 1 + (ts j).C → M.getD (32 + (layD f m ts j).length + 256 + q * ((ts j).C + 1) + k) 0 = (rowW (ts j) (32 + (layD f m ts j).length + 256) (2 ^ j) q (ts j).C).getD k 0 := fun q k hq hk => by
    have h1 : (q + 1) * (1 + (ts j).C) ≤ (ts j).S * (1 + (ts j).C) := Nat.mul_le_mul_right _ hq
    rw [Nat.add_mul, Nat.one_mul] at h1
    have e : 32 + (layD f m ts j).length + 256 + q * ((ts j).C + 1) + k = 32 + ((layD f m ts j).length + 256 + (q * (1 + (ts j).C) + k)) := by rw [Nat.add_comm (ts j).C 1]; omega
    rw [e, hpre _ (by rw [hlen]; omega), layD]
    have h2 := getD_right (layD f m ts j ++ clsW (ts j) 256) (rowsW (ts j) (32 + (layD f m ts j ++ clsW (ts j) 256).length) (2 ^ j) (ts j).S) (q * (1 + (ts j).C) + k)
    have h3 : (layD f m ts j ++ clsW (ts j) 256).length = (layD f m ts j).length + 256 := by rw [List.length_append, clsW_len]
    rw [h3] at h2 ⊢
    rw [h2, rowsW_get _ _ _ _ _ _ hq hk, show 32 + ((layD f m ts j).length + 256) = 32 + (layD f m ts j).length + 256 by omega]
  refine ⟨ho, ?_, ?_, fun b hb => ?_, fun q hq => ?_, fun q c hq hc => ?_⟩
  · show 32 + (layD f m ts j).length + 256 ≤ 4096
    omega
  · show 32 + (layD f m ts j).length + 256 + (ts j).S * ((ts j).C + 1) ≤ 4096
    rw [Nat.add_comm (ts j).C 1]
    omega
  · show M.getD (32 + (layD f m ts j).length + b) 0 = _
    rw [Nat.add_assoc, hpre _ (by rw [hlen]; omega), layD, getD_left (by rw [List.length_append, clsW_len]; omega), getD_right]
    exact getD_map hb
  · have := hrow q 0 hq (by omega)
    rw [Nat.zero_add]
    exact this
  · have hc' : c < (ts j).C := hc
    have := hrow q (1 + c) hq (by omega)
    rw [rowW_s _ _ _ _ hc', Nat.add_comm 1 (ts j).C] at this
    exact this
theorem verd_ok (hM : ∀ j, j < (layD f m ts m).length → M.getD (32 + j) 0 = (layD f m ts m).getD j 0) (l : List Bool) (hl : l.length = m) : M.getD (32 + sumG 0 l) 0 = (trueF f l).toNat := by
  obtain ⟨r, hr⟩ := layD_pre f m ts 0 m
  rw [Nat.zero_add] at hr
  have h1 := sumG_lt l 0
  rw [Nat.zero_add, hl] at h1
  have h0 : (layD f m ts 0).length = 2 ^ m := by rw [layD, verdW_len]
  have h2 : sumG 0 l < 2 ^ m := by omega
  rw [hM _ (by rw [hr, List.length_append, h0]; omega), hr, getD_left (by rw [h0]; exact h2), layD, verdW, getD_map h2, ← hl, bits_sum]
end

end Mc
end Go.Proofs.Ytlafngfoejngaaa
