/-
  What the code of an image answers.
-/
import Derived.Test.YtlafngfoejngaaaP4
namespace Go.Proofs.Ytlafngfoejngaaa
namespace Mc

theorem getD_set_eq {xs : List Nat} {k : Nat} (h : k < xs.length) (x : Nat) : (xs.set k x).getD k 0 = x := by
  rw [List.getD_eq_getElem?_getD, List.getElem?_set_self h]; rfl
theorem getD_set_ne' {xs : List Nat} {k j : Nat} (h : k ≠ j) (x : Nat) : (xs.set k x).getD j 0 = xs.getD j 0 := by
  rw [List.getD_eq_getElem?_getD, List.getElem?_set_ne h, ← List.getD_eq_getElem?_getD]
theorem getD_rep (n k : Nat) : (List.replicate n 0).getD k 0 = 0 := by
  rw [List.getD_eq_getElem?_getD, List.getElem?_replicate]; split <;> rfl
theorem memW_0 (s : ByteArray) : ∀ i, (memW s i).getD 0 0 = s.size
  | 0 => by rw [memW, getD_set_eq (by simp)]
  | i + 1 => by rw [memW, getD_set_ne' (by omega), memW_0 s i]
theorem memW_s (s : ByteArray) : ∀ i k, i ≤ 16 → (memW s i).getD (1 + k) 0 = if k < i then bt s k else 0
  | 0, k, _ => by rw [memW, getD_set_ne' (by omega), getD_rep, if_neg (by omega)]
  | i + 1, k, hi => by
    rw [memW]
    by_cases h : k = i
    · subst h
      rw [getD_set_eq (by rw [memW_len]; omega), if_pos (by omega)]
    · rw [getD_set_ne' (by omega), memW_s s i k (by omega)]
      by_cases h2 : k < i
      · rw [if_pos h2, if_pos (by omega)]
      · rw [if_neg h2, if_neg (by omega)]
theorem memW_le (s : ByteArray) (hs : s.size ≤ 16) {i : Nat} (hi : i ≤ 16) (k : Nat) : (memW s i).getD k 0 ≤ 65535 := by
  cases k with
  | zero => rw [memW_0]; omega
  | succ k =>
    rw [Nat.add_comm k 1, memW_s s i k hi]
    split
    · have := bt_le s k; omega
    · omega
/-- The bytes of a secret. -/
def btsN (s : ByteArray) : List Nat := (List.range s.size).map (bt s)
theorem btsN_len (s : ByteArray) : (btsN s).length = s.size := by unfold btsN; simp
theorem btsN_get (s : ByteArray) (k : Nat) : (btsN s).getD k 0 = if k < s.size then bt s k else 0 := by
  by_cases h : k < s.size
  · rw [if_pos h]; exact getD_map h
  · rw [if_neg h, List.getD_eq_getElem?_getD, List.getElem?_eq_none (by rw [btsN_len]; omega)]; rfl

theorem mem_rowsW {t : TabN} {b mark x : Nat} : ∀ n, x ∈ rowsW t b mark n → ∃ q, q < n ∧ x ∈ rowW t b mark q t.C
  | 0, h => by simp [rowsW] at h
  | n + 1, h => by
    rw [rowsW, List.mem_append] at h
    rcases h with h | h
    · obtain ⟨q, hq, hx⟩ := mem_rowsW n h
      exact ⟨q, by omega, hx⟩
    · exact ⟨n, by omega, h⟩
theorem rows_le {t : TabN} (h : t.Ok) {b mark n x : Nat} (hb : b ≤ 5000) (hm : mark ≤ 1000) (hn : n ≤ t.S) (hx : x ∈ rowsW t b mark n) : x ≤ 65535 := by
  obtain ⟨q, hq, hx⟩ := mem_rowsW n hx
  unfold rowW at hx
  rw [List.mem_append] at hx
  rcases hx with hx | hx
  · simp at hx
    rw [hx]; split <;> omega
  · obtain ⟨c, hc, rfl⟩ := List.mem_map.1 hx
    have hc' := List.mem_range.1 hc
    have h1 := h.nx q c (by omega) hc'
    have h2 : t.nx q c * (1 + t.C) ≤ 24 * 25 := Nat.mul_le_mul (by have := h.s2; omega) (by have := h.c2; omega)
    omega
theorem layD_le {f : ByteArray} {m : Nat} {ts : Nat → TabN} (h : ∀ i, i < m → (ts i).Ok) (hm : m ≤ 4) : ∀ i, i ≤ m → ∀ x ∈ layD f m ts i, x ≤ 65535
  | 0, _, x, hx => by
    rw [layD, verdW] at hx
    obtain ⟨s, _, rfl⟩ := List.mem_map.1 hx
    have : (trueF f (bitsM s m)).toNat ≤ 1 := by cases trueF f (bitsM s m) <;> decide
    omega
  | i + 1, hi, x, hx => by
    have hl := layD_len f m ts h hm i (by omega)
    have ho := h i (by omega)
    rw [layD, List.mem_append, List.mem_append] at hx
    rcases hx with (hx | hx) | hx
    · exact layD_le h hm i (by omega) x hx
    · obtain ⟨b, hb, rfl⟩ := List.mem_map.1 hx
      have h1 := ho.cl b (List.mem_range.1 hb)
      have := ho.c2
      omega
    · refine rows_le ho ?_ ?_ (Nat.le_refl _) hx
      · rw [List.length_append, clsW_len]; omega
      · have : 2 ^ i ≤ 2 ^ 4 := Nat.pow_le_pow_right (by decide) (by omega)
        omega

theorem getD_le_of {xs : List Nat} (h : ∀ x ∈ xs, x ≤ 65535) (k : Nat) : xs.getD k 0 ≤ 65535 := by
  rw [List.getD_eq_getElem?_getD]
  cases hk : xs[k]? with
  | none => exact Nat.zero_le _
  | some x => exact h x (List.mem_of_getElem? hk)
theorem mem0_nat (xs : List Nat) : mem0 (xs.map Int.ofNat) = xs ++ List.replicate (4096 - xs.length) 0 := by
  unfold mem0
  rw [List.length_map, List.map_map]
  congr 1
  conv => rhs; rw [← List.map_id xs]
  apply List.map_congr_left
  intro x _
  rfl

/-- The rules' truths. -/
def ruleT (m : Nat) (ts : Nat → TabN) (bs : List Nat) : List Bool := (List.range m).map fun i => (ts i).gr ((ts i).run bs)
theorem truths_layP (f : ByteArray) (m : Nat) (ts : Nat → TabN) (bs : List Nat) : ∀ i, truths bs (layP f m ts i) = ruleT i ts bs
  | 0 => rfl
  | i + 1 => by
    have ih := truths_layP f m ts bs i
    unfold truths ruleT at *
    rw [layP, List.map_append, ih, List.range_succ, List.map_append]
    rfl

theorem judged {f : ByteArray} {m N : Nat} {ts : Nat → TabN} {s : ByteArray} (hok : ∀ i, i < m → (ts i).Ok) (hm : m ≤ 4) (hN : N ≤ 16) (hs : s.size ≤ N) :
    ∃ M : List Nat, M.length = 4096 ∧ runAns (codeOf 32 N (layP f m ts m)) ((memW s s.size ++ layD f m ts m).map Int.ofNat) 2097152 = ⟨0, M.set 17 (trueF f (ruleT m ts (btsN s))).toNat, codeT 32 N (layP f m ts m)⟩ := by
  have hl := layD_len f m ts hok hm m (Nat.le_refl _)
  have hlen : (memW s s.size ++ layD f m ts m).length = 32 + (layD f m ts m).length := by rw [List.length_append, memW_len]
  have hM0 := mem0_nat (memW s s.size ++ layD f m ts m)
  have hget : ∀ k, k < 32 → (mem0 ((memW s s.size ++ layD f m ts m).map Int.ofNat)).getD k 0 = (memW s s.size).getD k 0 := fun k hk => by
    rw [hM0, getD_left (by omega), getD_left (by rw [memW_len]; exact hk)]
  have hdat : ∀ j, j < (layD f m ts m).length → (mem0 ((memW s s.size ++ layD f m ts m).map Int.ofNat)).getD (32 + j) 0 = (layD f m ts m).getD j 0 := fun j hj => by
    rw [hM0, getD_left (by omega)]
    have := getD_right (memW s s.size) (layD f m ts m) j
    rwa [memW_len] at this
  have hword : ∀ k, (memW s s.size ++ layD f m ts m).getD k 0 ≤ 65535 := fun k => by
    by_cases hk : k < 32
    · rw [getD_left (by rw [memW_len]; exact hk)]; exact memW_le s (by omega) (by omega) k
    · have := getD_right (memW s s.size) (layD f m ts m) (k - 32)
      rw [memW_len, show 32 + (k - 32) = k by omega] at this
      rw [this]
      exact getD_le_of (layD_le hok hm m (Nat.le_refl _)) _
  have hMw : ∀ i, (mem0 ((memW s s.size ++ layD f m ts m).map Int.ofNat)).getD i 0 ≤ 65535 := fun i => by
    rw [hM0]
    by_cases hi : i < (memW s s.size ++ layD f m ts m).length
    · rw [getD_left hi]; exact hword i
    · have := getD_right (memW s s.size ++ layD f m ts m) (List.replicate (4096 - (memW s s.size ++ layD f m ts m).length) 0) (i - (memW s s.size ++ layD f m ts m).length)
      rw [show (memW s s.size ++ layD f m ts m).length + (i - (memW s s.size ++ layD f m ts m).length) = i by omega] at this
      rw [this, getD_rep]
      exact Nat.zero_le _
  have hpo := data_ok hok hm hdat
  have hsec : SecOk (mem0 ((memW s s.size ++ layD f m ts m).map Int.ofNat)) (btsN s) := ⟨fun b hb => by
    obtain ⟨k, _, rfl⟩ := List.mem_map.1 hb
    exact bt_le s k, fun i hi => by rw [hget _ (by omega), memW_s s _ _ (by omega), btsN_get]⟩
  have hpl := layP_len f m ts m
  have h2 : 2 ^ (layP f m ts m).length ≤ 2 ^ 4 := Nat.pow_le_pow_right (by decide) (by rw [hpl]; exact hm)
  obtain ⟨R, hR⟩ := code_runs (M := mem0 ((memW s s.size ++ layD f m ts m).map Int.ofNat)) (L := s.size) (N := N) (vb := 32) (bs := btsN s) (l := layP f m ts m) hMw (by rw [hget 0 (by decide), memW_0]) hsec (btsN_len s) hs hN (by rw [hpl]; exact hm) hpo (by omega)
  rw [truths_layP, verd_ok hdat (ruleT m ts (btsN s)) (by simp [ruleT])] at hR
  refine ⟨mem0 ((memW s s.size ++ layD f m ts m).map Int.ofNat), mem0_len (by rw [List.length_map]; omega), ?_⟩
  have hcb := code_ok hN (by rw [hpl]; exact hm) hpo
  have hmb : memB ((memW s s.size ++ layD f m ts m).map Int.ofNat) = true := by
    unfold memB
    rw [Bool.and_eq_true]
    refine ⟨by rw [List.length_map]; simp only [decide_eq_true_eq]; omega, ?_⟩
    rw [List.all_eq_true]
    intro z hz
    obtain ⟨x, hx, rfl⟩ := List.mem_map.1 hz
    obtain ⟨k, hk⟩ := List.getElem?_of_mem hx
    have := hword k
    rw [List.getD_eq_getElem?_getD, hk] at this
    simp only [Option.getD_some] at this
    unfold wordOk
    rw [Bool.and_eq_true, decide_eq_true_eq, decide_eq_true_eq]
    exact ⟨Int.natCast_nonneg x, by show (x : Int) ≤ 65535; omega⟩
  have ht : takesE (codeOf 32 N (layP f m ts m)) ((memW s s.size ++ layD f m ts m).map Int.ofNat) 2097152 = 0 := by
    unfold takesE
    rw [hcb, hmb]
    rfl
  unfold runAns
  rw [ht, if_neg (by simp)]
  show endAns (runN _ 2097152 (ms0 _)) = _
  unfold ms0
  rw [hR]
  rfl

end Mc
end Go.Proofs.Ytlafngfoejngaaa
