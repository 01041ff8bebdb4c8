/-
  Plain mathematics: the graph of an automaton, drawn state by state and letter by letter, numbers its states as they are met.
-/
import Derived.Test.YtohefinejdfhaabTU
import Derived.Test.YtohefinejdfhaabLL
namespace Go.Proofs.Ytohefinejdfhaab

/-- The spots at which a byte can stand. -/
def fitN (sets : List (Nat → Bool)) (b : Nat) : Nat → Nat
  | 0 => 0
  | k + 1 => if setAtN sets k b then fitN sets b k ||| 2 ^ k else fitN sets b k
theorem fitN_bit (sets : List (Nat → Bool)) (b j : Nat) : ∀ k, (fitN sets b k).testBit j = true ↔ j < k ∧ setAtN sets j b = true
  | 0 => by simp [fitN]
  | k + 1 => by
    rw [fitN]
    have ih := fitN_bit sets b j k
    by_cases h : setAtN sets k b = true
    · rw [if_pos h, Nat.testBit_or, Bool.or_eq_true, ih, bit_two]
      constructor
      · rintro (⟨h1, h2⟩ | rfl)
        · exact ⟨by omega, h2⟩
        · exact ⟨by omega, h⟩
      · rintro ⟨h1, h2⟩
        by_cases hj : j = k
        · exact Or.inr hj
        · exact Or.inl ⟨by omega, h2⟩
    · rw [if_neg h, ih]
      constructor
      · rintro ⟨h1, h2⟩; exact ⟨by omega, h2⟩
      · rintro ⟨h1, h2⟩
        by_cases hj : j = k
        · subst hj; exact absurd h2 h
        · exact ⟨by omega, h2⟩
theorem fitN_lt (sets : List (Nat → Bool)) (b k : Nat) : fitN sets b k < 2 ^ k := by
  refine Nat.lt_pow_two_of_testBit _ fun i hi => ?_
  cases h : (fitN sets b k).testBit i
  · rfl
  · have := ((fitN_bit sets b i k).1 h).1; omega
def fitP (p : Part) (b : Nat) : Nat := fitN p.sets b p.sets.length
def reachP (p : Part) (x : Nat) : Nat := reachN p.next x p.next.length
theorem stepN_fit (p : Part) (x b : Nat) : stepN p x b = reachP p x &&& fitP p b := by
  apply Nat.eq_of_testBit_eq
  intro j
  rw [Bool.eq_iff_iff, Nat.testBit_and, Bool.and_eq_true]
  unfold stepN fitP reachP
  rw [ledN_bit, fitN_bit]
  constructor
  · rintro ⟨h1, h2, h3⟩; exact ⟨h2, h1, h3⟩
  · rintro ⟨h2, h1, h3⟩; exact ⟨h1, h2, h3⟩

structure Drawn (B M : Nat) (dl : Nat → Nat → Nat) (st : List Nat) (e : Nat) (nx : List Nat) : Prop where
  len : nx.length = e
  nodup : ∀ i j, i < j → j < st.length → st.getD i 0 ≠ st.getD j 0
  bound : ∀ i, i < st.length → st.getD i 0 < B
  edge : ∀ k, k < e → nx.getD k 0 < st.length ∧ st.getD (nx.getD k 0) 0 = dl (st.getD (k / M) 0) (k % M)
  met : ∀ j, 0 < j → j < st.length → ∃ k, k < e ∧ nx.getD k 0 = j ∧ k / M < j ∧ ∀ k', k' < k → nx.getD k' 0 < j
  first : 0 < st.length ∧ st.getD 0 0 = 1
  rows : e / M ≤ st.length
theorem Drawn.start {B M : Nat} {dl : Nat → Nat → Nat} (hB : 1 < B) : Drawn B M dl [1] 0 [] :=
  ⟨rfl, fun i j hij hj => by simp at hj; omega, fun i hi => by simp at hi; subst hi; exact hB, fun k hk => absurd hk (Nat.not_lt_zero _), fun j h0 hj => by simp at hj; omega, by simp, by simp⟩
theorem Drawn.size {B M : Nat} {dl : Nat → Nat → Nat} {st : List Nat} {e : Nat} {nx : List Nat} (h : Drawn B M dl st e nx) : st.length ≤ B := by
  refine Nat.le_of_not_lt fun hlt => ?_
  obtain ⟨i, j, hij, hj, e⟩ := pigeon B (fun i => st.getD i 0) fun i hi => h.bound i (by omega)
  exact h.nodup i j hij (by omega) e
theorem Drawn.old {B M : Nat} {dl : Nat → Nat → Nat} {st : List Nat} {e : Nat} {nx : List Nat} {j : Nat} (h : Drawn B M dl st e nx) (hM : 0 < M) (he : e / M < st.length) (hj : j < st.length) (hs : st.getD j 0 = dl (st.getD (e / M) 0) (e % M)) : Drawn B M dl st (e + 1) (nx ++ [j]) := by
  have hl := h.len
  refine ⟨by simp [hl], h.nodup, h.bound, fun k hk => ?_, fun i h0 hi => ?_, h.first, ?_⟩
  · by_cases hke : k = e
    · subst hke
      rw [← hl, getD_snoc_new, hl]; exact ⟨hj, hs⟩
    · rw [getD_snoc_old (by omega)]; exact h.edge k (by omega)
  · obtain ⟨k, h1, h2, h3, h4⟩ := h.met i h0 hi
    refine ⟨k, by omega, by rw [getD_snoc_old (by omega)]; exact h2, h3, fun k' hk' => ?_⟩
    rw [getD_snoc_old (by omega)]; exact h4 k' hk'
  · have : (e + 1) / M ≤ e / M + 1 := by
      rw [Nat.div_le_iff_le_mul_add_pred hM]
      have := Nat.div_add_mod e M
      have := Nat.mod_lt e hM
      rw [Nat.mul_add]; omega
    omega
theorem Drawn.new {B M : Nat} {dl : Nat → Nat → Nat} {st : List Nat} {e : Nat} {nx : List Nat} {s : Nat} (h : Drawn B M dl st e nx) (hM : 0 < M) (he : e / M < st.length) (hs : s = dl (st.getD (e / M) 0) (e % M)) (hb : s < B) (hf : ∀ i, i < st.length → st.getD i 0 ≠ s) : Drawn B M dl (st ++ [s]) (e + 1) (nx ++ [st.length]) := by
  have hl := h.len
  have hl2 : (st ++ [s]).length = st.length + 1 := by simp
  refine ⟨by simp [hl], fun i j hij hj => ?_, fun i hi => ?_, fun k hk => ?_, fun i h0 hi => ?_, ⟨by omega, by rw [getD_snoc_old h.first.1]; exact h.first.2⟩, ?_⟩
  · rw [getD_snoc_old (show i < st.length by omega)]
    by_cases hj2 : j = st.length
    · rw [hj2, getD_snoc_new]; exact hf i (by omega)
    · rw [getD_snoc_old (show j < st.length by omega)]; exact h.nodup i j hij (by omega)
  · by_cases hj2 : i = st.length
    · rw [hj2, getD_snoc_new]; exact hb
    · rw [getD_snoc_old (show i < st.length by omega)]; exact h.bound i (by omega)
  · have hkM : k / M < st.length := by
      have : k / M ≤ e / M := Nat.div_le_div_right (by omega)
      omega
    by_cases hke : k = e
    · subst hke
      have e1 : (nx ++ [st.length]).getD k 0 = st.length := by rw [← hl]; exact getD_snoc_new _ _
      rw [e1]
      exact ⟨by omega, by rw [getD_snoc_new, getD_snoc_old hkM]; exact hs⟩
    · have := h.edge k (by omega)
      rw [getD_snoc_old (show k < nx.length by omega), getD_snoc_old this.1, getD_snoc_old hkM]
      exact ⟨by omega, this.2⟩
  · by_cases hj2 : i = st.length
    · subst hj2
      refine ⟨e, by omega, by rw [← hl]; exact getD_snoc_new _ _, he, fun k' hk' => ?_⟩
      rw [getD_snoc_old (by omega)]; exact (h.edge k' hk').1
    · obtain ⟨k, h1, h2, h3, h4⟩ := h.met i h0 (by omega)
      refine ⟨k, by omega, by rw [getD_snoc_old (by omega)]; exact h2, h3, fun k' hk' => ?_⟩
      rw [getD_snoc_old (by omega)]; exact h4 k' hk'
  · have : (e + 1) / M ≤ e / M + 1 := by
      rw [Nat.div_le_iff_le_mul_add_pred hM]
      have := Nat.div_add_mod e M
      have := Nat.mod_lt e hM
      rw [Nat.mul_add]; omega
    omega

/-- The least byte of a letter. -/
theorem Sorted.below_head {N : Nat} {E : Nat → Nat → Prop} {hs : List Nat} {kd : Nat → Nat} (h : Sorted N E hs kd) {c b : Nat} (hc : c < hs.length) (hb : b < hs.getD c 0) : kd b < c := by
  have g := h.head c hc
  have l := h.lt b (by omega)
  have := h.le b (by omega)
  refine Nat.lt_of_not_le fun hle => ?_
  rcases Nat.lt_or_eq_of_le hle with q | q
  · have := h.incr c _ q l; omega
  · rw [← q] at this; omega

theorem edge_div {M i c : Nat} (hc : c < M) : (i * M + c) / M = i ∧ (i * M + c) % M = c := by
  have hM : 0 < M := by omega
  rw [Nat.mul_comm i M, Nat.mul_add_div hM, Nat.div_eq_of_lt hc, Nat.mul_add_mod, Nat.mod_eq_of_lt hc]
  exact ⟨by omega, rfl⟩
theorem edge_lt {M i c i' c' : Nat} (hc : c < M) (hi : i < i') : i * M + c < i' * M + c' := by
  have : (i + 1) * M ≤ i' * M := Nat.mul_le_mul_right M hi
  rw [Nat.add_mul] at this; omega

/-- What is drawn to the end is an automaton whose states are met in the order of their numbers. -/
theorem Drawn.dfa {p : Part} {B : Nat} {st nx hb : List Nat} {lt : Nat → Nat} {gr : Nat → Bool} {L : List Nat → Prop}
    (hs : Sorted 256 (fun b b' => fitP p b = fitP p b') hb lt) (h : Drawn B hb.length (fun s c => reachP p s &&& fitP p (hb.getD c 0)) st (st.length * hb.length) nx)
    (hg : ∀ i, i < st.length → (gr i = true ↔ st.getD i 0 &&& p.last ≠ 0)) (hL : ∀ u, runN p 1 u &&& p.last ≠ 0 ↔ L u) :
    BfsDfa L st.length (fun i b => nx.getD (i * hb.length + lt b) 0) gr := by
  have hM : 0 < hb.length := (hs.zero (by omega)).1
  have hk : ∀ {i b}, i < st.length → b < 256 → i * hb.length + lt b < st.length * hb.length := fun {i b} hi hb' => edge_lt (c' := 0) (hs.lt b hb') hi
  have hstep : ∀ {i b}, i < st.length → b < 256 → nx.getD (i * hb.length + lt b) 0 < st.length ∧ st.getD (nx.getD (i * hb.length + lt b) 0) 0 = stepN p (st.getD i 0) b := fun {i b} hi hb' => by
    have := h.edge _ (hk hi hb')
    rw [(edge_div (hs.lt b hb')).1, (edge_div (hs.lt b hb')).2] at this
    refine ⟨this.1, ?_⟩
    have g := hs.head _ (hs.lt b hb')
    have e : fitP p (hb.getD (lt b) 0) = fitP p b := (hs.iff _ b g.1 hb').1 g.2
    rw [this.2, stepN_fit]
    show reachP p _ &&& fitP p _ = _
    rw [e]
  have hrun : ∀ (u : List Nat) (i : Nat), i < st.length → bytesOk u → dRun (fun i b => nx.getD (i * hb.length + lt b) 0) i u < st.length ∧ st.getD (dRun (fun i b => nx.getD (i * hb.length + lt b) 0) i u) 0 = runN p (st.getD i 0) u := by
    intro u
    induction u with
    | nil => intro i hi _; exact ⟨hi, rfl⟩
    | cons b u ih =>
      intro i hi hu
      have hb' := bytesOk_tail hu
      have g := hstep hi hb'.1
      have := ih _ g.1 hb'.2
      rw [g.2] at this
      exact this
  refine ⟨h.first.1, fun i b hi hb' => (hstep hi hb').1, fun u hu => ?_, fun k h0 hk1 => ?_⟩
  · have g := hrun u 0 h.first.1 hu
    rw [h.first.2] at g
    rw [hg _ g.1, g.2]; exact hL u
  · obtain ⟨k0, h1, h2, h3, h4⟩ := h.met k h0 hk1
    have hc : k0 % hb.length < hb.length := Nat.mod_lt _ hM
    have g := hs.head _ hc
    have e0 : k0 / hb.length * hb.length + k0 % hb.length = k0 := by rw [Nat.mul_comm]; exact Nat.div_add_mod _ _
    refine ⟨k0 / hb.length, hb.getD (k0 % hb.length) 0, h3, g.1, ?_, fun i' b' hb' hi' => ?_, fun b' hb' => ?_⟩
    · show nx.getD (_ * _ + lt _) 0 = k
      rw [g.2, e0]; exact h2
    · refine h4 _ ?_
      rw [← e0]
      exact edge_lt (hs.lt b' hb') hi'
    · refine h4 _ ?_
      have := hs.below_head hc hb'
      omega

end Go.Proofs.Ytohefinejdfhaab
