/-
  Plain mathematics: things that are sorted by likeness, each kind numbered by its first; that splitting the kinds until there are no more ends at the least automaton.
-/
import Derived.Test.YtohefinejdfhaabTT
namespace Go.Proofs.Ytohefinejdfhaab

structure Sorted (N : Nat) (E : Nat → Nat → Prop) (hs : List Nat) (kd : Nat → Nat) : Prop where
  head : ∀ k, k < hs.length → hs.getD k 0 < N ∧ kd (hs.getD k 0) = k
  lt : ∀ a, a < N → kd a < hs.length
  le : ∀ a, a < N → hs.getD (kd a) 0 ≤ a
  incr : ∀ j k, j < k → k < hs.length → hs.getD j 0 < hs.getD k 0
  iff : ∀ a b, a < N → b < N → (kd a = kd b ↔ E a b)
theorem Sorted.nil (E : Nat → Nat → Prop) (kd : Nat → Nat) : Sorted 0 E [] kd :=
  ⟨fun _ h => absurd h (Nat.not_lt_zero _), fun _ h => absurd h (Nat.not_lt_zero _), fun _ h => absurd h (Nat.not_lt_zero _), fun _ _ _ h => absurd h (Nat.not_lt_zero _), fun _ _ h => absurd h (Nat.not_lt_zero _)⟩
theorem getD_snoc_old {l : List Nat} {x k : Nat} (h : k < l.length) : (l ++ [x]).getD k 0 = l.getD k 0 := by
  rw [List.getD_eq_getElem?_getD, List.getD_eq_getElem?_getD, List.getElem?_append_left h]
theorem getD_snoc_new (l : List Nat) (x : Nat) : (l ++ [x]).getD l.length 0 = x := by
  rw [List.getD_eq_getElem?_getD, List.getElem?_append_right (Nat.le_refl _), Nat.sub_self]; rfl
theorem Sorted.old {n : Nat} {E : Nat → Nat → Prop} {hs : List Nat} {kd kd' : Nat → Nat} {k : Nat} (h : Sorted n E hs kd) (hE : Equivalence E) (hk : k < hs.length) (he : E n (hs.getD k 0)) (h1 : ∀ a, a < n → kd' a = kd a) (h2 : kd' n = k) : Sorted (n + 1) E hs kd' := by
  refine ⟨fun j hj => ?_, fun a ha => ?_, fun a ha => ?_, h.incr, ?_⟩
  · have := h.head j hj
    exact ⟨by omega, by rw [h1 _ this.1]; exact this.2⟩
  · by_cases e : a = n
    · rw [e, h2]; exact hk
    · rw [h1 a (by omega)]; exact h.lt a (by omega)
  · by_cases e : a = n
    · rw [e, h2]; have := (h.head k hk).1; omega
    · rw [h1 a (by omega)]; exact h.le a (by omega)
  · have key : ∀ b, b < n → (k = kd b ↔ E n b) := fun b hb => by
      have g := h.head k hk
      have := h.iff _ b g.1 hb
      rw [g.2] at this
      rw [this]
      exact ⟨fun q => hE.trans he q, fun q => hE.trans (hE.symm he) q⟩
    intro a b ha hb
    by_cases ea : a = n <;> by_cases eb : b = n
    · subst ea; subst eb; exact ⟨fun _ => hE.refl _, fun _ => rfl⟩
    · subst ea; rw [h2, h1 b (by omega)]; exact key b (by omega)
    · subst eb; rw [h2, h1 a (by omega)]
      exact ⟨fun q => hE.symm ((key a (by omega)).1 q.symm), fun q => ((key a (by omega)).2 (hE.symm q)).symm⟩
    · rw [h1 a (by omega), h1 b (by omega)]; exact h.iff a b (by omega) (by omega)
theorem Sorted.new {n : Nat} {E : Nat → Nat → Prop} {hs : List Nat} {kd kd' : Nat → Nat} (h : Sorted n E hs kd) (hE : Equivalence E) (hno : ∀ j, j < hs.length → ¬ E n (hs.getD j 0)) (h1 : ∀ a, a < n → kd' a = kd a) (h2 : kd' n = hs.length) : Sorted (n + 1) E (hs ++ [n]) kd' := by
  have hl : (hs ++ [n]).length = hs.length + 1 := by simp
  refine ⟨fun j hj => ?_, fun a ha => ?_, fun a ha => ?_, fun i j hij hj => ?_, ?_⟩
  · by_cases e : j = hs.length
    · rw [e, getD_snoc_new]; exact ⟨by omega, h2⟩
    · have hj' : j < hs.length := by omega
      have := h.head j hj'
      rw [getD_snoc_old hj']
      exact ⟨by omega, by rw [h1 _ this.1]; exact this.2⟩
  · by_cases e : a = n
    · rw [e, h2]; omega
    · rw [h1 a (by omega)]; have := h.lt a (by omega); omega
  · by_cases e : a = n
    · rw [e, h2, getD_snoc_new]; exact Nat.le_refl _
    · have := h.lt a (by omega)
      rw [h1 a (by omega), getD_snoc_old this]; exact h.le a (by omega)
  · rw [getD_snoc_old (show i < hs.length by omega)]
    by_cases e : j = hs.length
    · rw [e, getD_snoc_new]; exact (h.head i (by omega)).1
    · rw [getD_snoc_old (show j < hs.length by omega)]; exact h.incr i j hij (by omega)
  · have key : ∀ b, b < n → ¬ E n b := fun b hb q => by
      have l := h.lt b hb
      have g := h.head _ l
      exact hno _ l (hE.trans q (hE.symm ((h.iff _ b g.1 hb).1 g.2)))
    intro a b ha hb
    by_cases ea : a = n <;> by_cases eb : b = n
    · subst ea; subst eb; exact ⟨fun _ => hE.refl _, fun _ => rfl⟩
    · subst ea; rw [h2, h1 b (by omega)]
      have := h.lt b (by omega)
      exact ⟨fun q => by omega, fun q => absurd q (key b (by omega))⟩
    · subst eb; rw [h2, h1 a (by omega)]
      have := h.lt a (by omega)
      exact ⟨fun q => by omega, fun q => absurd (hE.symm q) (key a (by omega))⟩
    · rw [h1 a (by omega), h1 b (by omega)]; exact h.iff a b (by omega) (by omega)
theorem Sorted.apart {N : Nat} {E : Nat → Nat → Prop} {hs : List Nat} {kd : Nat → Nat} (h : Sorted N E hs kd) {i j : Nat} (hij : i < j) (hj : j < hs.length) : ¬ E (hs.getD i 0) (hs.getD j 0) := fun e => by
  have h1 := h.head i (by omega)
  have h2 := h.head j hj
  have := (h.iff _ _ h1.1 h2.1).2 e
  rw [h1.2, h2.2] at this; omega
theorem Sorted.grow {N : Nat} {E : Nat → Nat → Prop} {hs : List Nat} {kd : Nat → Nat} (h : Sorted N E hs kd) {a : Nat} (ha : a < N) {c : Nat} (hc : c < kd a) : ∃ a', a' < a ∧ kd a' = c := by
  have l := h.lt a ha
  have g := h.head c (by omega)
  exact ⟨_, Nat.lt_of_lt_of_le (h.incr c _ hc l) (h.le a ha), g.2⟩
theorem Sorted.zero {N : Nat} {E : Nat → Nat → Prop} {hs : List Nat} {kd : Nat → Nat} (h : Sorted N E hs kd) (hN : 0 < N) : 0 < hs.length ∧ kd 0 = 0 ∧ hs.getD 0 0 = 0 := by
  have l := h.lt 0 hN
  have e : kd 0 = 0 := by
    by_cases e : kd 0 = 0
    · exact e
    · obtain ⟨a', h1, _⟩ := h.grow hN (show 0 < kd 0 by omega); omega
  have := h.le 0 hN
  rw [e] at this
  exact ⟨by omega, e, by omega⟩

/-- An automaton whose states are met in the order of their numbers; several may be alike. -/
structure BfsDfa (L : List Nat → Prop) (N : Nat) (nx : Nat → Nat → Nat) (gr : Nat → Bool) : Prop where
  pos : 0 < N
  lt : ∀ i b, i < N → b < 256 → nx i b < N
  says : ∀ u, bytesOk u → (gr (dRun nx 0 u) = true ↔ L u)
  bfs : ∀ k, 0 < k → k < N → ∃ i b, i < k ∧ b < 256 ∧ nx i b = k ∧ (∀ i' b', b' < 256 → i' < i → nx i' b' < k) ∧ (∀ b', b' < b → nx i b' < k)
section fold
variable {L : List Nat → Prop} {N : Nat} {nx : Nat → Nat → Nat} {gr : Nat → Bool}
theorem BfsDfa.run_lt (h : BfsDfa L N nx gr) : ∀ (u : List Nat) (i : Nat), i < N → bytesOk u → dRun nx i u < N
  | [], _, hi, _ => hi
  | b :: u, i, hi, hu => h.run_lt u _ (h.lt i b hi (bytesOk_tail hu).1) (bytesOk_tail hu).2
theorem BfsDfa.reached (h : BfsDfa L N nx gr) (k : Nat) : k < N → ∃ u, bytesOk u ∧ dRun nx 0 u = k := by
  induction k using Nat.strongRecOn with
  | ind k ih =>
    intro hk
    by_cases h0 : k = 0
    · exact ⟨[], bytesOk_nil, h0.symm⟩
    · obtain ⟨i, b, hi, hb, e, _⟩ := h.bfs k (by omega) hk
      obtain ⟨u, hu, eu⟩ := ih i hi (by omega)
      exact ⟨u ++ [b], bytesOk_snoc hu hb, by rw [dRun_append, eu]; exact e⟩
def Espl (nx : Nat → Nat → Nat) (gr : Nat → Bool) (kd : Nat → Nat) (a b : Nat) : Prop := kd a = kd b ∧ gr a = gr b ∧ ∀ c, c < 256 → kd (nx a c) = kd (nx b c)
theorem Espl_eqv (nx : Nat → Nat → Nat) (gr : Nat → Bool) (kd : Nat → Nat) : Equivalence (Espl nx gr kd) :=
  ⟨fun _ => ⟨rfl, rfl, fun _ _ => rfl⟩, fun h => ⟨h.1.symm, h.2.1.symm, fun c hc => (h.2.2 c hc).symm⟩, fun h g => ⟨h.1.trans g.1, h.2.1.trans g.2.1, fun c hc => (h.2.2 c hc).trans (g.2.2 c hc)⟩⟩
/-- States of two kinds are told apart by a string. -/
def ToldK (N : Nat) (nx : Nat → Nat → Nat) (gr : Nat → Bool) (kd : Nat → Nat) : Prop := ∀ a b, a < N → b < N → kd a ≠ kd b → ∃ u, bytesOk u ∧ gr (dRun nx a u) ≠ gr (dRun nx b u)
theorem ToldK.zero {kd : Nat → Nat} (h : ∀ a, a < N → kd a = 0) : ToldK N nx gr kd := fun a b ha hb hne => absurd (by rw [h a ha, h b hb]) hne
theorem ToldK.not (hl : ∀ i b, i < N → b < 256 → nx i b < N) {kd : Nat → Nat} (h : ToldK N nx gr kd) {a b : Nat} (ha : a < N) (hb : b < N) (hne : ¬ Espl nx gr kd a b) : ∃ u, bytesOk u ∧ gr (dRun nx a u) ≠ gr (dRun nx b u) := by
  by_cases h1 : kd a = kd b
  · by_cases h2 : gr a = gr b
    · obtain ⟨c, hc⟩ := Classical.not_forall.1 fun h3 => hne ⟨h1, h2, h3⟩
      obtain ⟨hc, hd⟩ := Classical.not_imp.1 hc
      obtain ⟨u, hu, e⟩ := h _ _ (hl a c ha hc) (hl b c hb hc) hd
      exact ⟨c :: u, bytesOk_cons hc hu, e⟩
    · exact ⟨[], bytesOk_nil, h2⟩
  · exact h a b ha hb h1
theorem ToldK.next (hl : ∀ i b, i < N → b < 256 → nx i b < N) {kd kd' : Nat → Nat} {hs : List Nat} (h : ToldK N nx gr kd) (hs' : Sorted N (Espl nx gr kd) hs kd') : ToldK N nx gr kd' :=
  fun a b ha hb hne => h.not hl ha hb fun e => hne ((hs'.iff a b ha hb).2 e)
theorem Sorted.size_le {E E' : Nat → Nat → Prop} {hs hs' : List Nat} {kd kd' : Nat → Nat} (h : Sorted N E hs kd) (h' : Sorted N E' hs' kd') (hf : ∀ a b, a < N → b < N → kd' a = kd' b → kd a = kd b) : hs.length ≤ hs'.length := by
  refine Nat.le_of_not_lt fun hlt => ?_
  obtain ⟨i, j, hij, hj, e⟩ := pigeon hs'.length (fun k => kd' (hs.getD k 0)) fun k hk => h'.lt _ (h.head k (by omega)).1
  have h1 := h.head i (by omega)
  have h2 := h.head j (by omega)
  have := hf _ _ h1.1 h2.1 e
  rw [h1.2, h2.2] at this; omega
theorem Sorted.size_eq {E E' : Nat → Nat → Prop} {hs hs' : List Nat} {kd kd' : Nat → Nat} (h : Sorted N E hs kd) (h' : Sorted N E' hs' kd') (hf : ∀ a b, a < N → b < N → kd' a = kd' b → kd a = kd b) (he : hs.length = hs'.length) {a b : Nat} (ha : a < N) (hb : b < N) (hk : kd a = kd b) : kd' a = kd' b := by
  refine Classical.byContradiction fun hne => ?_
  have key : ∀ x, x < N → (∀ k, k < hs.length → kd' (hs.getD k 0) ≠ kd' x) → False := fun x hx hno => by
    obtain ⟨i, j, hij, hj, e⟩ := pigeon hs.length (fun k => if k < hs.length then kd' (hs.getD k 0) else kd' x) fun k hk => by
      show (if _ then _ else _) < _
      split
      · rw [he]; exact h'.lt _ (h.head k (by assumption)).1
      · rw [he]; exact h'.lt _ hx
    have hi : i < hs.length := by omega
    simp only [if_pos hi] at e
    by_cases hj2 : j < hs.length
    · rw [if_pos hj2] at e
      have h1 := h.head i hi
      have h2 := h.head j hj2
      have := hf _ _ h1.1 h2.1 e
      rw [h1.2, h2.2] at this; omega
    · rw [if_neg hj2] at e
      exact hno i hi e
  have img : ∀ x, x < N → ∃ k, k < hs.length ∧ kd' (hs.getD k 0) = kd' x := fun x hx => Classical.byContradiction fun hno => key x hx fun k hk e => hno ⟨k, hk, e⟩
  obtain ⟨i, hi, ei⟩ := img a ha
  obtain ⟨j, hj, ej⟩ := img b hb
  have h1 := h.head i hi
  have h2 := h.head j hj
  have e1 := hf _ _ h1.1 ha ei
  have e2 := hf _ _ h2.1 hb ej
  rw [h1.2] at e1
  rw [h2.2] at e2
  have : i = j := by omega
  subst this
  exact hne (ei.symm.trans ej)

theorem BfsDfa.many (h : BfsDfa L N nx gr) {kd kd' : Nat → Nat} (ht : ToldK N nx gr kd) {n : Nat} {hs : List Nat} (hn : n ≤ N) (hs' : Sorted n (Espl nx gr kd) hs kd') (hl : 24 < hs.length) : ManyStates L := by
  have hc : ∀ k, k < hs.length → ∃ u, bytesOk u ∧ dRun nx 0 u = hs.getD k 0 := fun k hk => h.reached _ (Nat.lt_of_lt_of_le (hs'.head k hk).1 hn)
  refine ⟨fun k => if hk : k < hs.length then Classical.choose (hc k hk) else [], fun i hi => ?_, fun i j hij hj ha => ?_⟩
  · simp only [dif_pos (show i < hs.length by omega)]
    exact (Classical.choose_spec (hc i (by omega))).1
  · simp only [dif_pos (show i < hs.length by omega), dif_pos (show j < hs.length by omega)] at ha
    have si := Classical.choose_spec (hc i (by omega))
    have sj := Classical.choose_spec (hc j (by omega))
    generalize Classical.choose (hc i (by omega)) = u at ha si
    generalize Classical.choose (hc j (by omega)) = v at ha sj
    obtain ⟨w, hw, hne⟩ := ht.not h.lt (Nat.lt_of_lt_of_le (hs'.head i (by omega)).1 hn) (Nat.lt_of_lt_of_le (hs'.head j (by omega)).1 hn) (hs'.apart hij (by omega))
    apply hne
    rw [← si.2, ← sj.2, ← dRun_append, ← dRun_append, Bool.eq_iff_iff, h.says _ (bytesOk_append si.1 hw), h.says _ (bytesOk_append sj.1 hw)]
    exact ha w hw

/-- The kinds, when there are no more: the least automaton. -/
theorem BfsDfa.least (h : BfsDfa L N nx gr) {kd kd' : Nat → Nat} (ht : ToldK N nx gr kd) {E : Nat → Nat → Prop} {hs hs' : List Nat} (h0 : Sorted N E hs kd) (h1 : Sorted N (Espl nx gr kd) hs' kd') (he : hs.length = hs'.length) :
    MinDfa L hs'.length (fun k b => kd' (nx (hs'.getD k 0) b)) (fun k => gr (hs'.getD k 0)) := by
  have ht' := ht.next h.lt h1
  have hf : ∀ a b, a < N → b < N → kd' a = kd' b → kd a = kd b := fun a b ha hb e => ((h1.iff a b ha hb).1 e).1
  have hq : ∀ {a b}, a < N → b < N → kd' a = kd' b → gr a = gr b ∧ ∀ c, c < 256 → kd' (nx a c) = kd' (nx b c) := fun {a b} ha hb e => by
    obtain ⟨_, g2, g3⟩ := (h1.iff a b ha hb).1 e
    exact ⟨g2, fun c hc => h0.size_eq h1 hf he (h.lt a c ha hc) (h.lt b c hb hc) (g3 c hc)⟩
  have hk : ∀ a, a < N → hs'.getD (kd' a) 0 < N ∧ kd' (hs'.getD (kd' a) 0) = kd' a := fun a ha => h1.head _ (h1.lt a ha)
  have hr : ∀ (u : List Nat) (a : Nat), a < N → bytesOk u → dRun (fun k b => kd' (nx (hs'.getD k 0) b)) (kd' a) u = kd' (dRun nx a u) := by
    intro u
    induction u with
    | nil => intro a _ _; rfl
    | cons b u ih =>
      intro a ha hu
      have hb := bytesOk_tail hu
      show dRun _ (kd' (nx (hs'.getD (kd' a) 0) b)) u = _
      rw [(hq (hk a ha).1 ha (hk a ha).2).2 b hb.1]
      exact ih _ (h.lt a b ha hb.1) hb.2
  have hg : ∀ a, a < N → gr (hs'.getD (kd' a) 0) = gr a := fun a ha => (hq (hk a ha).1 ha (hk a ha).2).1
  obtain ⟨z1, z2, z3⟩ := h1.zero h.pos
  refine ⟨z1, fun i b hi hb => h1.lt _ (h.lt _ b (h1.head i hi).1 hb), fun u hu => ?_, fun i j hi hj hs => ?_, fun k hk0 hk1 => ?_⟩
  · have := hr u 0 h.pos hu
    rw [z2] at this
    rw [this]
    show gr _ = true ↔ _
    rw [hg _ (h.run_lt u 0 h.pos hu)]
    exact h.says u hu
  · have gi := h1.head i hi
    have gj := h1.head j hj
    refine Classical.byContradiction fun hne => ?_
    obtain ⟨u, hu, hd⟩ := ht' _ _ gi.1 gj.1 (by rw [gi.2, gj.2]; exact hne)
    have e1 := hr u _ gi.1 hu
    have e2 := hr u _ gj.1 hu
    rw [gi.2] at e1
    rw [gj.2] at e2
    have := hs u hu
    rw [e1, e2] at this
    have f1 := hg _ (h.run_lt u _ gi.1 hu)
    have f2 := hg _ (h.run_lt u _ gj.1 hu)
    exact hd (f1.symm.trans (this.trans f2))
  · have gk := h1.head k hk1
    have gz := h1.incr 0 k hk0 hk1
    obtain ⟨i, b, hi, hb, e, f1, f2⟩ := h.bfs (hs'.getD k 0) (by omega) gk.1
    have hiN : i < N := by omega
    have small : ∀ a, a < hs'.getD k 0 → kd' a < k := fun a ha => by
      have l := h1.lt a (by omega)
      have := h1.le a (by omega)
      refine Nat.lt_of_not_le fun hle => ?_
      rcases Nat.lt_or_eq_of_le hle with q | q
      · have := h1.incr k _ q l; omega
      · rw [← q] at this; omega
    have hle := h1.le i hiN
    refine ⟨kd' i, b, small i hi, hb, ?_, fun i' b' hb' hi' => ?_, fun b' hb' => ?_⟩
    · show kd' (nx (hs'.getD (kd' i) 0) b) = k
      rw [(hq (hk i hiN).1 hiN (hk i hiN).2).2 b hb, e]; exact gk.2
    · have l := h1.lt i hiN
      have := h1.incr i' (kd' i) hi' l
      exact small _ (f1 _ b' hb' (by omega))
    · show kd' (nx (hs'.getD (kd' i) 0) b') < k
      rcases Nat.lt_or_eq_of_le hle with q | q
      · exact small _ (f1 _ b' (by omega) q)
      · rw [q]; exact small _ (f2 b' hb')
end fold

end Go.Proofs.Ytohefinejdfhaab
