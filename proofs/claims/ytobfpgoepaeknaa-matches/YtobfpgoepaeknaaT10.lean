/-
  Plain mathematics: the least automaton of a set of strings, its states numbered as they are met; the classes of bytes; that there is but one table.
  Plain mathematics: things that are sorted by likeness, each kind numbered by its first; that splitting the kinds until there are no more ends at the least automaton.
-/
namespace Go.Proofs.Ytobfpgoepaeknaa

/-- Where a string leads. -/
def dRun (nx : Nat → Nat → Nat) : Nat → List Nat → Nat
  | i, [] => i
  | i, b :: u => dRun nx (nx i b) u
theorem dRun_append (nx : Nat → Nat → Nat) : ∀ (u v : List Nat) (i : Nat), dRun nx i (u ++ v) = dRun nx (dRun nx i u) v
  | [], _, _ => rfl
  | b :: u, v, i => dRun_append nx u v (nx i b)
def bytesOk (u : List Nat) : Prop := ∀ b ∈ u, b < 256
theorem bytesOk_nil : bytesOk [] := fun _ h => by cases h
theorem bytesOk_cons {b : Nat} {u : List Nat} (hb : b < 256) (hu : bytesOk u) : bytesOk (b :: u) := fun x h => by
  rcases List.mem_cons.1 h with rfl | h
  · exact hb
  · exact hu x h
theorem bytesOk_append {u v : List Nat} (hu : bytesOk u) (hv : bytesOk v) : bytesOk (u ++ v) := fun x h => by
  rcases List.mem_append.1 h with h | h
  · exact hu x h
  · exact hv x h
theorem bytesOk_snoc {u : List Nat} {b : Nat} (hu : bytesOk u) (hb : b < 256) : bytesOk (u ++ [b]) := bytesOk_append hu (bytesOk_cons hb bytesOk_nil)
theorem bytesOk_tail {b : Nat} {u : List Nat} (h : bytesOk (b :: u)) : b < 256 ∧ bytesOk u := ⟨h b (by simp), fun x hx => h x (by simp [hx])⟩

/-- A least automaton for a set of strings: its states are met in the order of their numbers. -/
structure MinDfa (L : List Nat → Prop) (S : Nat) (nx : Nat → Nat → Nat) (gr : Nat → Bool) : Prop where
  pos : 0 < S
  lt : ∀ i b, i < S → b < 256 → nx i b < S
  says : ∀ u, bytesOk u → (gr (dRun nx 0 u) = true ↔ L u)
  sep : ∀ i j, i < S → j < S → (∀ u, bytesOk u → gr (dRun nx i u) = gr (dRun nx j u)) → i = j
  bfs : ∀ k, 0 < k → k < S → ∃ i b, i < k ∧ b < 256 ∧ nx i b = k ∧ (∀ i' b', b' < 256 → i' < i → nx i' b' < k) ∧ (∀ b', b' < b → nx i b' < k)
theorem MinDfa.run_lt {L : List Nat → Prop} {S : Nat} {nx : Nat → Nat → Nat} {gr : Nat → Bool} (h : MinDfa L S nx gr) : ∀ (u : List Nat) (i : Nat), i < S → bytesOk u → dRun nx i u < S
  | [], _, hi, _ => hi
  | b :: u, i, hi, hu => h.run_lt u _ (h.lt i b hi (bytesOk_tail hu).1) (bytesOk_tail hu).2
theorem MinDfa.reached {L : List Nat → Prop} {S : Nat} {nx : Nat → Nat → Nat} {gr : Nat → Bool} (h : MinDfa L S nx gr) (k : Nat) : k < S → ∃ u, bytesOk u ∧ dRun nx 0 u = k := by
  induction k using Nat.strongRecOn with
  | ind k ih =>
    intro hk
    by_cases h0 : k = 0
    · exact ⟨[], bytesOk_nil, h0.symm⟩
    · obtain ⟨i, b, hi, hb, e, _⟩ := h.bfs k (by omega) hk
      obtain ⟨u, hu, eu⟩ := ih i hi (by omega)
      exact ⟨u ++ [b], bytesOk_snoc hu hb, by rw [dRun_append, eu]; exact e⟩

section unique
variable {L : List Nat → Prop} {S S' : Nat} {nx nx' : Nat → Nat → Nat} {gr gr' : Nat → Bool}
theorem MinDfa.same (h : MinDfa L S nx gr) (h' : MinDfa L S' nx' gr') (k : Nat) : k < S → k < S' → ∀ u, bytesOk u → gr (dRun nx k u) = gr' (dRun nx' k u) := by
  induction k using Nat.strongRecOn with
  | ind k ih =>
    intro hk hk'
    by_cases h0 : k = 0
    · subst h0
      intro u hu
      have e1 := h.says u hu
      have e2 := h'.says u hu
      rw [Bool.eq_iff_iff, e1, e2]
    · obtain ⟨i, b, hi, hb, e, f1, f2⟩ := h.bfs k (by omega) hk
      obtain ⟨i', b', hi', hb', e', f1', f2'⟩ := h'.bfs k (by omega) hk'
      have step : ∀ i b, i < k → b < 256 → ∀ u, bytesOk u → gr (dRun nx (nx i b) u) = gr' (dRun nx' (nx' i b) u) := fun i b hi hb u hu => ih i hi (by omega) (by omega) (b :: u) (bytesOk_cons hb hu)
      have a1 : ¬ nx' i b < k := fun hl => by
        have : nx' i b = k := by
          have := h.sep k (nx' i b) hk (by omega) fun u hu => by
            rw [← e, step i b hi hb u hu]
            exact (ih _ hl (by omega) (by omega) u hu).symm
          omega
        omega
      have a2 : ¬ nx i' b' < k := fun hl => by
        have : nx i' b' = k := by
          have := h'.sep k (nx i' b') hk' (by omega) fun u hu => by
            rw [← e', ← step i' b' hi' hb' u hu]
            exact ih _ hl (by omega) (by omega) u hu
          omega
        omega
      have hii : i = i' := by
        rcases Nat.lt_trichotomy i i' with h1 | h1 | h1
        · exact absurd (f1' i b hb h1) a1
        · exact h1
        · exact absurd (f1 i' b' hb' h1) a2
      subst hii
      have hbb : b = b' := by
        rcases Nat.lt_trichotomy b b' with h1 | h1 | h1
        · exact absurd (f2' b h1) a1
        · exact h1
        · exact absurd (f2 b' h1) a2
      subst hbb
      intro u hu
      have := step i b hi hb u hu
      rwa [e, e'] at this
theorem MinDfa.size_le (h : MinDfa L S nx gr) (h' : MinDfa L S' nx' gr') : S' ≤ S := by
  refine Nat.le_of_not_lt fun hlt => ?_
  obtain ⟨i, b, hi, hb, e, _⟩ := h'.bfs S h.pos hlt
  have hn := h.lt i b hi hb
  have := h'.sep S (nx i b) hlt (by omega) fun u hu => by
    have := h.same h' i hi (by omega) (b :: u) (bytesOk_cons hb hu)
    simp only [dRun, e] at this
    rw [← this]
    exact h.same h' _ hn (by omega) u hu
  omega
theorem MinDfa.size_eq (h : MinDfa L S nx gr) (h' : MinDfa L S' nx' gr') : S = S' := Nat.le_antisymm (h'.size_le h) (h.size_le h')
theorem MinDfa.nx_eq (h : MinDfa L S nx gr) (h' : MinDfa L S' nx' gr') {i b : Nat} (hi : i < S) (hb : b < 256) : nx i b = nx' i b := by
  have hS := h.size_eq h'
  have hn := h.lt i b hi hb
  refine h'.sep _ _ (by omega) (h'.lt i b (by omega) hb) fun u hu => ?_
  rw [← h.same h' _ hn (by omega) u hu]
  exact h.same h' i hi (by omega) (b :: u) (bytesOk_cons hb hu)
theorem MinDfa.gr_eq (h : MinDfa L S nx gr) (h' : MinDfa L S' nx' gr') {i : Nat} (hi : i < S) : gr i = gr' i :=
  h.same h' i hi (by rw [← h.size_eq h']; exact hi) [] bytesOk_nil
end unique

/-- The classes of bytes, numbered by the least byte of each. -/
structure Cols (S : Nat) (nx : Nat → Nat → Nat) (C : Nat) (cl : Nat → Nat) : Prop where
  lt : ∀ b, b < 256 → cl b < C
  eq : ∀ b b', b < 256 → b' < 256 → (cl b = cl b' ↔ ∀ i, i < S → nx i b = nx i b')
  grow : ∀ b, b < 256 → ∀ c, c < cl b → ∃ b', b' < b ∧ cl b' = c
  all : ∀ c, c < C → ∃ b, b < 256 ∧ cl b = c
theorem Cols.cl_eq {S : Nat} {nx nx' : Nat → Nat → Nat} {C C' : Nat} {cl cl' : Nat → Nat} (h : Cols S nx C cl) (h' : Cols S nx' C' cl') (hn : ∀ i b, i < S → b < 256 → nx i b = nx' i b) (b : Nat) : b < 256 → cl b = cl' b := by
  have hq : ∀ b b', b < 256 → b' < 256 → (cl b = cl b' ↔ cl' b = cl' b') := fun b b' hb hb' => by
    rw [h.eq b b' hb hb', h'.eq b b' hb hb']
    constructor
    · intro g i hi; rw [← hn i b hi hb, ← hn i b' hi hb']; exact g i hi
    · intro g i hi; rw [hn i b hi hb, hn i b' hi hb']; exact g i hi
  induction b using Nat.strongRecOn with
  | ind b ih =>
    intro hb
    rcases Nat.lt_trichotomy (cl b) (cl' b) with g | g | g
    · obtain ⟨b', hb', e⟩ := h'.grow b hb _ g
      have := ih b' hb' (by omega)
      have := (hq b' b (by omega) hb).1 (by omega)
      omega
    · exact g
    · obtain ⟨b', hb', e⟩ := h.grow b hb _ g
      have := ih b' hb' (by omega)
      have := (hq b' b (by omega) hb).2 (by omega)
      omega
theorem Cols.size_eq {S : Nat} {nx nx' : Nat → Nat → Nat} {C C' : Nat} {cl cl' : Nat → Nat} (h : Cols S nx C cl) (h' : Cols S nx' C' cl') (hn : ∀ i b, i < S → b < 256 → nx i b = nx' i b) : C = C' := by
  have key := h.cl_eq h' hn
  rcases Nat.lt_trichotomy C C' with g | g | g
  · obtain ⟨b, hb, e⟩ := h'.all C g
    have := h.lt b hb; have := key b hb; omega
  · exact g
  · obtain ⟨b, hb, e⟩ := h.all C' g
    have := h'.lt b hb; have := key b hb; omega

/-- The bytes of a table. -/
def layTab (S C : Nat) (cl : Nat → Nat) (gr : Nat → Bool) (nc : Nat → Nat → Nat) : List Nat :=
  [S, C] ++ (List.range 256).map cl ++ (List.range S).map (fun i => if gr i then 1 else 0) ++ (List.range S).flatMap (fun i => (List.range C).map (nc i))
structure TabOf (L : List Nat → Prop) (S C : Nat) (nx : Nat → Nat → Nat) (gr : Nat → Bool) (cl : Nat → Nat) (nc : Nat → Nat → Nat) : Prop where
  dfa : MinDfa L S nx gr
  cols : Cols S nx C cl
  sle : S ≤ 24
  cle : C ≤ 24
  nc : ∀ i b, i < S → b < 256 → nc i (cl b) = nx i b
def IsTab (L : List Nat → Prop) (x : List Nat) : Prop := ∃ S C nx gr cl nc, TabOf L S C nx gr cl nc ∧ x = layTab S C cl gr nc
theorem flatMap_congr' {α β : Type} {f g : α → List β} : ∀ {l : List α}, (∀ a ∈ l, f a = g a) → l.flatMap f = l.flatMap g
  | [], _ => rfl
  | a :: l, h => by rw [List.flatMap_cons, List.flatMap_cons, h a (by simp), flatMap_congr' fun x hx => h x (by simp [hx])]
theorem IsTab.unique {L : List Nat → Prop} {x y : List Nat} (h : IsTab L x) (h' : IsTab L y) : x = y := by
  obtain ⟨S, C, nx, gr, cl, nc, t, rfl⟩ := h
  obtain ⟨S', C', nx', gr', cl', nc', t', rfl⟩ := h'
  obtain rfl := t.dfa.size_eq t'.dfa
  have hn : ∀ i b, i < S → b < 256 → nx i b = nx' i b := fun i b hi hb => t.dfa.nx_eq t'.dfa hi hb
  obtain rfl := t.cols.size_eq t'.cols hn
  have hc := t.cols.cl_eq t'.cols hn
  unfold layTab
  have e1 : (List.range 256).map cl = (List.range 256).map cl' := List.map_congr_left fun b hb => hc b (List.mem_range.1 hb)
  have e2 : (List.range S).map (fun i => if gr i then 1 else 0) = (List.range S).map (fun i => if gr' i then 1 else 0) := List.map_congr_left fun i hi => by rw [t.dfa.gr_eq t'.dfa (List.mem_range.1 hi)]
  have e3 : (List.range S).flatMap (fun i => (List.range C).map (nc i)) = (List.range S).flatMap (fun i => (List.range C).map (nc' i)) :=
    flatMap_congr' fun i hi => List.map_congr_left fun c hcc => by
      obtain ⟨b, hb, rfl⟩ := t.cols.all c (List.mem_range.1 hcc)
      rw [t.nc i b (List.mem_range.1 hi) hb, hc b hb, t'.nc i b (List.mem_range.1 hi) hb, hn i b (List.mem_range.1 hi) hb]
  rw [e1, e2, e3]

/-- Two strings are alike. -/
def alikeL (L : List Nat → Prop) (u v : List Nat) : Prop := ∀ w, bytesOk w → (L (u ++ w) ↔ L (v ++ w))
def ManyStates (L : List Nat → Prop) : Prop := ∃ f : Nat → List Nat, (∀ i, i ≤ 24 → bytesOk (f i)) ∧ ∀ i j, i < j → j ≤ 24 → ¬ alikeL L (f i) (f j)
def ManyClasses (L : List Nat → Prop) : Prop := ∃ f : Nat → Nat, (∀ i, i ≤ 24 → f i < 256) ∧ ∀ i j, i < j → j ≤ 24 → ∃ u, bytesOk u ∧ ¬ alikeL L (u ++ [f i]) (u ++ [f j])
theorem pigeon (n : Nat) : ∀ (f : Nat → Nat), (∀ i, i ≤ n → f i < n) → ∃ i j, i < j ∧ j ≤ n ∧ f i = f j := by
  induction n with
  | zero => intro f h; have := h 0 (Nat.le_refl _); omega
  | succ n ih =>
    intro f h
    by_cases hx : ∃ i, i ≤ n ∧ f i = f (n + 1)
    · obtain ⟨i, hi, e⟩ := hx
      exact ⟨i, n + 1, by omega, Nat.le_refl _, e⟩
    · have hn : ∀ i, i ≤ n → f i ≠ f (n + 1) := fun i hi e => hx ⟨i, hi, e⟩
      have hl := h (n + 1) (Nat.le_refl _)
      obtain ⟨i, j, hij, hj, e⟩ := ih (fun i => if f i < f (n + 1) then f i else f i - 1) fun i hi => by
        have := hn i hi; have := h i (by omega)
        split <;> omega
      refine ⟨i, j, hij, by omega, ?_⟩
      have := hn i (by omega); have := hn j hj
      split at e <;> split at e <;> omega
theorem MinDfa.alike_iff {L : List Nat → Prop} {S : Nat} {nx : Nat → Nat → Nat} {gr : Nat → Bool} (h : MinDfa L S nx gr) {u v : List Nat} (hu : bytesOk u) (hv : bytesOk v) : alikeL L u v ↔ dRun nx 0 u = dRun nx 0 v := by
  constructor
  · intro ha
    refine h.sep _ _ (h.run_lt u 0 h.pos hu) (h.run_lt v 0 h.pos hv) fun w hw => ?_
    rw [← dRun_append, ← dRun_append, Bool.eq_iff_iff, h.says _ (bytesOk_append hu hw), h.says _ (bytesOk_append hv hw)]
    exact ha w hw
  · intro e w hw
    rw [← h.says _ (bytesOk_append hu hw), ← h.says _ (bytesOk_append hv hw), dRun_append, dRun_append, e]
theorem MinDfa.notMany {L : List Nat → Prop} {S : Nat} {nx : Nat → Nat → Nat} {gr : Nat → Bool} (h : MinDfa L S nx gr) (hs : S ≤ 24) : ¬ ManyStates L := by
  rintro ⟨f, f1, f2⟩
  obtain ⟨i, j, hij, hj, e⟩ := pigeon 24 (fun i => dRun nx 0 (f i)) fun i hi => Nat.lt_of_lt_of_le (h.run_lt _ 0 h.pos (f1 i hi)) hs
  exact f2 i j hij hj ((h.alike_iff (f1 i (by omega)) (f1 j hj)).2 e)
theorem Cols.notMany {L : List Nat → Prop} {S C : Nat} {nx : Nat → Nat → Nat} {gr : Nat → Bool} {cl : Nat → Nat} (h : MinDfa L S nx gr) (hc : Cols S nx C cl) (hs : C ≤ 24) : ¬ ManyClasses L := by
  rintro ⟨f, f1, f2⟩
  obtain ⟨i, j, hij, hj, e⟩ := pigeon 24 (fun i => cl (f i)) fun i hi => Nat.lt_of_lt_of_le (hc.lt _ (f1 i hi)) hs
  obtain ⟨u, hu, hn⟩ := f2 i j hij hj
  refine hn ((h.alike_iff (bytesOk_snoc hu (f1 i (by omega))) (bytesOk_snoc hu (f1 j hj))).2 ?_)
  rw [dRun_append, dRun_append]
  exact (hc.eq _ _ (f1 i (by omega)) (f1 j hj)).1 e _ (h.run_lt u 0 h.pos hu)
/-- Bytes whose columns differ are of more classes than may be. -/
theorem MinDfa.many {L : List Nat → Prop} {S : Nat} {nx : Nat → Nat → Nat} {gr : Nat → Bool} (h : MinDfa L S nx gr) (f : Nat → Nat) (hf : ∀ i, i ≤ 24 → f i < 256) (hd : ∀ i j, i < j → j ≤ 24 → ∃ k, k < S ∧ nx k (f i) ≠ nx k (f j)) : ManyClasses L := by
  refine ⟨f, hf, fun i j hij hj => ?_⟩
  obtain ⟨k, hk, hne⟩ := hd i j hij hj
  obtain ⟨u, hu, e⟩ := h.reached k hk
  refine ⟨u, hu, fun ha => hne ?_⟩
  have := (h.alike_iff (bytesOk_snoc hu (hf i (by omega))) (bytesOk_snoc hu (hf j hj))).1 ha
  rw [dRun_append, dRun_append, e] at this
  exact this

/-- What Table is to answer for a set of strings. -/
def TabAns (L : List Nat → Prop) (x : List Nat) (e : Int) : Prop := (e = 0 ∧ IsTab L x) ∨ (e = 3 ∧ x = [] ∧ (ManyStates L ∨ ManyClasses L))
theorem TabAns.unique {L : List Nat → Prop} {x x' : List Nat} {e e' : Int} (h : TabAns L x e) (h' : TabAns L x' e') : x = x' ∧ e = e' := by
  have no : ∀ {x}, IsTab L x → ¬ (ManyStates L ∨ ManyClasses L) := by
    rintro x ⟨S, C, nx, gr, cl, nc, t, -⟩ (m | m)
    · exact t.dfa.notMany t.sle m
    · exact Cols.notMany t.dfa t.cols t.cle m
  rcases h with ⟨rfl, h⟩ | ⟨rfl, rfl, h⟩ <;> rcases h' with ⟨rfl, h'⟩ | ⟨rfl, rfl, h'⟩
  · exact ⟨h.unique h', rfl⟩
  · exact absurd h' (no h)
  · exact absurd h (no h')
  · exact ⟨rfl, rfl⟩

end Go.Proofs.Ytobfpgoepaeknaa
namespace Go.Proofs.Ytobfpgoepaeknaa

structure Sorted (N : Nat) (E : Nat → Nat → Prop) (hs : List Nat) (kd : Nat → Nat) : Prop where
  head : ∀ k, k < hs.length → hs.getD k 0 < N ∧ kd (hs.getD k 0) = k
  lt : ∀ a, a < N → kd a < hs.length
  le : ∀ a, a < N → hs.getD (kd a) 0 ≤ a
  incr : ∀ j k, j < k → k < hs.length → hs.getD j 0 < hs.getD k 0
  iff : ∀ a b, a < N → b < N → (kd a = kd b ↔ E a b)
theorem Sorted.nil (E : Nat → Nat → Prop) (kd : Nat → Nat) : Sorted 0 E [] kd :=
  ⟨fun _ h => absurd h (Nat.not_lt_zero _), fun _ h => absurd h (Nat.not_lt_zero _), fun _ h => absurd h (Nat.not_lt_zero _), fun _ _ _ h => absurd h (Nat.not_lt_zero _), fun _ _ h => absurd h (Nat.not_lt_zero _)⟩
theorem getD_snoc_old {l : List Nat} {x k : Nat} (h : k < l.length) : (l ++ [x]).getD k 0 = l.getD k 0 := by
  rw [List.getD_eq_getElem?_getD, List.getD_eq_getElem?_getD, List.getElem?_append_left h]
theorem getD_snoc_new (l : List Nat) (x : Nat) : (l ++ [x]).getD l.length 0 = x := by
  rw [List.getD_eq_getElem?_getD, List.getElem?_append_right (Nat.le_refl _), Nat.sub_self]; rfl
theorem Sorted.old {n : Nat} {E : Nat → Nat → Prop} {hs : List Nat} {kd kd' : Nat → Nat} {k : Nat} (h : Sorted n E hs kd) (hE : Equivalence E) (hk : k < hs.length) (he : E n (hs.getD k 0)) (h1 : ∀ a, a < n → kd' a = kd a) (h2 : kd' n = k) : Sorted (n + 1) E hs kd' := by
  refine ⟨fun j hj => ?_, fun a ha => ?_, fun a ha => ?_, h.incr, ?_⟩
  · have := h.head j hj
    exact ⟨by omega, by rw [h1 _ this.1]; exact this.2⟩
  · by_cases e : a = n
    · rw [e, h2]; exact hk
    · rw [h1 a (by omega)]; exact h.lt a (by omega)
  · by_cases e : a = n
    · rw [e, h2]; have := (h.head k hk).1; omega
    · rw [h1 a (by omega)]; exact h.le a (by omega)
  · have key : ∀ b, b < n → (k = kd b ↔ E n b) := fun b hb => by
      have g := h.head k hk
      have := h.iff _ b g.1 hb
      rw [g.2] at this
      rw [this]
      exact ⟨fun q => hE.trans he q, fun q => hE.trans (hE.symm he) q⟩
    intro a b ha hb
    by_cases ea : a = n <;> by_cases eb : b = n
    · subst ea; subst eb; exact ⟨fun _ => hE.refl _, fun _ => rfl⟩
    · subst ea; rw [h2, h1 b (by omega)]; exact key b (by omega)
    · subst eb; rw [h2, h1 a (by omega)]
      exact ⟨fun q => hE.symm ((key a (by omega)).1 q.symm), fun q => ((key a (by omega)).2 (hE.symm q)).symm⟩
    · rw [h1 a (by omega), h1 b (by omega)]; exact h.iff a b (by omega) (by omega)
theorem Sorted.new {n : Nat} {E : Nat → Nat → Prop} {hs : List Nat} {kd kd' : Nat → Nat} (h : Sorted n E hs kd) (hE : Equivalence E) (hno : ∀ j, j < hs.length → ¬ E n (hs.getD j 0)) (h1 : ∀ a, a < n → kd' a = kd a) (h2 : kd' n = hs.length) : Sorted (n + 1) E (hs ++ [n]) kd' := by
  have hl : (hs ++ [n]).length = hs.length + 1 := by simp
  refine ⟨fun j hj => ?_, fun a ha => ?_, fun a ha => ?_, fun i j hij hj => ?_, ?_⟩
  · by_cases e : j = hs.length
    · rw [e, getD_snoc_new]; exact ⟨by omega, h2⟩
    · have hj' : j < hs.length := by omega
      have := h.head j hj'
      rw [getD_snoc_old hj']
      exact ⟨by omega, by rw [h1 _ this.1]; exact this.2⟩
  · by_cases e : a = n
    · rw [e, h2]; omega
    · rw [h1 a (by omega)]; have := h.lt a (by omega); omega
  · by_cases e : a = n
    · rw [e, h2, getD_snoc_new]; exact Nat.le_refl _
    · have := h.lt a (by omega)
      rw [h1 a (by omega), getD_snoc_old this]; exact h.le a (by omega)
  · rw [getD_snoc_old (show i < hs.length by omega)]
    by_cases e : j = hs.length
    · rw [e, getD_snoc_new]; exact (h.head i (by omega)).1
    · rw [getD_snoc_old (show j < hs.length by omega)]; exact h.incr i j hij (by omega)
  · have key : ∀ b, b < n → ¬ E n b := fun b hb q => by
      have l := h.lt b hb
      have g := h.head _ l
      exact hno _ l (hE.trans q (hE.symm ((h.iff _ b g.1 hb).1 g.2)))
    intro a b ha hb
    by_cases ea : a = n <;> by_cases eb : b = n
    · subst ea; subst eb; exact ⟨fun _ => hE.refl _, fun _ => rfl⟩
    · subst ea; rw [h2, h1 b (by omega)]
      have := h.lt b (by omega)
      exact ⟨fun q => by omega, fun q => absurd q (key b (by omega))⟩
    · subst eb; rw [h2, h1 a (by omega)]
      have := h.lt a (by omega)
      exact ⟨fun q => by omega, fun q => absurd (hE.symm q) (key a (by omega))⟩
    · rw [h1 a (by omega), h1 b (by omega)]; exact h.iff a b (by omega) (by omega)
theorem Sorted.apart {N : Nat} {E : Nat → Nat → Prop} {hs : List Nat} {kd : Nat → Nat} (h : Sorted N E hs kd) {i j : Nat} (hij : i < j) (hj : j < hs.length) : ¬ E (hs.getD i 0) (hs.getD j 0) := fun e => by
  have h1 := h.head i (by omega)
  have h2 := h.head j hj
  have := (h.iff _ _ h1.1 h2.1).2 e
  rw [h1.2, h2.2] at this; omega
theorem Sorted.grow {N : Nat} {E : Nat → Nat → Prop} {hs : List Nat} {kd : Nat → Nat} (h : Sorted N E hs kd) {a : Nat} (ha : a < N) {c : Nat} (hc : c < kd a) : ∃ a', a' < a ∧ kd a' = c := by
  have l := h.lt a ha
  have g := h.head c (by omega)
  exact ⟨_, Nat.lt_of_lt_of_le (h.incr c _ hc l) (h.le a ha), g.2⟩
theorem Sorted.zero {N : Nat} {E : Nat → Nat → Prop} {hs : List Nat} {kd : Nat → Nat} (h : Sorted N E hs kd) (hN : 0 < N) : 0 < hs.length ∧ kd 0 = 0 ∧ hs.getD 0 0 = 0 := by
  have l := h.lt 0 hN
  have e : kd 0 = 0 := by
    by_cases e : kd 0 = 0
    · exact e
    · obtain ⟨a', h1, _⟩ := h.grow hN (show 0 < kd 0 by omega); omega
  have := h.le 0 hN
  rw [e] at this
  exact ⟨by omega, e, by omega⟩

/-- An automaton whose states are met in the order of their numbers; several may be alike. -/
structure BfsDfa (L : List Nat → Prop) (N : Nat) (nx : Nat → Nat → Nat) (gr : Nat → Bool) : Prop where
  pos : 0 < N
  lt : ∀ i b, i < N → b < 256 → nx i b < N
  says : ∀ u, bytesOk u → (gr (dRun nx 0 u) = true ↔ L u)
  bfs : ∀ k, 0 < k → k < N → ∃ i b, i < k ∧ b < 256 ∧ nx i b = k ∧ (∀ i' b', b' < 256 → i' < i → nx i' b' < k) ∧ (∀ b', b' < b → nx i b' < k)
section fold
variable {L : List Nat → Prop} {N : Nat} {nx : Nat → Nat → Nat} {gr : Nat → Bool}
theorem BfsDfa.run_lt (h : BfsDfa L N nx gr) : ∀ (u : List Nat) (i : Nat), i < N → bytesOk u → dRun nx i u < N
  | [], _, hi, _ => hi
  | b :: u, i, hi, hu => h.run_lt u _ (h.lt i b hi (bytesOk_tail hu).1) (bytesOk_tail hu).2
theorem BfsDfa.reached (h : BfsDfa L N nx gr) (k : Nat) : k < N → ∃ u, bytesOk u ∧ dRun nx 0 u = k := by
  induction k using Nat.strongRecOn with
  | ind k ih =>
    intro hk
    by_cases h0 : k = 0
    · exact ⟨[], bytesOk_nil, h0.symm⟩
    · obtain ⟨i, b, hi, hb, e, _⟩ := h.bfs k (by omega) hk
      obtain ⟨u, hu, eu⟩ := ih i hi (by omega)
      exact ⟨u ++ [b], bytesOk_snoc hu hb, by rw [dRun_append, eu]; exact e⟩
def Espl (nx : Nat → Nat → Nat) (gr : Nat → Bool) (kd : Nat → Nat) (a b : Nat) : Prop := kd a = kd b ∧ gr a = gr b ∧ ∀ c, c < 256 → kd (nx a c) = kd (nx b c)
theorem Espl_eqv (nx : Nat → Nat → Nat) (gr : Nat → Bool) (kd : Nat → Nat) : Equivalence (Espl nx gr kd) :=
  ⟨fun _ => ⟨rfl, rfl, fun _ _ => rfl⟩, fun h => ⟨h.1.symm, h.2.1.symm, fun c hc => (h.2.2 c hc).symm⟩, fun h g => ⟨h.1.trans g.1, h.2.1.trans g.2.1, fun c hc => (h.2.2 c hc).trans (g.2.2 c hc)⟩⟩
/-- States of two kinds are told apart by a string. -/
def ToldK (N : Nat) (nx : Nat → Nat → Nat) (gr : Nat → Bool) (kd : Nat → Nat) : Prop := ∀ a b, a < N → b < N → kd a ≠ kd b → ∃ u, bytesOk u ∧ gr (dRun nx a u) ≠ gr (dRun nx b u)
theorem ToldK.zero {kd : Nat → Nat} (h : ∀ a, a < N → kd a = 0) : ToldK N nx gr kd := fun a b ha hb hne => absurd (by rw [h a ha, h b hb]) hne
theorem ToldK.not (hl : ∀ i b, i < N → b < 256 → nx i b < N) {kd : Nat → Nat} (h : ToldK N nx gr kd) {a b : Nat} (ha : a < N) (hb : b < N) (hne : ¬ Espl nx gr kd a b) : ∃ u, bytesOk u ∧ gr (dRun nx a u) ≠ gr (dRun nx b u) := by
  by_cases h1 : kd a = kd b
  · by_cases h2 : gr a = gr b
    · obtain ⟨c, hc⟩ := Classical.not_forall.1 fun h3 => hne ⟨h1, h2, h3⟩
      obtain ⟨hc, hd⟩ := Classical.not_imp.1 hc
      obtain ⟨u, hu, e⟩ := h _ _ (hl a c ha hc) (hl b c hb hc) hd
      exact ⟨c :: u, bytesOk_cons hc hu, e⟩
    · exact ⟨[], bytesOk_nil, h2⟩
  · exact h a b ha hb h1
theorem ToldK.next (hl : ∀ i b, i < N → b < 256 → nx i b < N) {kd kd' : Nat → Nat} {hs : List Nat} (h : ToldK N nx gr kd) (hs' : Sorted N (Espl nx gr kd) hs kd') : ToldK N nx gr kd' :=
  fun a b ha hb hne => h.not hl ha hb fun e => hne ((hs'.iff a b ha hb).2 e)
theorem Sorted.size_le {E E' : Nat → Nat → Prop} {hs hs' : List Nat} {kd kd' : Nat → Nat} (h : Sorted N E hs kd) (h' : Sorted N E' hs' kd') (hf : ∀ a b, a < N → b < N → kd' a = kd' b → kd a = kd b) : hs.length ≤ hs'.length := by
  refine Nat.le_of_not_lt fun hlt => ?_
  obtain ⟨i, j, hij, hj, e⟩ := pigeon hs'.length (fun k => kd' (hs.getD k 0)) fun k hk => h'.lt _ (h.head k (by omega)).1
  have h1 := h.head i (by omega)
  have h2 := h.head j (by omega)
  have := hf _ _ h1.1 h2.1 e
  rw [h1.2, h2.2] at this; omega
theorem Sorted.size_eq {E E' : Nat → Nat → Prop} {hs hs' : List Nat} {kd kd' : Nat → Nat} (h : Sorted N E hs kd) (h' : Sorted N E' hs' kd') (hf : ∀ a b, a < N → b < N → kd' a = kd' b → kd a = kd b) (he : hs.length = hs'.length) {a b : Nat} (ha : a < N) (hb : b < N) (hk : kd a = kd b) : kd' a = kd' b := by
  refine Classical.byContradiction fun hne => ?_
  have key : ∀ x, x < N → (∀ k, k < hs.length → kd' (hs.getD k 0) ≠ kd' x) → False := fun x hx hno => by
    obtain ⟨i, j, hij, hj, e⟩ := pigeon hs.length (fun k => if k < hs.length then kd' (hs.getD k 0) else kd' x) fun k hk => by
      show (if _ then _ else _) < _
      split
      · rw [he]; exact h'.lt _ (h.head k (by assumption)).1
      · rw [he]; exact h'.lt _ hx
    have hi : i < hs.length := by omega
    simp only [if_pos hi] at e
    by_cases hj2 : j < hs.length
    · rw [if_pos hj2] at e
      have h1 := h.head i hi
      have h2 := h.head j hj2
      have := hf _ _ h1.1 h2.1 e
      rw [h1.2, h2.2] at this; omega
    · rw [if_neg hj2] at e
      exact hno i hi e
  have img : ∀ x, x < N → ∃ k, k < hs.length ∧ kd' (hs.getD k 0) = kd' x := fun x hx => Classical.byContradiction fun hno => key x hx fun k hk e => hno ⟨k, hk, e⟩
  obtain ⟨i, hi, ei⟩ := img a ha
  obtain ⟨j, hj, ej⟩ := img b hb
  have h1 := h.head i hi
  have h2 := h.head j hj
  have e1 := hf _ _ h1.1 ha ei
  have e2 := hf _ _ h2.1 hb ej
  rw [h1.2] at e1
  rw [h2.2] at e2
  have : i = j := by omega
  subst this
  exact hne (ei.symm.trans ej)

theorem BfsDfa.many (h : BfsDfa L N nx gr) {kd kd' : Nat → Nat} (ht : ToldK N nx gr kd) {n : Nat} {hs : List Nat} (hn : n ≤ N) (hs' : Sorted n (Espl nx gr kd) hs kd') (hl : 24 < hs.length) : ManyStates L := by
  have hc : ∀ k, k < hs.length → ∃ u, bytesOk u ∧ dRun nx 0 u = hs.getD k 0 := fun k hk => h.reached _ (Nat.lt_of_lt_of_le (hs'.head k hk).1 hn)
  refine ⟨fun k => if hk : k < hs.length then Classical.choose (hc k hk) else [], fun i hi => ?_, fun i j hij hj ha => ?_⟩
  · simp only [dif_pos (show i < hs.length by omega)]
    exact (Classical.choose_spec (hc i (by omega))).1
  · simp only [dif_pos (show i < hs.length by omega), dif_pos (show j < hs.length by omega)] at ha
    have si := Classical.choose_spec (hc i (by omega))
    have sj := Classical.choose_spec (hc j (by omega))
    generalize Classical.choose (hc i (by omega)) = u at ha si
    generalize Classical.choose (hc j (by omega)) = v at ha sj
    obtain ⟨w, hw, hne⟩ := ht.not h.lt (Nat.lt_of_lt_of_le (hs'.head i (by omega)).1 hn) (Nat.lt_of_lt_of_le (hs'.head j (by omega)).1 hn) (hs'.apart hij (by omega))
    apply hne
    rw [← si.2, ← sj.2, ← dRun_append, ← dRun_append, Bool.eq_iff_iff, h.says _ (bytesOk_append si.1 hw), h.says _ (bytesOk_append sj.1 hw)]
    exact ha w hw

/-- The kinds, when there are no more: the least automaton. -/
theorem BfsDfa.least (h : BfsDfa L N nx gr) {kd kd' : Nat → Nat} (ht : ToldK N nx gr kd) {E : Nat → Nat → Prop} {hs hs' : List Nat} (h0 : Sorted N E hs kd) (h1 : Sorted N (Espl nx gr kd) hs' kd') (he : hs.length = hs'.length) :
    MinDfa L hs'.length (fun k b => kd' (nx (hs'.getD k 0) b)) (fun k => gr (hs'.getD k 0)) := by
  have ht' := ht.next h.lt h1
  have hf : ∀ a b, a < N → b < N → kd' a = kd' b → kd a = kd b := fun a b ha hb e => ((h1.iff a b ha hb).1 e).1
  have hq : ∀ {a b}, a < N → b < N → kd' a = kd' b → gr a = gr b ∧ ∀ c, c < 256 → kd' (nx a c) = kd' (nx b c) := fun {a b} ha hb e => by
    obtain ⟨_, g2, g3⟩ := (h1.iff a b ha hb).1 e
    exact ⟨g2, fun c hc => h0.size_eq h1 hf he (h.lt a c ha hc) (h.lt b c hb hc) (g3 c hc)⟩
  have hk : ∀ a, a < N → hs'.getD (kd' a) 0 < N ∧ kd' (hs'.getD (kd' a) 0) = kd' a := fun a ha => h1.head _ (h1.lt a ha)
  have hr : ∀ (u : List Nat) (a : Nat), a < N → bytesOk u → dRun (fun k b => kd' (nx (hs'.getD k 0) b)) (kd' a) u = kd' (dRun nx a u) := by
    intro u
    induction u with
    | nil => intro a _ _; rfl
    | cons b u ih =>
      intro a ha hu
      have hb := bytesOk_tail hu
      show dRun _ (kd' (nx (hs'.getD (kd' a) 0) b)) u = _
      rw [(hq (hk a ha).1 ha (hk a ha).2).2 b hb.1]
      exact ih _ (h.lt a b ha hb.1) hb.2
  have hg : ∀ a, a < N → gr (hs'.getD (kd' a) 0) = gr a := fun a ha => (hq (hk a ha).1 ha (hk a ha).2).1
  obtain ⟨z1, z2, z3⟩ := h1.zero h.pos
  refine ⟨z1, fun i b hi hb => h1.lt _ (h.lt _ b (h1.head i hi).1 hb), fun u hu => ?_, fun i j hi hj hs => ?_, fun k hk0 hk1 => ?_⟩
  · have := hr u 0 h.pos hu
    rw [z2] at this
    rw [this]
    show gr _ = true ↔ _
    rw [hg _ (h.run_lt u 0 h.pos hu)]
    exact h.says u hu
  · have gi := h1.head i hi
    have gj := h1.head j hj
    refine Classical.byContradiction fun hne => ?_
    obtain ⟨u, hu, hd⟩ := ht' _ _ gi.1 gj.1 (by rw [gi.2, gj.2]; exact hne)
    have e1 := hr u _ gi.1 hu
    have e2 := hr u _ gj.1 hu
    rw [gi.2] at e1
    rw [gj.2] at e2
    have := hs u hu
    rw [e1, e2] at this
    have f1 := hg _ (h.run_lt u _ gi.1 hu)
    have f2 := hg _ (h.run_lt u _ gj.1 hu)
    exact hd (f1.symm.trans (this.trans f2))
  · have gk := h1.head k hk1
    have gz := h1.incr 0 k hk0 hk1
    obtain ⟨i, b, hi, hb, e, f1, f2⟩ := h.bfs (hs'.getD k 0) (by omega) gk.1
    have hiN : i < N := by omega
    have small : ∀ a, a < hs'.getD k 0 → kd' a < k := fun a ha => by
      have l := h1.lt a (by omega)
      have := h1.le a (by omega)
      refine Nat.lt_of_not_le fun hle => ?_
      rcases Nat.lt_or_eq_of_le hle with q | q
      · have := h1.incr k _ q l; omega
      · rw [← q] at this; omega
    have hle := h1.le i hiN
    refine ⟨kd' i, b, small i hi, hb, ?_, fun i' b' hb' hi' => ?_, fun b' hb' => ?_⟩
    · show kd' (nx (hs'.getD (kd' i) 0) b) = k
      rw [(hq (hk i hiN).1 hiN (hk i hiN).2).2 b hb, e]; exact gk.2
    · have l := h1.lt i hiN
      have := h1.incr i' (kd' i) hi' l
      exact small _ (f1 _ b' hb' (by omega))
    · show kd' (nx (hs'.getD (kd' i) 0) b') < k
      rcases Nat.lt_or_eq_of_le hle with q | q
      · exact small _ (f1 _ b' (by omega) q)
      · rw [q]; exact small _ (f2 b' hb')
end fold

end Go.Proofs.Ytobfpgoepaeknaa
