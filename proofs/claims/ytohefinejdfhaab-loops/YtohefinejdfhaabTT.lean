/-
  Plain mathematics: the least automaton of a set of strings, its states numbered as they are met; the classes of bytes; that there is but one table.
-/
namespace Go.Proofs.Ytohefinejdfhaab

/-- Where a string leads. -/
def dRun (nx : Nat → Nat → Nat) : Nat → List Nat → Nat
  | i, [] => i
  | i, b :: u => dRun nx (nx i b) u
theorem dRun_append (nx : Nat → Nat → Nat) : ∀ (u v : List Nat) (i : Nat), dRun nx i (u ++ v) = dRun nx (dRun nx i u) v
  | [], _, _ => rfl
  | b :: u, v, i => dRun_append nx u v (nx i b)
def bytesOk (u : List Nat) : Prop := ∀ b ∈ u, b < 256
theorem bytesOk_nil : bytesOk [] := fun _ h => by cases h
theorem bytesOk_cons {b : Nat} {u : List Nat} (hb : b < 256) (hu : bytesOk u) : bytesOk (b :: u) := fun x h => by
  rcases List.mem_cons.1 h with rfl | h
  · exact hb
  · exact hu x h
theorem bytesOk_append {u v : List Nat} (hu : bytesOk u) (hv : bytesOk v) : bytesOk (u ++ v) := fun x h => by
  rcases List.mem_append.1 h with h | h
  · exact hu x h
  · exact hv x h
theorem bytesOk_snoc {u : List Nat} {b : Nat} (hu : bytesOk u) (hb : b < 256) : bytesOk (u ++ [b]) := bytesOk_append hu (bytesOk_cons hb bytesOk_nil)
theorem bytesOk_tail {b : Nat} {u : List Nat} (h : bytesOk (b :: u)) : b < 256 ∧ bytesOk u := ⟨h b (by simp), fun x hx => h x (by simp [hx])⟩

/-- A least automaton for a set of strings: its states are met in the order of their numbers. -/
structure MinDfa (L : List Nat → Prop) (S : Nat) (nx : Nat → Nat → Nat) (gr : Nat → Bool) : Prop where
  pos : 0 < S
  lt : ∀ i b, i < S → b < 256 → nx i b < S
  says : ∀ u, bytesOk u → (gr (dRun nx 0 u) = true ↔ L u)
  sep : ∀ i j, i < S → j < S → (∀ u, bytesOk u → gr (dRun nx i u) = gr (dRun nx j u)) → i = j
  bfs : ∀ k, 0 < k → k < S → ∃ i b, i < k ∧ b < 256 ∧ nx i b = k ∧ (∀ i' b', b' < 256 → i' < i → nx i' b' < k) ∧ (∀ b', b' < b → nx i b' < k)
theorem MinDfa.run_lt {L : List Nat → Prop} {S : Nat} {nx : Nat → Nat → Nat} {gr : Nat → Bool} (h : MinDfa L S nx gr) : ∀ (u : List Nat) (i : Nat), i < S → bytesOk u → dRun nx i u < S
  | [], _, hi, _ => hi
  | b :: u, i, hi, hu => h.run_lt u _ (h.lt i b hi (bytesOk_tail hu).1) (bytesOk_tail hu).2
theorem MinDfa.reached {L : List Nat → Prop} {S : Nat} {nx : Nat → Nat → Nat} {gr : Nat → Bool} (h : MinDfa L S nx gr) (k : Nat) : k < S → ∃ u, bytesOk u ∧ dRun nx 0 u = k := by
  induction k using Nat.strongRecOn with
  | ind k ih =>
    intro hk
    by_cases h0 : k = 0
    · exact ⟨[], bytesOk_nil, h0.symm⟩
    · obtain ⟨i, b, hi, hb, e, _⟩ := h.bfs k (by omega) hk
      obtain ⟨u, hu, eu⟩ := ih i hi (by omega)
      exact ⟨u ++ [b], bytesOk_snoc hu hb, by rw [dRun_append, eu]; exact e⟩

section unique
variable {L : List Nat → Prop} {S S' : Nat} {nx nx' : Nat → Nat → Nat} {gr gr' : Nat → Bool}
theorem MinDfa.same (h : MinDfa L S nx gr) (h' : MinDfa L S' nx' gr') (k : Nat) : k < S → k < S' → ∀ u, bytesOk u → gr (dRun nx k u) = gr' (dRun nx' k u) := by
  induction k using Nat.strongRecOn with
  | ind k ih =>
    intro hk hk'
    by_cases h0 : k = 0
    · subst h0
      intro u hu
      have e1 := h.says u hu
      have e2 := h'.says u hu
      rw [Bool.eq_iff_iff, e1, e2]
    · obtain ⟨i, b, hi, hb, e, f1, f2⟩ := h.bfs k (by omega) hk
      obtain ⟨i', b', hi', hb', e', f1', f2'⟩ := h'.bfs k (by omega) hk'
      have step : ∀ i b, i < k → b < 256 → ∀ u, bytesOk u → gr (dRun nx (nx i b) u) = gr' (dRun nx' (nx' i b) u) := fun i b hi hb u hu => ih i hi (by omega) (by omega) (b :: u) (bytesOk_cons hb hu)
      have a1 : ¬ nx' i b < k := fun hl => by
        have : nx' i b = k := by
          have := h.sep k (nx' i b) hk (by omega) fun u hu => by
            rw [← e, step i b hi hb u hu]
            exact (ih _ hl (by omega) (by omega) u hu).symm
          omega
        omega
      have a2 : ¬ nx i' b' < k := fun hl => by
        have : nx i' b' = k := by
          have := h'.sep k (nx i' b') hk' (by omega) fun u hu => by
            rw [← e', ← step i' b' hi' hb' u hu]
            exact ih _ hl (by omega) (by omega) u hu
          omega
        omega
      have hii : i = i' := by
        rcases Nat.lt_trichotomy i i' with h1 | h1 | h1
        · exact absurd (f1' i b hb h1) a1
        · exact h1
        · exact absurd (f1 i' b' hb' h1) a2
      subst hii
      have hbb : b = b' := by
        rcases Nat.lt_trichotomy b b' with h1 | h1 | h1
        · exact absurd (f2' b h1) a1
        · exact h1
        · exact absurd (f2 b' h1) a2
      subst hbb
      intro u hu
      have := step i b hi hb u hu
      rwa [e, e'] at this
theorem MinDfa.size_le (h : MinDfa L S nx gr) (h' : MinDfa L S' nx' gr') : S' ≤ S := by
  refine Nat.le_of_not_lt fun hlt => ?_
  obtain ⟨i, b, hi, hb, e, _⟩ := h'.bfs S h.pos hlt
  have hn := h.lt i b hi hb
  have := h'.sep S (nx i b) hlt (by omega) fun u hu => by
    have := h.same h' i hi (by omega) (b :: u) (bytesOk_cons hb hu)
    simp only [dRun, e] at this
    rw [← this]
    exact h.same h' _ hn (by omega) u hu
  omega
theorem MinDfa.size_eq (h : MinDfa L S nx gr) (h' : MinDfa L S' nx' gr') : S = S' := Nat.le_antisymm (h'.size_le h) (h.size_le h')
theorem MinDfa.nx_eq (h : MinDfa L S nx gr) (h' : MinDfa L S' nx' gr') {i b : Nat} (hi : i < S) (hb : b < 256) : nx i b = nx' i b := by
  have hS := h.size_eq h'
  have hn := h.lt i b hi hb
  refine h'.sep _ _ (by omega) (h'.lt i b (by omega) hb) fun u hu => ?_
  rw [← h.same h' _ hn (by omega) u hu]
  exact h.same h' i hi (by omega) (b :: u) (bytesOk_cons hb hu)
theorem MinDfa.gr_eq (h : MinDfa L S nx gr) (h' : MinDfa L S' nx' gr') {i : Nat} (hi : i < S) : gr i = gr' i :=
  h.same h' i hi (by rw [← h.size_eq h']; exact hi) [] bytesOk_nil
end unique

/-- The classes of bytes, numbered by the least byte of each. -/
structure Cols (S : Nat) (nx : Nat → Nat → Nat) (C : Nat) (cl : Nat → Nat) : Prop where
  lt : ∀ b, b < 256 → cl b < C
  eq : ∀ b b', b < 256 → b' < 256 → (cl b = cl b' ↔ ∀ i, i < S → nx i b = nx i b')
  grow : ∀ b, b < 256 → ∀ c, c < cl b → ∃ b', b' < b ∧ cl b' = c
  all : ∀ c, c < C → ∃ b, b < 256 ∧ cl b = c
theorem Cols.cl_eq {S : Nat} {nx nx' : Nat → Nat → Nat} {C C' : Nat} {cl cl' : Nat → Nat} (h : Cols S nx C cl) (h' : Cols S nx' C' cl') (hn : ∀ i b, i < S → b < 256 → nx i b = nx' i b) (b : Nat) : b < 256 → cl b = cl' b := by
  have hq : ∀ b b', b < 256 → b' < 256 → (cl b = cl b' ↔ cl' b = cl' b') := fun b b' hb hb' => by
    rw [h.eq b b' hb hb', h'.eq b b' hb hb']
    constructor
    · intro g i hi; rw [← hn i b hi hb, ← hn i b' hi hb']; exact g i hi
    · intro g i hi; rw [hn i b hi hb, hn i b' hi hb']; exact g i hi
  induction b using Nat.strongRecOn with
  | ind b ih =>
    intro hb
    rcases Nat.lt_trichotomy (cl b) (cl' b) with g | g | g
    · obtain ⟨b', hb', e⟩ := h'.grow b hb _ g
      have := ih b' hb' (by omega)
      have := (hq b' b (by omega) hb).1 (by omega)
      omega
    · exact g
    · obtain ⟨b', hb', e⟩ := h.grow b hb _ g
      have := ih b' hb' (by omega)
      have := (hq b' b (by omega) hb).2 (by omega)
      omega
theorem Cols.size_eq {S : Nat} {nx nx' : Nat → Nat → Nat} {C C' : Nat} {cl cl' : Nat → Nat} (h : Cols S nx C cl) (h' : Cols S nx' C' cl') (hn : ∀ i b, i < S → b < 256 → nx i b = nx' i b) : C = C' := by
  have key := h.cl_eq h' hn
  rcases Nat.lt_trichotomy C C' with g | g | g
  · obtain ⟨b, hb, e⟩ := h'.all C g
    have := h.lt b hb; have := key b hb; omega
  · exact g
  · obtain ⟨b, hb, e⟩ := h.all C' g
    have := h'.lt b hb; have := key b hb; omega

/-- The bytes of a table. -/
def layTab (S C : Nat) (cl : Nat → Nat) (gr : Nat → Bool) (nc : Nat → Nat → Nat) : List Nat :=
  [S, C] ++ (List.range 256).map cl ++ (List.range S).map (fun i => if gr i then 1 else 0) ++ (List.range S).flatMap (fun i => (List.range C).map (nc i))
structure TabOf (L : List Nat → Prop) (S C : Nat) (nx : Nat → Nat → Nat) (gr : Nat → Bool) (cl : Nat → Nat) (nc : Nat → Nat → Nat) : Prop where
  dfa : MinDfa L S nx gr
  cols : Cols S nx C cl
  sle : S ≤ 24
  cle : C ≤ 24
  nc : ∀ i b, i < S → b < 256 → nc i (cl b) = nx i b
def IsTab (L : List Nat → Prop) (x : List Nat) : Prop := ∃ S C nx gr cl nc, TabOf L S C nx gr cl nc ∧ x = layTab S C cl gr nc
theorem flatMap_congr' {α β : Type} {f g : α → List β} : ∀ {l : List α}, (∀ a ∈ l, f a = g a) → l.flatMap f = l.flatMap g
  | [], _ => rfl
  | a :: l, h => by rw [List.flatMap_cons, List.flatMap_cons, h a (by simp), flatMap_congr' fun x hx => h x (by simp [hx])]
theorem IsTab.unique {L : List Nat → Prop} {x y : List Nat} (h : IsTab L x) (h' : IsTab L y) : x = y := by
  obtain ⟨S, C, nx, gr, cl, nc, t, rfl⟩ := h
  obtain ⟨S', C', nx', gr', cl', nc', t', rfl⟩ := h'
  obtain rfl := t.dfa.size_eq t'.dfa
  have hn : ∀ i b, i < S → b < 256 → nx i b = nx' i b := fun i b hi hb => t.dfa.nx_eq t'.dfa hi hb
  obtain rfl := t.cols.size_eq t'.cols hn
  have hc := t.cols.cl_eq t'.cols hn
  unfold layTab
  have e1 : (List.range 256).map cl = (List.range 256).map cl' := List.map_congr_left fun b hb => hc b (List.mem_range.1 hb)
  have e2 : (List.range S).map (fun i => if gr i then 1 else 0) = (List.range S).map (fun i => if gr' i then 1 else 0) := List.map_congr_left fun i hi => by rw [t.dfa.gr_eq t'.dfa (List.mem_range.1 hi)]
  have e3 : (List.range S).flatMap (fun i => (List.range C).map (nc i)) = (List.range S).flatMap (fun i => (List.range C).map (nc' i)) :=
    flatMap_congr' fun i hi => List.map_congr_left fun c hcc => by
      obtain ⟨b, hb, rfl⟩ := t.cols.all c (List.mem_range.1 hcc)
      rw [t.nc i b (List.mem_range.1 hi) hb, hc b hb, t'.nc i b (List.mem_range.1 hi) hb, hn i b (List.mem_range.1 hi) hb]
  rw [e1, e2, e3]

/-- Two strings are alike. -/
def alikeL (L : List Nat → Prop) (u v : List Nat) : Prop := ∀ w, bytesOk w → (L (u ++ w) ↔ L (v ++ w))
def ManyStates (L : List Nat → Prop) : Prop := ∃ f : Nat → List Nat, (∀ i, i ≤ 24 → bytesOk (f i)) ∧ ∀ i j, i < j → j ≤ 24 → ¬ alikeL L (f i) (f j)
def ManyClasses (L : List Nat → Prop) : Prop := ∃ f : Nat → Nat, (∀ i, i ≤ 24 → f i < 256) ∧ ∀ i j, i < j → j ≤ 24 → ∃ u, bytesOk u ∧ ¬ alikeL L (u ++ [f i]) (u ++ [f j])
theorem pigeon (n : Nat) : ∀ (f : Nat → Nat), (∀ i, i ≤ n → f i < n) → ∃ i j, i < j ∧ j ≤ n ∧ f i = f j := by
  induction n with
  | zero => intro f h; have := h 0 (Nat.le_refl _); omega
  | succ n ih =>
    intro f h
    by_cases hx : ∃ i, i ≤ n ∧ f i = f (n + 1)
    · obtain ⟨i, hi, e⟩ := hx
      exact ⟨i, n + 1, by omega, Nat.le_refl _, e⟩
    · have hn : ∀ i, i ≤ n → f i ≠ f (n + 1) := fun i hi e => hx ⟨i, hi, e⟩
      have hl := h (n + 1) (Nat.le_refl _)
      obtain ⟨i, j, hij, hj, e⟩ := ih (fun i => if f i < f (n + 1) then f i else f i - 1) fun i hi => by
        have := hn i hi; have := h i (by omega)
        split <;> omega
      refine ⟨i, j, hij, by omega, ?_⟩
      have := hn i (by omega); have := hn j hj
      split at e <;> split at e <;> omega
theorem MinDfa.alike_iff {L : List Nat → Prop} {S : Nat} {nx : Nat → Nat → Nat} {gr : Nat → Bool} (h : MinDfa L S nx gr) {u v : List Nat} (hu : bytesOk u) (hv : bytesOk v) : alikeL L u v ↔ dRun nx 0 u = dRun nx 0 v := by
  constructor
  · intro ha
    refine h.sep _ _ (h.run_lt u 0 h.pos hu) (h.run_lt v 0 h.pos hv) fun w hw => ?_
    rw [← dRun_append, ← dRun_append, Bool.eq_iff_iff, h.says _ (bytesOk_append hu hw), h.says _ (bytesOk_append hv hw)]
    exact ha w hw
  · intro e w hw
    rw [← h.says _ (bytesOk_append hu hw), ← h.says _ (bytesOk_append hv hw), dRun_append, dRun_append, e]
theorem MinDfa.notMany {L : List Nat → Prop} {S : Nat} {nx : Nat → Nat → Nat} {gr : Nat → Bool} (h : MinDfa L S nx gr) (hs : S ≤ 24) : ¬ ManyStates L := by
  rintro ⟨f, f1, f2⟩
  obtain ⟨i, j, hij, hj, e⟩ := pigeon 24 (fun i => dRun nx 0 (f i)) fun i hi => Nat.lt_of_lt_of_le (h.run_lt _ 0 h.pos (f1 i hi)) hs
  exact f2 i j hij hj ((h.alike_iff (f1 i (by omega)) (f1 j hj)).2 e)
theorem Cols.notMany {L : List Nat → Prop} {S C : Nat} {nx : Nat → Nat → Nat} {gr : Nat → Bool} {cl : Nat → Nat} (h : MinDfa L S nx gr) (hc : Cols S nx C cl) (hs : C ≤ 24) : ¬ ManyClasses L := by
  rintro ⟨f, f1, f2⟩
  obtain ⟨i, j, hij, hj, e⟩ := pigeon 24 (fun i => cl (f i)) fun i hi => Nat.lt_of_lt_of_le (hc.lt _ (f1 i hi)) hs
  obtain ⟨u, hu, hn⟩ := f2 i j hij hj
  refine hn ((h.alike_iff (bytesOk_snoc hu (f1 i (by omega))) (bytesOk_snoc hu (f1 j hj))).2 ?_)
  rw [dRun_append, dRun_append]
  exact (hc.eq _ _ (f1 i (by omega)) (f1 j hj)).1 e _ (h.run_lt u 0 h.pos hu)
/-- Bytes whose columns differ are of more classes than may be. -/
theorem MinDfa.many {L : List Nat → Prop} {S : Nat} {nx : Nat → Nat → Nat} {gr : Nat → Bool} (h : MinDfa L S nx gr) (f : Nat → Nat) (hf : ∀ i, i ≤ 24 → f i < 256) (hd : ∀ i j, i < j → j ≤ 24 → ∃ k, k < S ∧ nx k (f i) ≠ nx k (f j)) : ManyClasses L := by
  refine ⟨f, hf, fun i j hij hj => ?_⟩
  obtain ⟨k, hk, hne⟩ := hd i j hij hj
  obtain ⟨u, hu, e⟩ := h.reached k hk
  refine ⟨u, hu, fun ha => hne ?_⟩
  have := (h.alike_iff (bytesOk_snoc hu (hf i (by omega))) (bytesOk_snoc hu (hf j hj))).1 ha
  rw [dRun_append, dRun_append, e] at this
  exact this

/-- What Table is to answer for a set of strings. -/
def TabAns (L : List Nat → Prop) (x : List Nat) (e : Int) : Prop := (e = 0 ∧ IsTab L x) ∨ (e = 3 ∧ x = [] ∧ (ManyStates L ∨ ManyClasses L))
theorem TabAns.unique {L : List Nat → Prop} {x x' : List Nat} {e e' : Int} (h : TabAns L x e) (h' : TabAns L x' e') : x = x' ∧ e = e' := by
  have no : ∀ {x}, IsTab L x → ¬ (ManyStates L ∨ ManyClasses L) := by
    rintro x ⟨S, C, nx, gr, cl, nc, t, -⟩ (m | m)
    · exact t.dfa.notMany t.sle m
    · exact Cols.notMany t.dfa t.cols t.cle m
  rcases h with ⟨rfl, h⟩ | ⟨rfl, rfl, h⟩ <;> rcases h' with ⟨rfl, h'⟩ | ⟨rfl, rfl, h'⟩
  · exact ⟨h.unique h', rfl⟩
  · exact absurd h' (no h)
  · exact absurd h (no h')
  · exact ⟨rfl, rfl⟩

end Go.Proofs.Ytohefinejdfhaab
