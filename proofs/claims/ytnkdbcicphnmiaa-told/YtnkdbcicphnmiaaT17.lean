/-
  Tuples: what a search byte by byte finds. (Mathematics.)
  Rows of bytes; texts out of bytes.
  Tables in a row: Class, Next at one of them; tuples.classesOf.
-/
import Derived.Test.YtnkdbcicphnmiaaT03
import Derived.Test.YtnkdbcicphnmiaaQe
import Derived.Laws.IdiomStrings
namespace Go.Proofs.Ytnkdbcicphnmiaa
namespace Mc

theorem pigeonT (n : Nat) : ∀ (f : Nat → Nat), (∀ i, i ≤ n → f i < n) → ∃ i j, i < j ∧ j ≤ n ∧ f i = f j := by
  induction n with
  | zero => intro f h; have := h 0 (Nat.le_refl _); omega
  | succ n ih =>
    intro f h
    by_cases hx : ∃ i, i ≤ n ∧ f i = f (n + 1)
    · obtain ⟨i, hi, e⟩ := hx
      exact ⟨i, n + 1, by omega, Nat.le_refl _, e⟩
    · have hn : ∀ i, i ≤ n → f i ≠ f (n + 1) := fun i hi e => hx ⟨i, hi, e⟩
      have hl := h (n + 1) (Nat.le_refl _)
      obtain ⟨i, j, hij, hj, e⟩ := ih (fun i => if f i < f (n + 1) then f i else f i - 1) fun i hi => by
        have := hn i hi; have := h i (by omega)
        split <;> omega
      refine ⟨i, j, hij, by omega, ?_⟩
      have := hn i (by omega); have := hn j hj
      split at e <;> split at e <;> omega
theorem snocInd {P : List Nat → Prop} (h0 : P []) (h1 : ∀ u b, P u → P (u ++ [b])) (l : List Nat) : P l := by
  rw [← List.reverse_reverse l]
  induction l.reverse with
  | nil => exact h0
  | cons b u ih => rw [List.reverse_cons]; exact h1 _ _ ih
theorem snoc_or (l : List Nat) : l = [] ∨ ∃ u b, l = u ++ [b] := by
  refine snocInd (P := fun l => l = [] ∨ ∃ u b, l = u ++ [b]) (.inl rfl) (fun u b _ => .inr ⟨u, b, rfl⟩) l

/-- Bytes. -/
def Byt (bs : List Nat) : Prop := ∀ b ∈ bs, b < 256
theorem Byt.nil : Byt [] := fun b hb => by cases hb
theorem Byt.snoc {u : List Nat} {b : Nat} (h : Byt u) (hb : b < 256) : Byt (u ++ [b]) := fun x hx => by
  rcases List.mem_append.1 hx with hx | hx
  · exact h x hx
  · rw [List.mem_singleton.1 hx]; exact hb
theorem Byt.front {u : List Nat} {b : Nat} (h : Byt (u ++ [b])) : Byt u := fun x hx => h x (List.mem_append_left _ hx)
theorem Byt.last {u : List Nat} {b : Nat} (h : Byt (u ++ [b])) : b < 256 := h b (List.mem_append_right _ (List.mem_singleton.2 rfl))
/-- The number of a string among all: the shorter before, then the less. -/
def nv (bs : List Nat) : Nat := bs.foldl (fun n b => n * 256 + b + 1) 0
theorem nv_nil : nv [] = 0 := rfl
theorem nv_snoc (u : List Nat) (b : Nat) : nv (u ++ [b]) = nv u * 256 + b + 1 := by unfold nv; rw [List.foldl_append]; rfl
theorem nv_len : ∀ (b a : List Nat), Byt a → Byt b → a.length < b.length → nv a < nv b := by
  refine snocInd (fun a _ _ h => by simp at h) (fun b y ih a ha hb h => ?_)
  rcases snoc_or a with rfl | ⟨a', x, rfl⟩
  · rw [nv_nil, nv_snoc]; omega
  · have h1 := ih a' ha.front hb.front (by simpa using h)
    have := ha.last
    rw [nv_snoc, nv_snoc]; omega
theorem nv_inj : ∀ (a b : List Nat), Byt a → Byt b → nv a = nv b → a = b := by
  refine snocInd (fun b _ hb h => ?_) (fun a x ih b ha hb h => ?_)
  · rcases snoc_or b with rfl | ⟨u, y, rfl⟩
    · rfl
    · rw [nv_nil, nv_snoc] at h; omega
  · rcases snoc_or b with rfl | ⟨b', y, rfl⟩
    · rw [nv_nil, nv_snoc] at h; omega
    · have h1 := ha.last
      have h2 := hb.last
      rw [nv_snoc, nv_snoc] at h
      have e1 : nv a = nv b' := by omega
      have e2 : x = y := by omega
      rw [ih b' ha.front hb.front e1, e2]

/-- A search in the midst: what was found, by which tuple and byte; the tuple at hand, how far its bytes are done. -/
structure Bfs {α : Type} (stp : α → Nat → α) (z : α) (F : List (α × List Nat)) (pc : Nat → Nat) (i U : Nat) (dn : Nat → Prop) : Prop where
  zero : F[0]? = some (z, [])
  par : ∀ (k : Nat) σ w, 0 < k → F[k]? = some (σ, w) → pc k / 256 < k ∧ pc k < U ∧ ∃ σ' w', F[pc k / 256]? = some (σ', w') ∧ σ = stp σ' (pc k % 256) ∧ w = w' ++ [pc k % 256]
  mono : ∀ (j k : Nat), 0 < j → j < k → k < F.length → pc j < pc k
  nodup : ∀ (j k : Nat) σ w w', F[j]? = some (σ, w) → F[k]? = some (σ, w') → j = k
  hU : i * 256 ≤ U ∧ U ≤ (i + 1) * 256
  all : ∀ (p b : Nat) σ w, F[p]? = some (σ, w) → b < 256 → (p < i ∨ (p = i ∧ dn b)) → ∃ (k : Nat) (w' : List Nat), F[k]? = some (stp σ b, w') ∧ (0 < k → pc k ≤ p * 256 + b)
section
variable {α : Type} {stp : α → Nat → α} {z : α} {F : List (α × List Nat)} {pc : Nat → Nat} {i U : Nat} {dn dn' : Nat → Prop} {l : Nat} {σ : α} {w : List Nat}
theorem Bfs.start (stp : α → Nat → α) (z : α) : Bfs stp z [(z, [])] (fun _ => 0) 0 0 (fun _ => False) := by
  refine ⟨rfl, fun k σ w hk h => ?_, fun j k h0 h1 h2 => ?_, fun j k σ w w' h1 h2 => ?_, by omega, fun p b σ w h hb h2 => ?_⟩
  · rw [List.getElem?_eq_none (by simp; omega)] at h; cases h
  · simp at h2; omega
  · have := (List.getElem?_eq_some_iff.1 h1).1
    have := (List.getElem?_eq_some_iff.1 h2).1
    simp at *; omega
  · rcases h2 with h2 | h2 <;> simp at h2
theorem Bfs.old (h : Bfs stp z F pc i U dn) (hi : F[i]? = some (σ, w)) (hl : l < 256) (hU : U ≤ i * 256 + l) (hin : ∃ (k : Nat) (w' : List Nat), F[k]? = some (stp σ l, w')) (hd : ∀ b, b < 256 → dn' b → dn b ∨ (l ≤ b ∧ stp σ b = stp σ l)) : Bfs stp z F pc i (i * 256 + l + 1) dn' := by
  refine ⟨h.zero, fun k σ w hk hs => ?_, h.mono, h.nodup, by omega, fun p b σ1 w1 hp hb hh => ?_⟩
  · obtain ⟨h1, h2, h3⟩ := h.par k σ w hk hs
    exact ⟨h1, by omega, h3⟩
  · rcases hh with hh | ⟨rfl, hh⟩
    · exact h.all p b σ1 w1 hp hb (.inl hh)
    · rcases hd b hb hh with hh | ⟨hlb, he⟩
      · exact h.all p b σ1 w1 hp hb (.inr ⟨rfl, hh⟩)
      · rw [hi] at hp
        simp only [Option.some.injEq, Prod.mk.injEq] at hp
        obtain ⟨rfl, rfl⟩ := hp
        obtain ⟨k, w', hk⟩ := hin
        exact ⟨k, w', by rw [he]; exact hk, fun h0 => by have := (h.par k _ _ h0 hk).2.1; omega⟩
theorem Bfs.new (h : Bfs stp z F pc i U dn) (hi : F[i]? = some (σ, w)) (hl : l < 256) (hU : U ≤ i * 256 + l) (hin : ∀ (k : Nat) w', F[k]? ≠ some (stp σ l, w')) (hd : ∀ b, b < 256 → dn' b → dn b ∨ (l ≤ b ∧ stp σ b = stp σ l)) :
    Bfs stp z (F ++ [(stp σ l, w ++ [l])]) (fun k => if k = F.length then i * 256 + l else pc k) i (i * 256 + l + 1) dn' := by
  have hil := (List.getElem?_eq_some_iff.1 hi).1
  have hlast : (F ++ [(stp σ l, w ++ [l])])[F.length]? = some (stp σ l, w ++ [l]) := by rw [List.getElem?_append_right (Nat.le_refl _), Nat.sub_self]; rfl
  have hlt : ∀ {k : Nat} {x}, F[k]? = some x → k < F.length := fun hx => (List.getElem?_eq_some_iff.1 hx).1
  have hold : ∀ {k : Nat} {x}, F[k]? = some x → (F ++ [(stp σ l, w ++ [l])])[k]? = some x := fun hx => by rw [List.getElem?_append_left (hlt hx)]; exact hx
  have hcase : ∀ {k : Nat} {x}, (F ++ [(stp σ l, w ++ [l])])[k]? = some x → (F[k]? = some x) ∨ (k = F.length ∧ x = (stp σ l, w ++ [l])) := fun {k x} hx => by
    by_cases hk : k < F.length
    · rw [List.getElem?_append_left hk] at hx; exact .inl hx
    · have := (List.getElem?_eq_some_iff.1 hx).1
      simp at this
      have e : k = F.length := by omega
      subst e
      rw [hlast] at hx
      exact .inr ⟨rfl, (Option.some.inj hx).symm⟩
  refine ⟨hold h.zero, fun k σ1 w1 hk hs => ?_, fun j k h0 h1 h2 => ?_, fun j k σ1 w1 w2 h1 h2 => ?_, by omega, fun p b σ1 w1 hp hb hh => ?_⟩
  · rcases hcase hs with hs | ⟨rfl, he⟩
    · obtain ⟨h1, h2, σ', w', h3, h4⟩ := h.par k σ1 w1 hk hs
      have hkl := hlt hs
      simp only [if_neg (show k ≠ F.length by omega)]
      exact ⟨h1, by omega, σ', w', hold h3, h4⟩
    · cases he
      simp only [↓reduceIte]
      have e1 : (i * 256 + l) / 256 = i := by omega
      have e2 : (i * 256 + l) % 256 = l := by omega
      rw [e1, e2]
      exact ⟨hil, by omega, σ, w, hold hi, rfl, rfl⟩
  · simp at h2
    by_cases hk : k = F.length
    · have hj : j < F.length := by omega
      have hjs := List.getElem?_eq_getElem hj
      have := (h.par j _ _ h0 (hjs.trans (by rfl : some F[j] = some (F[j].1, F[j].2)))).2.1
      simp only [if_pos hk, if_neg (show j ≠ F.length by omega)]
      omega
    · simp only [if_neg hk, if_neg (show j ≠ F.length by omega)]
      exact h.mono j k h0 h1 (by omega)
  · rcases hcase h1 with h1 | ⟨rfl, e1⟩
    · rcases hcase h2 with h2 | ⟨rfl, e2⟩
      · exact h.nodup j k σ1 w1 w2 h1 h2
      · have e2 := (Prod.mk.inj e2).1
        rw [e2] at h1
        exact absurd h1 (hin _ _)
    · rcases hcase h2 with h2 | ⟨rfl, e2⟩
      · have e1 := (Prod.mk.inj e1).1
        rw [e1] at h2
        exact absurd h2 (hin _ _)
      · rfl
  · have hpl : p < F.length := by rcases hh with hh | hh <;> omega
    rcases hcase hp with hp | ⟨rfl, -⟩
    · rcases hh with hh | ⟨rfl, hh⟩
      · obtain ⟨k, w', hk, hk2⟩ := h.all p b σ1 w1 hp hb (.inl hh)
        refine ⟨k, w', hold hk, fun h0 => ?_⟩
        have := hlt hk
        simp only [if_neg (show k ≠ F.length by omega)]
        exact hk2 h0
      · rcases hd b hb hh with hh | ⟨hlb, he⟩
        · obtain ⟨k, w', hk, hk2⟩ := h.all p b σ1 w1 hp hb (.inr ⟨rfl, hh⟩)
          refine ⟨k, w', hold hk, fun h0 => ?_⟩
          have := hlt hk
          simp only [if_neg (show k ≠ F.length by omega)]
          exact hk2 h0
        · rw [hi] at hp
          simp only [Option.some.injEq, Prod.mk.injEq] at hp
          obtain ⟨rfl, rfl⟩ := hp
          refine ⟨F.length, w ++ [l], by rw [he]; exact hlast, fun _ => ?_⟩
          simp only [↓reduceIte]
          omega
    · omega
theorem Bfs.row (h : Bfs stp z F pc i U dn) (hd : ∀ b, b < 256 → dn b) : Bfs stp z F pc (i + 1) ((i + 1) * 256) (fun _ => False) := by
  refine ⟨h.zero, fun k σ w hk hs => ?_, h.mono, h.nodup, by omega, fun p b σ1 w1 hp hb hh => ?_⟩
  · obtain ⟨h1, h2, h3⟩ := h.par k σ w hk hs
    exact ⟨h1, by have := h.hU.2; omega, h3⟩
  · rcases hh with hh | hh
    · exact h.all p b σ1 w1 hp hb (by
        by_cases e : p = i
        · exact .inr ⟨e, hd b hb⟩
        · exact .inl (by omega))
    · exact hh.2.elim
variable {rn : List Nat → α} 
theorem Bfs.run (h : Bfs stp z F pc i U dn) (r0 : rn [] = z) (r1 : ∀ u b, rn (u ++ [b]) = stp (rn u) b) : ∀ (k : Nat) σ w, F[k]? = some (σ, w) → σ = rn w ∧ Byt w := by
  intro k
  induction k using Nat.strongRecOn with
  | ind k ih =>
    intro σ w hs
    by_cases hk : k = 0
    · subst hk
      rw [h.zero] at hs
      simp only [Option.some.injEq, Prod.mk.injEq] at hs
      obtain ⟨rfl, rfl⟩ := hs
      exact ⟨r0.symm, Byt.nil⟩
    · obtain ⟨h1, h2, σ', w', h3, rfl, rfl⟩ := h.par k σ w (by omega) hs
      obtain ⟨e, hb⟩ := ih _ h1 σ' w' h3
      exact ⟨by rw [r1, e], hb.snoc (Nat.mod_lt _ (by decide))⟩
theorem Bfs.srt (h : Bfs stp z F pc i U dn) : ∀ (k j : Nat) σ w σ' w', F[j]? = some (σ, w) → F[k]? = some (σ', w') → j < k → nv w < nv w' := by
  intro k
  induction k using Nat.strongRecOn with
  | ind k ih =>
    intro j σ w σ' w' hj hk hjk
    obtain ⟨h1, h2, σ2, w2, h3, rfl, rfl⟩ := h.par k σ' w' (by omega) hk
    by_cases h0 : j = 0
    · subst h0
      rw [h.zero] at hj
      simp only [Option.some.injEq, Prod.mk.injEq] at hj
      obtain ⟨rfl, rfl⟩ := hj
      rw [nv_nil, nv_snoc]; omega
    · obtain ⟨g1, g2, σ1, w1, g3, rfl, rfl⟩ := h.par j σ w (by omega) hj
      have hm := h.mono j k (by omega) hjk (List.getElem?_eq_some_iff.1 hk).1
      rw [nv_snoc, nv_snoc]
      by_cases e : pc j / 256 = pc k / 256
      · rw [e, h3] at g3
        simp only [Option.some.injEq, Prod.mk.injEq] at g3
        obtain ⟨-, rfl⟩ := g3
        omega
      · have := ih _ h1 (pc j / 256) _ _ _ _ g3 h3 (by omega)
        omega
theorem Bfs.cover (h : Bfs stp z F pc i U dn) (hi : F.length ≤ i) (r0 : rn [] = z) (r1 : ∀ u b, rn (u ++ [b]) = stp (rn u) b) : ∀ v, Byt v → ∃ (k : Nat) (w : List Nat), F[k]? = some (rn v, w) ∧ nv w ≤ nv v := by
  refine snocInd (fun _ => ⟨0, [], by rw [r0]; exact h.zero, Nat.le_refl _⟩) (fun u b ih hb => ?_)
  obtain ⟨p, w, hp, hw⟩ := ih hb.front
  have hpl := (List.getElem?_eq_some_iff.1 hp).1
  obtain ⟨k, w', hk, hk2⟩ := h.all p b _ w hp hb.last (.inl (by omega))
  refine ⟨k, w', by rw [r1]; exact hk, ?_⟩
  by_cases h0 : k = 0
  · subst h0
    rw [h.zero] at hk
    simp only [Option.some.injEq, Prod.mk.injEq] at hk
    rw [← hk.2, nv_nil]; omega
  · have h1 := hk2 (by omega)
    obtain ⟨h2, h3, σ2, w2, h4, e, rfl⟩ := h.par k _ w' (by omega) hk
    have hbl := hb.last
    rw [nv_snoc, nv_snoc]
    by_cases e2 : pc k / 256 = p
    · rw [e2, hp] at h4
      simp only [Option.some.injEq, Prod.mk.injEq] at h4
      obtain ⟨-, rfl⟩ := h4
      omega
    · have := h.srt p (pc k / 256) _ _ _ _ h4 hp (by omega)
      omega
/-- The first that is wanted. -/
theorem Bfs.first (h : Bfs stp z F pc i U dn) (hi : F.length ≤ i) (r0 : rn [] = z) (r1 : ∀ u b, rn (u ++ [b]) = stp (rn u) b) (P : α → Bool) {k : Nat} {σ : α} {w : List Nat} (hk : F[k]? = some (σ, w)) (hno : ∀ (j : Nat) σ' w', j < k → F[j]? = some (σ', w') → P σ' = false) : ∀ v, Byt v → P (rn v) = true → nv w ≤ nv v := by
  intro v hv hp
  obtain ⟨j, w', hj, hw⟩ := h.cover hi r0 r1 v hv
  by_cases hjk : j < k
  · rw [hno j _ _ hjk hj] at hp; cases hp
  · by_cases e : j = k
    · subst e
      rw [hk] at hj
      simp only [Option.some.injEq, Prod.mk.injEq] at hj
      rw [hj.2]; exact hw
    · have := h.srt j k _ _ _ _ hk hj (by omega)
      omega
/-- None is wanted. -/
theorem Bfs.none (h : Bfs stp z F pc i U dn) (hi : F.length ≤ i) (r0 : rn [] = z) (r1 : ∀ u b, rn (u ++ [b]) = stp (rn u) b) (P : α → Bool) {n most : Nat} (hno : ∀ (j : Nat) σ' w', j < n → F[j]? = some (σ', w') → P σ' = false) (hfar : ∀ (j : Nat) σ' w', j = n → F[j]? = some (σ', w') → most < w'.length) : ∀ v, Byt v → v.length ≤ most → P (rn v) = false := by
  intro v hv hl
  obtain ⟨j, w', hj, hw⟩ := h.cover hi r0 r1 v hv
  by_cases hjn : j < n
  · exact hno j _ _ hjn hj
  · exfalso
    have hjl := (List.getElem?_eq_some_iff.1 hj).1
    have hn := List.getElem?_eq_getElem (show n < F.length by omega)
    have hn' : F[n]? = some (F[n].1, F[n].2) := hn
    have hf := hfar n _ _ rfl hn'
    have hb2 := (h.run r0 r1 n _ _ hn').2
    have := nv_len _ v hv hb2 (by omega)
    by_cases e : j = n
    · subst e
      rw [hn'] at hj
      simp only [Option.some.injEq, Prod.mk.injEq] at hj
      rw [← hj.2] at hw
      omega
    · have := h.srt j n _ _ _ _ hn' hj (by omega)
      omega
/-- More than 256. -/
def Many (rn : List Nat → α) : Prop := ∃ f : Nat → List Nat, (∀ i, i ≤ 256 → Byt (f i)) ∧ ∀ i j, i < j → j ≤ 256 → rn (f i) ≠ rn (f j)
theorem Bfs.many (h : Bfs stp z F pc i U dn) (r0 : rn [] = z) (r1 : ∀ u b, rn (u ++ [b]) = stp (rn u) b) (hl : 256 < F.length) : Many rn := by
  have hg : ∀ k, k ≤ 256 → F[k]? = some ((F.getD k (z, [])).1, (F.getD k (z, [])).2) := fun k hk => by
    rw [List.getD_eq_getElem?_getD, List.getElem?_eq_getElem (show k < F.length by omega)]; rfl
  refine ⟨fun k => (F.getD k (z, [])).2, fun k hk => (h.run r0 r1 k _ _ (hg k hk)).2, fun a b hab hb e => ?_⟩
  have h1 := hg a (by omega)
  have h2 := hg b hb
  rw [(h.run r0 r1 _ _ _ h1).1, e] at h1
  rw [(h.run r0 r1 _ _ _ h2).1] at h2
  have := h.nodup a b _ _ _ h1 h2
  omega
theorem Bfs.few (h : Bfs stp z F pc i U dn) (hi : F.length ≤ i) (r0 : rn [] = z) (r1 : ∀ u b, rn (u ++ [b]) = stp (rn u) b) (hl : F.length ≤ 256) : ¬ Many rn := by
  rintro ⟨f, h1, h2⟩
  have hc : ∀ k, k ≤ 256 → ∃ j, j < 256 ∧ ∃ w, F[j]? = some (rn (f k), w) := fun k hk => by
    obtain ⟨j, w, hj, -⟩ := h.cover hi r0 r1 (f k) (h1 k hk)
    exact ⟨j, by have := (List.getElem?_eq_some_iff.1 hj).1; omega, w, hj⟩
  have hc' : ∀ k, ∃ j, k ≤ 256 → j < 256 ∧ ∃ w, F[j]? = some (rn (f k), w) := fun k => by
    by_cases hk : k ≤ 256
    · obtain ⟨j, hj⟩ := hc k hk
      exact ⟨j, fun _ => hj⟩
    · exact ⟨0, fun h => absurd h hk⟩
  obtain ⟨g, hg⟩ := Classical.axiomOfChoice hc'
  obtain ⟨a, b, hab, hb, e⟩ := pigeonT 256 g (fun k hk => (hg k hk).1)
  obtain ⟨-, w1, e1⟩ := hg a (by omega)
  obtain ⟨-, w2, e2⟩ := hg b hb
  rw [e, e2] at e1
  simp only [Option.some.injEq, Prod.mk.injEq] at e1
  exact h2 a b hab hb e1.1.symm
/-- Where the tuples have less than 257 numbers there are no more. -/
theorem not_many (c : α → Nat) (hc : ∀ v, Byt v → c (rn v) < 256) (hinj : ∀ u v, Byt u → Byt v → c (rn u) = c (rn v) → rn u = rn v) : ¬ Many rn := by
  rintro ⟨f, h1, h2⟩
  obtain ⟨a, b, hab, hb, e⟩ := pigeonT 256 (fun k => c (rn (f k))) (fun k hk => hc _ (h1 k hk))
  exact h2 a b hab hb (hinj _ _ (h1 a (by omega)) (h1 b hb) e)
end

end Mc
end Go.Proofs.Ytnkdbcicphnmiaa
namespace Go.Proofs.Ytnkdbcicphnmiaa
namespace Mc
open Go.RowKit

def vcs (xs : List Nat) : List Value := xs.map fun (n : Nat) => Value.int .u8 (n : Int)
def VR (w : World) (B : Nat) (v : Value) (xs : List Nat) : Prop := w.ownsRow B 5 1 v xs.length (vcs xs)
theorem VR.of {w : World} {B : Nat} {v : Value} {xs : List Nat} {y : Nat} (h : w.ownsRow B 5 1 v (xs.length + 1) (vcs xs ++ [.int .u8 (y : Int)])) : VR w B v (xs ++ [y]) := by
  unfold VR vcs
  rw [List.length_append, List.map_append]; exact h
theorem VR.at {w : World} {B g cap : Nat} {xs : List Nat} (h : VR w B (.slice (some ⟨g, 0, none⟩) xs.length cap) xs) {k : Nat} (hk : k < xs.length) : w.cell? ⟨g, k, none⟩ = some (.int .u8 ((xs.getD k 0 : Nat) : Int)) := by
  have h' : w.ownsRow B 5 1 (.slice (some ⟨g, 0, none⟩) xs.length cap) xs.length (vcs xs) := h
  have := h'.cells (g := g) rfl k (.int .u8 ((xs.getD k 0 : Nat) : Int)) (by unfold vcs; rw [List.getElem?_map, List.getElem?_eq_getElem hk, List.getD_eq_getElem?_getD, List.getElem?_eq_getElem hk]; rfl)
  rwa [add0] at this
/-- A text out of its bytes. -/
def mkV (xs : List Nat) : ByteArray := ⟨(xs.map UInt8.ofNat).toArray⟩
theorem mkV_size (xs : List Nat) : (mkV xs).size = xs.length := by show ((xs.map UInt8.ofNat).toArray).size = _; simp
theorem mkV_bt {xs : List Nat} (h : ∀ x ∈ xs, x < 256) (k : Nat) : bt (mkV xs) k = xs.getD k 0 := by
  unfold bt
  by_cases hk : k < (mkV xs).size
  · rw [dif_pos hk]
    have hk2 : k < xs.length := by rwa [mkV_size] at hk
    have e : (mkV xs)[k]'hk = (xs.map UInt8.ofNat)[k]'(by rw [List.length_map]; exact hk2) := rfl
    rw [e, List.getElem_map, UInt8.toNat_ofNat', List.getD_eq_getElem?_getD, List.getElem?_eq_getElem hk2]
    exact Nat.mod_eq_of_lt (by have := h _ (List.getElem_mem hk2); omega)
  · rw [dif_neg hk, List.getD_eq_getElem?_getD, List.getElem?_eq_none (by rw [mkV_size] at hk; omega)]; rfl
theorem conv_mv {w : World} {B g cap : Nat} {xs : List Nat} (h : VR w B (.slice (some ⟨g, 0, none⟩) xs.length cap) xs) (hx : ∀ x ∈ xs, x < 256) :
    (convert 100 9 (.slice (some ⟨g, 0, none⟩) xs.length cap)).run Try.prog w = .ok (.string (mkV xs)) w := by
  have hl : (xs.map UInt8.ofNat).length = xs.length := List.length_map _
  have := run_convert_bytes_back (P := Try.prog) w 100 9 5 ⟨g, 0, none⟩ cap (xs.map UInt8.ofNat) Try.underlying100 Try.underlying5 Try.underlying9 (by
    intro j hj
    rw [hl] at hj
    have e : (xs.map UInt8.ofNat)[j] = UInt8.ofNat xs[j] := List.getElem_map _
    rw [e, UInt8.toNat_ofNat', Nat.mod_eq_of_lt (by have := hx _ (List.getElem_mem hj); omega)]
    have := h.at hj
    rw [List.getD_eq_getElem?_getD, List.getElem?_eq_getElem hj] at this
    rw [add0]
    exact this)
  rw [hl] at this
  exact this
theorem infoV : (Try.prog.info? 5).map (fun i => (i.zero, i.size, i.bytes)) = some (some (.int .u8 0), 1, 1) := by kernel_rfl
/-- A byte is appended to a row. -/
theorem appV {ops : Array Oper} {rest : List Oper} {o : Oper} {a : Act} {W : World} {Q : Exit → Act → World → Prop} (hgd : o.guard = none) (s x : Operand)
    (ho : o.op = .call { callee := .builtin .append, args := #[s, x], argTypes := #[100, 100] }) (B : Nat) (v : Value) (xs : List Nat) (hs : a.eval s = v) (hown : VR W B v xs) (g0 : Nat) (y : Nat)
    (hx : a.eval x = .slice (some ⟨g0, 0, none⟩) 1 1) (hc : W.cell? ⟨g0, 0, none⟩ = some (.int .u8 (y : Int))) (hlen : xs.length ≤ 3000000) (hB : B ≤ W.heap.size) (H : Nat) (hH : W.heap.size = H)
    (h : ∀ g cap w', w'.ownsRow B 5 1 (.slice (some ⟨g, 0, none⟩) (xs.length + 1) cap) (xs.length + 1) (vcs xs ++ [.int .u8 (y : Int)]) → W.grownBy w' v.ownBlock → (v.ownBlock = some g ∨ g = H) → g < w'.heap.size → wpList Try.prog ops Q rest (a.put o.dst (.slice (some ⟨g, 0, none⟩) (xs.length + 1) cap)) w') : wpList Try.prog ops Q (o :: rest) a W := by
  obtain ⟨i, i0, i1, i2, i3⟩ := info_of infoV
  exact wpList_append_lies W hgd s x 100 ho B 5 i (.int .u8 0) 1 1 Try.underlying100 i0 i1 i2 i3 rfl (by decide) v xs.length (vcs xs) hs hown ⟨g0, 0, none⟩ 1 1 [.int .u8 (y : Int)] hx rfl (one_cells hc) (by intro u hu; simp at hu; subst hu; rfl) (by decide) (by unfold maxLen; omega) (by omega) hB H hH h

theorem mkV_inj {a b : List Nat} (ha : Byt a) (hb : Byt b) (h : mkV a = mkV b) : a = b := by
  have hl : a.length = b.length := by rw [← mkV_size a, ← mkV_size b, h]
  apply List.ext_getElem? 
  intro k
  by_cases hk : k < a.length
  · have h1 := mkV_bt ha k
    have h2 := mkV_bt hb k
    rw [h, h2, List.getD_eq_getElem?_getD, List.getD_eq_getElem?_getD, List.getElem?_eq_getElem hk, List.getElem?_eq_getElem (hl ▸ hk)] at h1
    rw [List.getElem?_eq_getElem hk, List.getElem?_eq_getElem (hl ▸ hk)]
    exact congrArg some h1.symm
  · rw [List.getElem?_eq_none (by omega), List.getElem?_eq_none (by omega)]
theorem mkV_toList (xs : List Nat) : (mkV xs).toList = xs.map UInt8.ofNat := by
  rw [ByteArray.toList_eq]; rfl
theorem mkV_app (a b : List Nat) : mkV (a ++ b) = mkV a ++ mkV b := by
  apply ByteArray.ext
  show ((a ++ b).map UInt8.ofNat).toArray = (mkV a ++ mkV b).data
  rw [ByteArray.data_append]
  show _ = (a.map UInt8.ofNat).toArray ++ (b.map UInt8.ofNat).toArray
  simp
theorem btsN_mkV {a : List Nat} (ha : Byt a) : btsN (mkV a) = a := by
  apply List.ext_getElem?
  intro k
  unfold btsN
  rw [List.getElem?_map, mkV_size]
  by_cases hk : k < a.length
  · rw [List.getElem?_range hk, Option.map_some, mkV_bt ha, List.getD_eq_getElem?_getD, List.getElem?_eq_getElem hk]; rfl
  · rw [List.getElem?_eq_none (by simp; omega), List.getElem?_eq_none (by omega)]; rfl
theorem btsN_byt (s : ByteArray) : Byt (btsN s) := fun b hb => by
  obtain ⟨k, _, rfl⟩ := List.mem_map.1 hb
  exact bt_le s k

end Mc
end Go.Proofs.Ytnkdbcicphnmiaa
namespace Go.Proofs.Ytnkdbcicphnmiaa
namespace Mc
open Go.RowKit
attribute [local go_sem ↓] Go.wp_at_zero Go.wp_at_succ

/-- A table in the midst of a block. -/
def TbA (w : World) (B g o : Nat) (t : TabN) : Prop := ∃ gv nv, w.rangeAt g o (tbC t.cl t.C gv nv).toList ∧ TRws w B t gv nv
theorem Tbs.tba {w : World} {B g m : Nat} {ts : Nat → TabN} (h : Tbs w B g m ts) {i : Nat} (hi : i < m) : TbA w B g (i * 259) (ts i) := h.at_ i hi
theorem range_cl {w : World} {g o : Nat} {t : TabN} {gv nv : Value} (h : w.rangeAt g o (tbC t.cl t.C gv nv).toList) {b : Nat} (hb : b < 256) : w.cell? ⟨g, o + b, none⟩ = some (.int .i64 ((t.cl b : Nat) : Int)) :=
  h b _ (by rw [Array.getElem?_toList]; exact tbC_cl _ _ _ _ hb)
theorem range_tail {w : World} {g o : Nat} {t : TabN} {gv nv : Value} (h : w.rangeAt g o (tbC t.cl t.C gv nv).toList) {j : Nat} {v : Value} (hv : [.int .i64 (t.C : Int), gv, nv][j]? = some v) : w.cell? ⟨g, o + (256 + j), none⟩ = some v :=
  h (256 + j) _ (by rw [Array.getElem?_toList, tbC_tail]; exact hv)
set_option maxRecDepth 20000 in
theorem Class_at (w : World) (B g o : Nat) (t : TabN) (h : TbA w B g o t) (b : Nat) (hb : b < 256) : Calls Try.prog 107 #[.pointer (some ⟨g, o, none⟩), .int .u8 (b : Int)] w fun e w' => e = .returned (.int .i64 ((t.cl b : Nat) : Int)) ∧ w' = w := by
  obtain ⟨gv, nv, h1, -⟩ := h
  have c0 := range_cl h1 hb
  have hbI : (b : Int) < 256 := by omega
  clear h1 hb
  generalize t.cl b = x at *
  go_enter Try.func107, Try.ntmps107
  go_wp2
  go_ret
  exact ⟨rfl, rfl⟩
set_option maxRecDepth 20000 in
set_option maxHeartbeats 1000000 in
theorem Next_at (w : World) (B g o : Nat) (t : TabN) (h : TbA w B g o t) (q c : Nat) (hq : q < t.S) (hc : c < t.C) : Calls Try.prog 110 #[.pointer (some ⟨g, o, none⟩), .int .i64 (q : Int), .int .i64 (c : Int)] w fun e w' => e = .returned (.int .i64 ((t.nx q c : Nat) : Int)) ∧ ∃ n, w' = w.drewN n := by
  obtain ⟨gv, nv, h1, hr⟩ := h
  obtain ⟨bs, ns, h2, h3, q1, q2, hS, hg, hnl, hnx⟩ := hr.ex
  obtain ⟨ga, gc, rfl⟩ := h2.form
  obtain ⟨na, nc, rfl⟩ := h3.form
  have hs2 := hr.ok.s2
  have hc2 := hr.ok.c2
  have c6 : w.cell? ⟨g, o + 256, none⟩ = some (.int .i64 (t.C : Int)) := range_tail h1 (j := 0) rfl
  have c7 : w.cell? ⟨g, o + 257, none⟩ = some (.slice ga bs.length gc) := range_tail h1 (j := 1) rfl
  have c8 : w.cell? ⟨g, o + 258, none⟩ = some (.slice na ns.length nc) := range_tail h1 (j := 2) rfl
  rw [hS] at c7
  have hin : q * t.C + c < t.S * t.C := by
    have : (q + 1) * t.C ≤ t.S * t.C := Nat.mul_le_mul_right _ hq
    rw [Nat.add_mul, Nat.one_mul] at this
    omega
  have hSC : t.S * t.C ≤ 24 * 24 := Nat.mul_le_mul hs2 hc2
  have HA : Hid (∀ n, Calls Try.prog 123 #[.slice na ns.length nc, .int .i64 ((q * t.C + c : Nat) : Int)] (w.drewN n) fun e w' => e = .returned (.int .i64 ((t.nx q c : Nat) : Int)) ∧ w' = w.drewN n) := fun n => by
    have := tat_any (w.drewN n) _ ns (q * t.C + c) h3 (by omega) (by omega)
    rw [hnx q c hq hc] at this
    exact this
  have hqI : (q : Int) < (t.S : Int) := by omega
  have hcI : (c : Int) < (t.C : Int) := by omega
  have hsI : (t.S : Int) ≤ 24 := by omega
  have hCI : (t.C : Int) ≤ 24 := by omega
  have hm0 : (q : Int) * (t.C : Int) = ((q * t.C : Nat) : Int) := by rw [Int.natCast_mul]
  have hm1 : ((q * t.C : Nat) : Int) + (c : Int) = ((q * t.C + c : Nat) : Int) := by rw [Int.natCast_add]
  have hm2 : ((q * t.C + c : Nat) : Int) ≤ 576 := by omega
  have hm3 : ((q * t.C : Nat) : Int) ≤ 576 := by omega
  generalize q * t.C + c = k at *
  generalize q * t.C = k0 at *
  generalize t.nx q c = y at *
  clear h1 h2 h3 hr q1 q2 hS hg hnl hnx hq hc hs2 hc2 hin hSC
  go_enter Try.func110, Try.ntmps110
  go_wp2_with fail
  go_quiet ((go_at_call 123; exact Calls.quiet_of_same (unhide HA _)))
  go_wp2_with fail
  go_ret
  exact ⟨rfl, _, rfl⟩

/-- The classes of a byte, table by table; the states of a string; where classes lead. -/
def clT (m : Nat) (ts : Nat → TabN) (b : Nat) : List Nat := (List.range m).map fun i => (ts i).cl b
def stT (m : Nat) (ts : Nat → TabN) (bs : List Nat) : List Nat := (List.range m).map fun i => (ts i).run bs
def nxT (m : Nat) (ts : Nat → TabN) (s c : List Nat) : List Nat := (List.range m).map fun i => (ts i).nx (s.getD i 0) (c.getD i 0)
theorem rmap_getD {m i : Nat} (f : Nat → Nat) (hi : i < m) : ((List.range m).map f).getD i 0 = f i := by
  rw [List.getD_eq_getElem?_getD, List.getElem?_map, List.getElem?_range hi]; rfl
theorem rmap_len (m : Nat) (f : Nat → Nat) : ((List.range m).map f).length = m := by simp
theorem rmap_snoc (m : Nat) (f : Nat → Nat) : (List.range (m + 1)).map f = (List.range m).map f ++ [f m] := by rw [List.range_succ, List.map_append]; rfl
theorem stT_snoc (m : Nat) (ts : Nat → TabN) (u : List Nat) (b : Nat) : stT m ts (u ++ [b]) = nxT m ts (stT m ts u) (clT m ts b) := by
  unfold stT nxT clT
  apply List.map_congr_left
  intro i hi
  have hi := List.mem_range.1 hi
  rw [rmap_getD _ hi, rmap_getD _ hi, TabN.run_snoc]
theorem stT_nil (m : Nat) (ts : Nat → TabN) : stT m ts [] = List.replicate m 0 := by
  unfold stT
  apply List.ext_getElem?
  intro k
  rw [List.getElem?_map, List.getElem?_replicate]
  by_cases hk : k < m
  · rw [List.getElem?_range hk, if_pos hk]; rfl
  · rw [List.getElem?_eq_none (by simp; omega), if_neg hk]; rfl

end Mc
end Go.Proofs.Ytnkdbcicphnmiaa
