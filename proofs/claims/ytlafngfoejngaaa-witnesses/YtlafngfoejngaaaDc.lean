/-
  The document's search: what it finds; distances; the first string by them. (Mathematics.)
-/
import Derived.Test.YtlafngfoejngaaaJm
namespace Go.Proofs.Ytlafngfoejngaaa
namespace Mc

/-- The search of the document's tuples, at tuple i and byte b. -/
def DlS (m : Nat) (ts : Nat → TabN) (F : List (List Nat)) (i b : Nat) : Prop :=
  ∃ (G : List (List Nat × List Nat)) (pc : Nat → Nat) (U : Nat), G.map Prod.fst = F ∧ Bfs (stpT m ts) (List.replicate m 0) G pc i U (fun b' => b' < b) ∧ U ≤ i * 256 + b
section
variable {m : Nat} {ts : Nat → TabN} {F : List (List Nat)} {i b : Nat}
theorem fst_at {G : List (List Nat × List Nat)} (h : G.map Prod.fst = F) {k : Nat} {σ : List Nat} (hk : F[k]? = some σ) : ∃ u, G[k]? = some (σ, u) := by
  rw [← h, List.getElem?_map] at hk
  cases hg : G[k]? with
  | none => rw [hg] at hk; cases hk
  | some p =>
    rw [hg] at hk
    simp only [Option.map_some, Option.some.injEq] at hk
    exact ⟨p.2, by rw [← hk]⟩
theorem at_fst {G : List (List Nat × List Nat)} (h : G.map Prod.fst = F) {k : Nat} {p : List Nat × List Nat} (hk : G[k]? = some p) : F[k]? = some p.1 := by
  rw [← h, List.getElem?_map, hk]; rfl
theorem DlS.start : DlS m ts [List.replicate m 0] 0 0 := by
  refine ⟨[(List.replicate m 0, [])], fun _ => 0, 0, rfl, ?_, Nat.zero_le _⟩
  have := Bfs.start (stpT m ts) (List.replicate m 0)
  exact ⟨this.zero, this.par, this.mono, this.nodup, this.hU, fun p b σ w hp hb hh => this.all p b σ w hp hb (by
    rcases hh with hh | ⟨h0, hk⟩
    · exact .inl hh
    · omega)⟩
theorem DlS.run (h : DlS m ts F i b) {k : Nat} {σ : List Nat} (hk : F[k]? = some σ) : ∃ u, Byt u ∧ σ = stT m ts u := by
  obtain ⟨G, pc, U, hG, hb, -⟩ := h
  obtain ⟨u, hu⟩ := fst_at hG hk
  obtain ⟨e, hB⟩ := hb.run (stT_nil m ts) (stpT_run m ts) k σ u hu
  exact ⟨u, hB, e⟩
theorem DlS.zero (h : DlS m ts F i b) : F[0]? = some (List.replicate m 0) := by
  obtain ⟨G, pc, U, hG, hb, -⟩ := h
  exact at_fst hG hb.zero
theorem DlS.old (h : DlS m ts F i b) {σ : List Nat} (hi : F[i]? = some σ) (hb : b < 256) {k : Nat} (hk : F[k]? = some (stpT m ts σ b)) : DlS m ts F i (b + 1) := by
  obtain ⟨G, pc, U, hG, hB, hU⟩ := h
  obtain ⟨u, hu⟩ := fst_at hG hi
  obtain ⟨w, hw⟩ := fst_at hG hk
  exact ⟨G, pc, _, hG, hB.old hu hb hU ⟨k, w, hw⟩ (fun b' _ hb' => by
    by_cases e : b' = b
    · exact .inr ⟨by omega, by rw [e]⟩
    · exact .inl (by omega)), by omega⟩
theorem DlS.new (h : DlS m ts F i b) {σ : List Nat} (hi : F[i]? = some σ) (hb : b < 256) (hk : ∀ k : Nat, F[k]? ≠ some (stpT m ts σ b)) : DlS m ts (F ++ [stpT m ts σ b]) i (b + 1) := by
  obtain ⟨G, pc, U, hG, hB, hU⟩ := h
  obtain ⟨u, hu⟩ := fst_at hG hi
  refine ⟨_, _, _, ?_, hB.new hu hb hU (fun k w hw => hk k (at_fst hG hw)) (fun b' _ hb' => by
    by_cases e : b' = b
    · exact .inr ⟨by omega, by rw [e]⟩
    · exact .inl (by omega)), by omega⟩
  rw [List.map_append, hG]; rfl
theorem DlS.row (h : DlS m ts F i 256) : DlS m ts F (i + 1) 0 := by
  obtain ⟨G, pc, U, hG, hB, hU⟩ := h
  have := hB.row (fun b hb => hb)
  exact ⟨G, pc, _, hG, ⟨this.zero, this.par, this.mono, this.nodup, this.hU, fun p b σ w hp hb hh => this.all p b σ w hp hb (by
    rcases hh with hh | ⟨h0, hk⟩
    · exact .inl hh
    · omega)⟩, by omega⟩
theorem DlS.many (h : DlS m ts F i b) (hl : 256 < F.length) : Many (stT m ts) := by
  obtain ⟨G, pc, U, hG, hB, hU⟩ := h
  exact hB.many (stT_nil m ts) (stpT_run m ts) (by rw [← hG, List.length_map] at hl; exact hl)
theorem DlS.few (h : DlS m ts F F.length 0) (hl : F.length ≤ 256) : ¬ Many (stT m ts) := by
  obtain ⟨G, pc, U, hG, hB, hU⟩ := h
  have e : G.length = F.length := by rw [← hG, List.length_map]
  exact hB.few (by rw [e]; exact Nat.le_refl _) (stT_nil m ts) (stpT_run m ts) (by rw [e]; exact hl)
theorem DlS.byt (h : DlS m ts F i b) (hok : ∀ i, i < m → (ts i).Ok) {k : Nat} {σ : List Nat} (hk : F[k]? = some σ) : σ.length = m ∧ ∀ j, j < m → σ.getD j 0 < (ts j).S := by
  obtain ⟨u, hu, rfl⟩ := h.run hk
  exact ⟨stT_len u, fun j hj => stT_lt hok hu hj⟩
end
/-- What is next, by number. -/
def RwOk (m : Nat) (ts : Nat → TabN) (F : List (List Nat)) (σ row : List Nat) : Prop := ∀ b, b < row.length → F[row.getD b 0]? = some (stpT m ts σ b)
def NxOk (m : Nat) (ts : Nat → TabN) (F : List (List Nat)) (Nx : List (List Nat)) : Prop := ∀ (k : Nat) row σ, Nx[k]? = some row → F[k]? = some σ → row.length = 256 ∧ RwOk m ts F σ row
section
variable {m : Nat} {ts : Nat → TabN} {F : List (List Nat)} {Nx : List (List Nat)} {σ row : List Nat}
theorem RwOk.nil : RwOk m ts F σ [] := fun b hb => by simp at hb
theorem RwOk.more (h : RwOk m ts F σ row) (t : List Nat) : RwOk m ts (F ++ [t]) σ row := fun b hb => snoc_left (h b hb)
theorem RwOk.snoc (h : RwOk m ts F σ row) {k : Nat} (hk : F[k]? = some (stpT m ts σ row.length)) : RwOk m ts F σ (row ++ [k]) := fun b hb => by
  rw [List.length_append] at hb
  by_cases e : b = row.length
  · subst e
    rw [List.getD_eq_getElem?_getD, snoc_at]; exact hk
  · have hl : b < row.length := by have : b < row.length + 1 := hb; omega
    rw [List.getD_eq_getElem?_getD, List.getElem?_append_left hl, ← List.getD_eq_getElem?_getD]
    exact h b hl
theorem NxOk.nil : NxOk m ts F [] := fun k row σ h => by simp at h
theorem NxOk.more (h : NxOk m ts F Nx) (hl : Nx.length ≤ F.length) (t : List Nat) : NxOk m ts (F ++ [t]) Nx := fun k row σ hr hs => by
  have hk := (List.getElem?_eq_some_iff.1 hr).1
  rw [List.getElem?_append_left (by omega)] at hs
  obtain ⟨h1, h2⟩ := h k row σ hr hs
  exact ⟨h1, h2.more t⟩
theorem NxOk.snoc (h : NxOk m ts F Nx) (hs : F[Nx.length]? = some σ) (hl : row.length = 256) (hr : RwOk m ts F σ row) : NxOk m ts F (Nx ++ [row]) := fun k row' σ' hr' hs' => by
  rcases snoc_case hr' with h1 | ⟨rfl, rfl⟩
  · exact h k row' σ' h1 hs'
  · rw [hs] at hs'
    cases hs'
    exact ⟨hl, hr⟩
end

/-- Distances over numbered tuples. -/
def runI (nx : Nat → Nat → Nat) (k : Nat) (v : List Nat) : Nat := v.foldl nx k
structure NxB (n : Nat) (nx : Nat → Nat → Nat) : Prop where
  lt : ∀ k b, k < n → b < 256 → nx k b < n
theorem NxB.run {n : Nat} {nx : Nat → Nat → Nat} (h : NxB n nx) : ∀ (v : List Nat) (k : Nat), k < n → Byt v → runI nx k v < n
  | [], k, hk, _ => hk
  | b :: v, k, hk, hv => NxB.run h v (nx k b) (h.lt k b hk (hv b (by simp))) (fun x hx => hv x (by simp [hx]))
structure DsI (n : Nat) (nx : Nat → Nat → Nat) (wn : Nat → Bool) (d : List Nat) : Prop where
  len : d.length = n
  le : ∀ k, k < n → d.getD k 0 ≤ 1000000
  zero : ∀ k, k < n → wn k = true → d.getD k 0 = 0
  ach : ∀ k, k < n → d.getD k 0 < 1000000 → ∃ v, Byt v ∧ v.length = d.getD k 0 ∧ wn (runI nx k v) = true
def DsC (n : Nat) (nx : Nat → Nat → Nat) (d : List Nat) : Prop := ∀ k, k < n → ∀ b, b < 256 → d.getD k 0 ≤ d.getD (nx k b) 0 + 1
section
variable {n : Nat} {nx : Nat → Nat → Nat} {wn : Nat → Bool} {d s : List Nat} {a : Nat}
theorem getD_set {d : List Nat} {k x j : Nat} (hk : k < d.length) : (d.set k x).getD j 0 = if j = k then x else d.getD j 0 := by
  rw [List.getD_eq_getElem?_getD, List.getElem?_set]
  by_cases e : k = j
  · subst e
    rw [if_pos rfl, if_pos hk, if_pos rfl]; rfl
  · rw [if_neg e, if_neg (fun e' => e e'.symm), ← List.getD_eq_getElem?_getD]
theorem sum_set : ∀ (d : List Nat) (k x : Nat), k < d.length → (d.set k x).sum + d.getD k 0 = d.sum + x
  | [], k, x, h => by simp at h
  | y :: d, 0, x, _ => by simp; omega
  | y :: d, k + 1, x, h => by
    have ih := sum_set d k x (by simpa using h)
    have e : (y :: d).getD (k + 1) 0 = d.getD k 0 := rfl
    rw [e, List.set_cons_succ, List.sum_cons, List.sum_cons]
    omega
theorem DsI.set (h : DsI n nx wn d) (hN : NxB n nx) {k b : Nat} (hk : k < n) (hb : b < 256) (hlt : d.getD (nx k b) 0 + 1 < d.getD k 0) : DsI n nx wn (d.set k (d.getD (nx k b) 0 + 1)) ∧ (d.set k (d.getD (nx k b) 0 + 1)).sum < d.sum := by
  have hkl : k < d.length := by rw [h.len]; exact hk
  have hdk := h.le k hk
  refine ⟨⟨by rw [List.length_set]; exact h.len, fun j hj => ?_, fun j hj hw => ?_, fun j hj hlt' => ?_⟩, ?_⟩
  · rw [getD_set hkl]
    split
    · omega
    · exact h.le j hj
  · rw [getD_set hkl]
    split
    · rename_i e
      have := h.zero j hj hw
      rw [e] at this
      omega
    · exact h.zero j hj hw
  · rw [getD_set hkl] at hlt' ⊢
    by_cases e : j = k
    · subst e
      simp only [↓reduceIte] at hlt' ⊢
      obtain ⟨v, hv, hl, hw⟩ := h.ach (nx j b) (hN.lt j b hj hb) (by omega)
      refine ⟨b :: v, fun x hx => ?_, by simp [hl], hw⟩
      rcases List.mem_cons.1 hx with rfl | hx
      · exact hb
      · exact hv x hx
    · rw [if_neg e] at hlt' ⊢
      exact h.ach j hj hlt'
  · have := sum_set d k (d.getD (nx k b) 0 + 1) hkl
    omega
theorem DsI.least (h : DsI n nx wn d) (hN : NxB n nx) (hC : DsC n nx d) : ∀ (v : List Nat) (k : Nat), k < n → Byt v → wn (runI nx k v) = true → d.getD k 0 ≤ v.length
  | [], k, hk, _, hw => by rw [h.zero k hk hw]; exact Nat.le_refl _
  | b :: v, k, hk, hv, hw => by
    have hb := hv b (by simp)
    have := DsI.least h hN hC v (nx k b) (hN.lt k b hk hb) (fun x hx => hv x (by simp [hx])) hw
    have := hC k hk b hb
    simp only [List.length_cons]
    omega
theorem fold_lt : ∀ (xs ys : List Nat) (n m : Nat), xs.length = ys.length → Byt xs → n < m → xs.foldl (fun n b => n * 256 + b + 1) n < ys.foldl (fun n b => n * 256 + b + 1) m
  | [], [], n, m, _, _, h => h
  | [], _ :: _, _, _, hl, _, _ => by simp at hl
  | _ :: _, [], _, _, hl, _, _ => by simp at hl
  | x :: xs, y :: ys, n, m, hl, hb, h => by
    have hx := hb x (by simp)
    exact fold_lt xs ys _ _ (by simpa using hl) (fun b hb' => hb b (by simp [hb'])) (by show n * 256 + x + 1 < m * 256 + y + 1; omega)
/-- The first string, in the making. -/
structure GrI (n : Nat) (nx : Nat → Nat → Nat) (wn : Nat → Bool) (d : List Nat) (s : List Nat) (a : Nat) : Prop where
  lt : a < n
  byt : Byt s
  run : runI nx 0 s = a
  len : s.length + d.getD a 0 = d.getD 0 0
  cmp : ∀ v, Byt v → v.length = d.getD 0 0 → wn (runI nx 0 v) = true → (∃ v', v = s ++ v') ∨ ∀ t, t.length = d.getD a 0 → Byt t → nv (s ++ t) < nv v
theorem GrI.start (h0 : 0 < n) : GrI n nx wn d [] 0 := ⟨h0, Byt.nil, rfl, by simp, fun v _ _ _ => .inl ⟨v, rfl⟩⟩
theorem runI_app (nx : Nat → Nat → Nat) (k : Nat) (u v : List Nat) : runI nx k (u ++ v) = runI nx (runI nx k u) v := by unfold runI; rw [List.foldl_append]
theorem GrI.some (h : GrI n nx wn d s a) (hN : NxB n nx) (hD : DsI n nx wn d) (hC : DsC n nx d) (hp : 0 < d.getD a 0) (hf : d.getD a 0 < 1000000) : ∃ b, b < 256 ∧ d.getD (nx a b) 0 + 1 = d.getD a 0 := by
  obtain ⟨v, hv, hl, hw⟩ := hD.ach a h.lt hf
  cases v with
  | nil => rw [List.length_nil] at hl; omega
  | cons b v =>
    have hb := hv b (by simp)
    have h1 := hD.least hN hC v (nx a b) (hN.lt a b h.lt hb) (fun x hx => hv x (by simp [hx])) hw
    have h2 := hC a h.lt b hb
    simp only [List.length_cons] at hl
    exact ⟨b, hb, by omega⟩
theorem GrI.step (h : GrI n nx wn d s a) (hN : NxB n nx) (hD : DsI n nx wn d) (hC : DsC n nx d) {b : Nat} (hb : b < 256) (he : d.getD (nx a b) 0 + 1 = d.getD a 0) (hmin : ∀ c, c < b → d.getD (nx a c) 0 + 1 ≠ d.getD a 0) : GrI n nx wn d (s ++ [b]) (nx a b) := by
  have hlen := h.len
  refine ⟨hN.lt a b h.lt hb, h.byt.snoc hb, by rw [runI_app, h.run]; rfl, by rw [List.length_append]; show s.length + 1 + _ = _; omega, fun v hv hl hw => ?_⟩
  rcases h.cmp v hv hl hw with ⟨v', rfl⟩ | hlt
  · rw [List.length_append] at hl
    cases v' with
    | nil => rw [List.length_nil] at hl; omega
    | cons c v'' =>
      have hc : c < 256 := hv c (by simp)
      have hv'' : Byt v'' := fun x hx => hv x (by simp [hx])
      simp only [List.length_cons] at hl
      rw [runI_app, h.run] at hw
      have h1 := hD.least hN hC v'' (nx a c) (hN.lt a c h.lt hc) hv'' hw
      have h2 := hC a h.lt c hc
      have h3 : ¬ c < b := fun hcb => hmin c hcb (by omega)
      by_cases e : c = b
      · subst e
        exact .inl ⟨v'', by simp⟩
      · refine .inr fun t ht hbt => ?_
        have : nv (s ++ (b :: t)) < nv (s ++ (c :: v'')) := by
          unfold nv
          rw [List.foldl_append, List.foldl_append, List.foldl_cons, List.foldl_cons]
          exact fold_lt t v'' _ _ (by omega) hbt (by omega)
        simpa using this
  · refine .inr fun t ht hbt => ?_
    have := hlt (b :: t) (by rw [List.length_cons]; omega) (fun x hx => by
      rcases List.mem_cons.1 hx with rfl | hx
      · exact hb
      · exact hbt x hx)
    simpa using this
theorem GrI.last (h : GrI n nx wn d s a) (hN : NxB n nx) (hD : DsI n nx wn d) (hC : DsC n nx d) (h0 : d.getD a 0 = 0) (hn : 0 < n) : wn (runI nx 0 s) = true ∧ s.length = d.getD 0 0 ∧ ∀ v, Byt v → wn (runI nx 0 v) = true → nv s ≤ nv v := by
  have hlen := h.len
  obtain ⟨v, hv, hl, hw⟩ := hD.ach a h.lt (by omega)
  have hv0 : v = [] := List.length_eq_zero_iff.1 (by omega)
  subst hv0
  refine ⟨by rw [h.run]; exact hw, by omega, fun v hv hw => ?_⟩
  have h1 := hD.least hN hC v 0 hn hv hw
  by_cases e : v.length = d.getD 0 0
  · rcases h.cmp v hv e hw with ⟨v', rfl⟩ | hlt
    · rw [List.length_append] at e
      have : v' = [] := List.length_eq_zero_iff.1 (by omega)
      subst this
      simp
    · have := hlt [] (by rw [h0]; rfl) Byt.nil
      rw [List.append_nil] at this
      omega
  · have := nv_len v s h.byt hv (by omega)
    omega
end
/-- The numbers of the tuples. -/
def nxF (Nx : List (List Nat)) (k b : Nat) : Nat := (Nx.getD k []).getD b 0
theorem nxF_at {m : Nat} {ts : Nat → TabN} {F Nx : List (List Nat)} (h : NxOk m ts F Nx) (hl : Nx.length = F.length) {k b : Nat} (hk : k < F.length) (hb : b < 256) : ∃ σ row, F[k]? = some σ ∧ Nx[k]? = some row ∧ row.length = 256 ∧ nxF Nx k b = row.getD b 0 ∧ F[row.getD b 0]? = some (stpT m ts σ b) := by
  have h1 := List.getElem?_eq_getElem hk
  have h2 := List.getElem?_eq_getElem (show k < Nx.length by omega)
  obtain ⟨hr, hok⟩ := h k _ _ h2 h1
  exact ⟨_, _, h1, h2, hr, by unfold nxF; rw [List.getD_eq_getElem?_getD (l := Nx), h2]; rfl, hok b (by omega)⟩
theorem nxB_of {m : Nat} {ts : Nat → TabN} {F Nx : List (List Nat)} (h : NxOk m ts F Nx) (hl : Nx.length = F.length) : NxB F.length (nxF Nx) := ⟨fun k b hk hb => by
  obtain ⟨σ, row, h1, h2, h3, h4, h5⟩ := nxF_at h hl hk hb
  rw [h4]
  exact (List.getElem?_eq_some_iff.1 h5).1⟩
theorem runF {m : Nat} {ts : Nat → TabN} {F Nx : List (List Nat)} (h : NxOk m ts F Nx) (hl : Nx.length = F.length) (h0 : F[0]? = some (List.replicate m 0)) : ∀ v, Byt v → F[runI (nxF Nx) 0 v]? = some (stT m ts v) := by
  refine snocInd (fun _ => by rw [stT_nil]; exact h0) (fun u b ih hv => ?_)
  have hu := ih hv.front
  have hlt := (List.getElem?_eq_some_iff.1 hu).1
  obtain ⟨σ, row, h1, h2, h3, h4, h5⟩ := nxF_at h hl hlt hv.last
  rw [hu] at h1
  cases h1
  rw [runI_app]
  show F[nxF Nx (runI (nxF Nx) 0 u) b]? = _
  rw [h4, h5, stpT_run]
/-- Both answers are one. -/
theorem dif_wit {P : List Nat → Bool} {M : Prop} {e e' : Ending} (h : DifA P M e) (h' : WitA 256 P M e') : e' = e := by
  rcases h with ⟨hM, rfl⟩ | ⟨hM, u, hu, hl, hp, hmin, rfl⟩ | ⟨hM, hno, rfl⟩
  · exact h'.big hM
  · exact h'.some hM hu (by omega) hp hmin
  · exact h'.nil hM (fun v hv _ => hno v hv)
theorem wit_wit {N : Nat} {P : List Nat → Bool} {M : Prop} {e e' : Ending} (h : WitA N P M e) (h' : WitA N P M e') : e' = e := by
  rcases h with ⟨hM, rfl⟩ | ⟨hM, u, hu, hl, hp, hmin, rfl⟩ | ⟨hM, hno, rfl⟩
  · exact h'.big hM
  · exact h'.some hM hu hl hp hmin
  · exact h'.nil hM hno

end Mc
end Go.Proofs.Ytlafngfoejngaaa
