/-
  The document's tuples (veilref.Reach): rows of rows in memory.
  The document's search: what it finds; distances; the first string by them. (Mathematics.)
-/
import Derived.Test.YtnkdbcicphnmiaaJm
import Derived.Test.YtnkdbcicphnmiaaQk
namespace Go.Proofs.Ytnkdbcicphnmiaa
namespace Mc
open Go.RowKit

/-- The blocks hold no rows of numbers. -/
def NoI (w : World) (S : List Nat) : Prop := ∀ q ∈ S, ∀ cs ty fr, w.heap[q]? = some (.cells cs ty fr) → ty ≠ 3
theorem NR.fr {w w' : World} {B : Nat} {v : Value} {r : List Nat} {S : List Nat} (h : NR w B v r) (f : Fr S w w') (hS : NoI w S) : NR w' B v r := f.own h (fun q hq hm => by
  obtain ⟨cs, hc⟩ := own_ty h hq
  exact hS q hm _ _ _ hc rfl)
theorem own_ne_ty {w : World} {B B' e e' z z' : Nat} {v v' : Value} {n n' : Nat} {xs xs' : List Value} (h : w.ownsRow B e z v n xs) (h' : w.ownsRow B' e' z' v' n' xs') (hne : e ≠ e') : ∀ q, v.ownBlock = some q → v'.ownBlock ≠ some q := fun q hq hq' => by
  obtain ⟨cs, hc⟩ := own_ty h hq
  obtain ⟨cs', hc'⟩ := own_ty h' hq'
  rw [hc] at hc'
  simp at hc'
  exact hne hc'.2
/-- Values that are rows of numbers. -/
structure Rws (w : World) (B : Nat) (us : List Value) (F : List (List Nat)) : Prop where
  len : us.length = F.length
  row : ∀ (k : Nat) u r, us[k]? = some u → F[k]? = some r → NR w B u r
section
variable {w w' : World} {B : Nat} {us : List Value} {F : List (List Nat)}
theorem Rws.nil : Rws w B [] [] := ⟨rfl, fun k u r h => by simp at h⟩
theorem Rws.at (h : Rws w B us F) {k : Nat} {r : List Nat} (hk : F[k]? = some r) : ∃ u, us[k]? = some u ∧ NR w B u r := by
  have hl := (List.getElem?_eq_some_iff.1 hk).1
  have hu := List.getElem?_eq_getElem (show k < us.length by rw [h.len]; exact hl)
  exact ⟨_, hu, h.row k _ r hu hk⟩
theorem Rws.mem (h : Rws w B us F) {u : Value} (hu : u ∈ us) : ∃ r, NR w B u r := by
  obtain ⟨k, hk⟩ := List.getElem?_of_mem hu
  have hl := (List.getElem?_eq_some_iff.1 hk).1
  have hr := List.getElem?_eq_getElem (show k < F.length by rw [← h.len]; exact hl)
  exact ⟨_, h.row k u _ hk hr⟩
theorem Rws.keep (h : Rws w B us F) {S : List Nat} (f : Fr S w w') (hs : ∀ u ∈ us, ∀ q, u.ownBlock = some q → q ∉ S) : Rws w' B us F := ⟨h.len, fun k u r hu hr => f.own (h.row k u r hu hr) (hs u (List.mem_of_getElem? hu))⟩
theorem Rws.fr (h : Rws w B us F) {S : List Nat} (f : Fr S w w') (hS : NoI w S) : Rws w' B us F := ⟨h.len, fun k u r hu hr => (h.row k u r hu hr).fr f hS⟩
theorem Rws.snoc (h : Rws w B us F) {u : Value} {r : List Nat} (hu : NR w B u r) : Rws w B (us ++ [u]) (F ++ [r]) := by
  refine ⟨by simp [h.len], fun k u' r' hu' hr' => ?_⟩
  rcases snoc_case hu' with h1 | ⟨rfl, rfl⟩
  · rcases snoc_case hr' with h2 | ⟨rfl, rfl⟩
    · exact h.row k u' r' h1 h2
    · have := (List.getElem?_eq_some_iff.1 h1).1; have := h.len; omega
  · rcases snoc_case hr' with h2 | ⟨-, rfl⟩
    · have := (List.getElem?_eq_some_iff.1 h2).1; have := h.len; omega
    · exact hu
end
/-- A row lies apart from others. -/
def Sep (v : Value) (us : List Value) : Prop := ∀ u ∈ us, ∀ q, u.ownBlock = some q → v.ownBlock ≠ some q
theorem Sep.nil (us : List Value) : Sep (.slice none 0 0) us := fun u _ q _ h => by simp [Value.ownBlock] at h
theorem Sep.fresh {w : World} {B : Nat} {us : List Value} {F : List (List Nat)} (h : Rws w B us F) {v : Value} (hv : ∀ q, v.ownBlock = some q → w.heap.size ≤ q) : Sep v us := fun u hu q hq hq' => by
  obtain ⟨r, hr⟩ := h.mem hu
  have := (World.ownsRow.lt hr q hq).2
  have := hv q hq'
  omega
theorem Sep.grow {w : World} {B : Nat} {us : List Value} {F : List (List Nat)} (h : Rws w B us F) {v : Value} (hs : Sep v us) {g n cap : Nat} (hl : v.ownBlock = some g ∨ g = w.heap.size) : Sep (.slice (some ⟨g, 0, none⟩) n cap) us := fun u hu q hq hq' => by
  have e : g = q := by simpa [Value.ownBlock] using hq'
  subst e
  rcases hl with hl | hl
  · exact hs u hu g hq hl
  · obtain ⟨r, hr⟩ := h.mem hu
    have := (World.ownsRow.lt hr g hq).2
    omega
theorem Sep.snoc {v : Value} {us : List Value} (h : Sep v us) {u : Value} (hu : ∀ q, u.ownBlock = some q → v.ownBlock ≠ some q) : Sep v (us ++ [u]) := fun x hx q hq => by
  rcases List.mem_append.1 hx with hx | hx
  · exact h x hx q hq
  · rw [List.mem_singleton.1 hx] at hq; exact hu q hq
/-- The search in memory: its block, the row of tuples, the row of what is next. -/
structure ReI (w : World) (gr : Nat) (wr : World) (tv : Value) (fa : Option Addr) (fc : Nat) (F : List (List Nat)) (us : List Value) (na : Option Addr) (nc : Nat) (Nx : List (List Nat)) (ns : List Value) : Prop where
  fr : Fr [gr] w wr
  hg : gr < w.heap.size
  im : wr.heap[gr]? = some (.cells #[tv, .slice fa F.length fc, .slice na Nx.length nc] 90 (0, 0))
  fo : wr.ownsRow w.heap.size 23 1 (.slice fa F.length fc) F.length us
  no : wr.ownsRow w.heap.size 23 1 (.slice na Nx.length nc) Nx.length ns
  ne : ∀ q, (Value.slice fa F.length fc).ownBlock = some q → (Value.slice na Nx.length nc).ownBlock ≠ some q
  tr : Rws wr w.heap.size us F
  nr : Rws wr w.heap.size ns Nx
section
variable {w wr w2 : World} {gr : Nat} {tv : Value} {fa : Option Addr} {fc : Nat} {F : List (List Nat)} {us : List Value} {na : Option Addr} {nc : Nat} {Nx : List (List Nat)} {ns : List Value}
theorem ReI.start (h : w.heap[gr]? = some (.cells #[tv, .slice none 0 0, .slice none 0 0] 90 (0, 0))) : ReI w gr w tv none 0 [] [] none 0 [] [] :=
  ⟨Fr.refl _ _, (Array.getElem?_eq_some_iff.1 h).1, h, World.ownsRow_nil _ _ _ _, World.ownsRow_nil _ _ _ _, fun q hq => by simp [Value.ownBlock] at hq, Rws.nil, Rws.nil⟩
theorem ReI.le (h : ReI w gr wr tv fa fc F us na nc Nx ns) : w.heap.size ≤ wr.heap.size := h.fr.size
theorem ReI.lt (h : ReI w gr wr tv fa fc F us na nc Nx ns) : gr < wr.heap.size := (Array.getElem?_eq_some_iff.1 h.im).1
theorem ReI.c0 (h : ReI w gr wr tv fa fc F us na nc Nx ns) : wr.cell? ⟨gr, 0, none⟩ = some tv := by rw [cell_of_row _ _ _ _ _ _ h.im]; rfl
theorem ReI.c1 (h : ReI w gr wr tv fa fc F us na nc Nx ns) : wr.cell? ⟨gr, 1, none⟩ = some (.slice fa F.length fc) := by rw [cell_of_row _ _ _ _ _ _ h.im]; rfl
theorem ReI.c2 (h : ReI w gr wr tv fa fc F us na nc Nx ns) : wr.cell? ⟨gr, 2, none⟩ = some (.slice na Nx.length nc) := by rw [cell_of_row _ _ _ _ _ _ h.im]; rfl
theorem ReI.keep (h : ReI w gr wr tv fa fc F us na nc Nx ns) {S : List Nat} (f : Fr S wr w2) (hS : ∀ x ∈ S, w.heap.size ≤ x) (h1 : ∀ q, (Value.slice fa F.length fc).ownBlock = some q → q ∉ S) (h2 : ∀ q, (Value.slice na Nx.length nc).ownBlock = some q → q ∉ S) (h3 : ∀ u ∈ us, ∀ q, u.ownBlock = some q → q ∉ S) (h4 : ∀ u ∈ ns, ∀ q, u.ownBlock = some q → q ∉ S) : ReI w gr w2 tv fa fc F us na nc Nx ns :=
  ⟨h.fr.and f (fun x hx => .inr (hS x hx)), h.hg, f.at h.im (fun hm => by have := hS _ hm; have := h.hg; omega), f.own h.fo h1, f.own h.no h2, h.ne, h.tr.keep f h3, h.nr.keep f h4⟩
theorem ReI.next (h : ReI w gr wr tv fa fc F us na nc Nx ns) (hb : Below wr.heap.size wr w2) : ReI w gr w2 tv fa fc F us na nc Nx ns := h.keep (Fr.ofBelow hb) (by simp) (by simp) (by simp) (by simp) (by simp)
theorem ReI.alloc (h : ReI w gr wr tv fa fc F us na nc Nx ns) (o : Obj) : ReI w gr (wr.alloc o) tv fa fc F us na nc Nx ns := h.next ((Below.refl _ _).alloc (Nat.le_refl _) _)
theorem ReI.drewN (h : ReI w gr wr tv fa fc F us na nc Nx ns) (n : Nat) : ReI w gr (wr.drewN n) tv fa fc F us na nc Nx ns := h.keep (S := []) ((Fr.refl _ _).drewN n) (by simp) (by simp) (by simp) (by simp) (by simp)
/-- A row of numbers grows that lies apart. -/
theorem ReI.grow (h : ReI w gr wr tv fa fc F us na nc Nx ns) {B : Nat} {v : Value} {r : List Nat} (hv : NR wr B v r) (hB : w.heap.size ≤ B) (hs : Sep v us) (hs' : Sep v ns) (hgrow : wr.grownBy w2 v.ownBlock) : ReI w gr w2 tv fa fc F us na nc Nx ns :=
  h.keep (Fr.ofGrown hgrow) (fun x hx => by have := (World.ownsRow.lt hv x (Option.mem_toList.1 hx)).1; omega)
    (fun q hq hm => own_ne_ty h.fo hv (by decide) q hq (Option.mem_toList.1 hm)) (fun q hq hm => own_ne_ty h.no hv (by decide) q hq (Option.mem_toList.1 hm))
    (fun u hu q hq hm => hs u hu q hq (Option.mem_toList.1 hm)) (fun u hu q hq hm => hs' u hu q hq (Option.mem_toList.1 hm))
theorem ReI.noI1 (h : ReI w gr wr tv fa fc F us na nc Nx ns) : NoI wr (Value.slice fa F.length fc).ownBlock.toList := fun q hq cs ty fr hc => by
  obtain ⟨cs', hc'⟩ := own_ty h.fo (Option.mem_toList.1 hq)
  rw [hc] at hc'
  simp at hc'
  rw [hc'.2.1]; decide
theorem ReI.noI2 (h : ReI w gr wr tv fa fc F us na nc Nx ns) : NoI wr (Value.slice na Nx.length nc).ownBlock.toList := fun q hq cs ty fr hc => by
  obtain ⟨cs', hc'⟩ := own_ty h.no (Option.mem_toList.1 hq)
  rw [hc] at hc'
  simp at hc'
  rw [hc'.2.1]; decide
theorem noI_gr {g : Nat} {cs : Array Value} (h : w.heap[g]? = some (.cells cs 90 (0, 0))) : NoI w [g] := fun q hq cs' ty fr hc => by
  rw [List.mem_singleton.1 hq, h] at hc
  simp at hc
  rw [← hc.2.1]; decide
/-- A tuple is put behind the others. -/
theorem ReI.push1 (h : ReI w gr wr tv fa fc F us na nc Nx ns) {g cap : Nat} {u : Value} {t : List Nat} (hu : NR wr w.heap.size u t) (hgrow : wr.grownBy w2 (.slice fa F.length fc : Value).ownBlock) (ho : w2.ownsRow w.heap.size 23 1 (.slice (some ⟨g, 0, none⟩) (F.length + 1) cap) (F.length + 1) (us ++ [u])) (hl : (Value.slice fa F.length fc).ownBlock = some g ∨ g = wr.heap.size) :
    w2.cell? ⟨gr, 1, none⟩ = some (.slice fa F.length fc) ∧ w2.frozen? ⟨gr, 1, none⟩ = false ∧ gr < w2.heap.size ∧ ReI w gr (w2.setCell ⟨gr, 1, none⟩ (.slice (some ⟨g, 0, none⟩) (F.length + 1) cap)) tv (some ⟨g, 0, none⟩) cap (F ++ [t]) (us ++ [u]) na nc Nx ns ∧ Fr (gr :: (Value.slice fa F.length fc).ownBlock.toList) wr (w2.setCell ⟨gr, 1, none⟩ (.slice (some ⟨g, 0, none⟩) (F.length + 1) cap)) := by
  have e2 := own_off h.fo h.im (by decide)
  have g2 : w2.heap[gr]? = _ := (Fr.ofGrown hgrow).at h.im (fun hm => e2 _ (Option.mem_toList.1 hm) rfl)
  have hlen : (F ++ [t]).length = F.length + 1 := by simp
  have hn2 : NoI w2 [gr] := noI_gr g2
  have hno : w2.ownsRow w.heap.size 23 1 (.slice na Nx.length nc) Nx.length ns := (Fr.ofGrown hgrow).own h.no (fun q hq hm => h.ne q (Option.mem_toList.1 hm) hq)
  refine ⟨by rw [cell_of_row _ _ _ _ _ _ g2]; rfl, frozen_of_row _ _ _ _ _ g2, (Array.getElem?_eq_some_iff.1 g2).1, ⟨?_, h.hg, ?_, ?_, ?_, ?_, ?_, ?_⟩, ?_⟩
  · exact (h.fr.grown hgrow (fun k hk => .inr (h.fo.lt k hk).1)).set (.inl (by simp)) _ _
  · rw [heap_setCell_same _ _ _ _ _ _ g2, hlen]; rfl
  · rw [hlen]; exact (Fr.ofSet _ _ _ _).own ho (fun q hq => by simpa using own_off ho g2 (by decide) q hq)
  · exact (Fr.ofSet _ _ _ _).own hno (fun q hq => by simpa using own_off hno g2 (by decide) q hq)
  · intro q hq hq'
    have e : g = q := by rw [hlen] at hq; simpa [Value.ownBlock] using hq
    subst e
    rcases hl with hl | hl
    · exact h.ne g hl hq'
    · have := (h.no.lt g hq').2; omega
  · exact ((h.tr.fr (Fr.ofGrown hgrow) h.noI1).snoc (hu.fr (Fr.ofGrown hgrow) h.noI1)).fr (Fr.ofSet _ _ _ _) hn2
  · exact (h.nr.fr (Fr.ofGrown hgrow) h.noI1).fr (Fr.ofSet _ _ _ _) hn2
  · exact ((Fr.ofGrown hgrow).mono (fun x hx => List.mem_cons_of_mem _ hx)).set (.inl (by simp)) _ _
/-- A row of what is next is put behind the others. -/
theorem ReI.push2 (h : ReI w gr wr tv fa fc F us na nc Nx ns) {g cap : Nat} {u : Value} {t : List Nat} (hu : NR wr w.heap.size u t) (hgrow : wr.grownBy w2 (.slice na Nx.length nc : Value).ownBlock) (ho : w2.ownsRow w.heap.size 23 1 (.slice (some ⟨g, 0, none⟩) (Nx.length + 1) cap) (Nx.length + 1) (ns ++ [u])) (hl : (Value.slice na Nx.length nc).ownBlock = some g ∨ g = wr.heap.size) :
    w2.cell? ⟨gr, 2, none⟩ = some (.slice na Nx.length nc) ∧ w2.frozen? ⟨gr, 2, none⟩ = false ∧ gr < w2.heap.size ∧ ReI w gr (w2.setCell ⟨gr, 2, none⟩ (.slice (some ⟨g, 0, none⟩) (Nx.length + 1) cap)) tv fa fc F us (some ⟨g, 0, none⟩) cap (Nx ++ [t]) (ns ++ [u]) := by
  have e2 := own_off h.no h.im (by decide)
  have g2 : w2.heap[gr]? = _ := (Fr.ofGrown hgrow).at h.im (fun hm => e2 _ (Option.mem_toList.1 hm) rfl)
  have hlen : (Nx ++ [t]).length = Nx.length + 1 := by simp
  have hn2 : NoI w2 [gr] := noI_gr g2
  have hfo : w2.ownsRow w.heap.size 23 1 (.slice fa F.length fc) F.length us := (Fr.ofGrown hgrow).own h.fo (fun q hq hm => h.ne q hq (Option.mem_toList.1 hm))
  refine ⟨by rw [cell_of_row _ _ _ _ _ _ g2]; rfl, frozen_of_row _ _ _ _ _ g2, (Array.getElem?_eq_some_iff.1 g2).1, ⟨?_, h.hg, ?_, ?_, ?_, ?_, ?_, ?_⟩⟩
  · exact (h.fr.grown hgrow (fun k hk => .inr (h.no.lt k hk).1)).set (.inl (by simp)) _ _
  · rw [heap_setCell_same _ _ _ _ _ _ g2, hlen]; rfl
  · exact (Fr.ofSet _ _ _ _).own hfo (fun q hq => by simpa using own_off hfo g2 (by decide) q hq)
  · rw [hlen]; exact (Fr.ofSet _ _ _ _).own ho (fun q hq => by simpa using own_off ho g2 (by decide) q hq)
  · intro q hq hq'
    have e : g = q := by rw [hlen] at hq'; simpa [Value.ownBlock] using hq'
    subst e
    rcases hl with hl | hl
    · exact h.ne g hq hl
    · have := (h.fo.lt g hq).2; omega
  · exact (h.tr.fr (Fr.ofGrown hgrow) h.noI2).fr (Fr.ofSet _ _ _ _) hn2
  · exact ((h.nr.fr (Fr.ofGrown hgrow) h.noI2).snoc (hu.fr (Fr.ofGrown hgrow) h.noI2)).fr (Fr.ofSet _ _ _ _) hn2
/-- A tuple, at its place. -/
theorem ReI.at1 (h : ReI w gr wr tv fa fc F us na nc Nx ns) {k : Nat} {r : List Nat} (hk : F[k]? = some r) : ∃ g u, fa = some ⟨g, 0, none⟩ ∧ g < wr.heap.size ∧ us[k]? = some u ∧ wr.cell? ⟨g, k, none⟩ = some u ∧ NR wr w.heap.size u r := by
  obtain ⟨u, hu, hr⟩ := h.tr.at hk
  have hl := (List.getElem?_eq_some_iff.1 hk).1
  obtain ⟨g, cap, he⟩ := own_form h.fo (by omega)
  have he' := he
  simp only [Value.slice.injEq, true_and] at he
  obtain ⟨rfl, rfl⟩ := he
  have := h.fo.cells (g := g) rfl k u hu
  rw [add0] at this
  exact ⟨g, u, rfl, (h.fo.lt g rfl).2, hu, this, hr⟩
theorem ReI.at2 (h : ReI w gr wr tv fa fc F us na nc Nx ns) {k : Nat} {r : List Nat} (hk : Nx[k]? = some r) : ∃ g u, na = some ⟨g, 0, none⟩ ∧ g < wr.heap.size ∧ ns[k]? = some u ∧ wr.cell? ⟨g, k, none⟩ = some u ∧ NR wr w.heap.size u r := by
  obtain ⟨u, hu, hr⟩ := h.nr.at hk
  have hl := (List.getElem?_eq_some_iff.1 hk).1
  obtain ⟨g, cap, he⟩ := own_form h.no (by omega)
  simp only [Value.slice.injEq, true_and] at he
  obtain ⟨rfl, rfl⟩ := he
  have := h.no.cells (g := g) rfl k u hu
  rw [add0] at this
  exact ⟨g, u, rfl, (h.no.lt g rfl).2, hu, this, hr⟩
end
theorem infoII : (Try.prog.info? 23).map (fun i => (i.zero, i.size, i.bytes)) = some (some (.slice none 0 0), 1, 24) := by kernel_rfl
/-- A row is appended to a row of rows. -/
theorem appII {ops : Array Oper} {rest : List Oper} {o : Oper} {a : Act} {W : World} {Q : Exit → Act → World → Prop} (hgd : o.guard = none) (s x : Operand)
    (ho : o.op = .call { callee := .builtin .append, args := #[s, x], argTypes := #[72, 72] }) (B : Nat) (v : Value) (n : Nat) (us : List Value) (hs : a.eval s = v) (hown : W.ownsRow B 23 1 v n us) (g0 : Nat) (y : Value) (hy : y.oneCell' = true)
    (hx : a.eval x = .slice (some ⟨g0, 0, none⟩) 1 1) (hc : W.cell? ⟨g0, 0, none⟩ = some y) (hlen : n ≤ 1000) (hB : B ≤ W.heap.size) (H : Nat) (hH : W.heap.size = H)
    (h : ∀ g cap w', w'.ownsRow B 23 1 (.slice (some ⟨g, 0, none⟩) (n + 1) cap) (n + 1) (us ++ [y]) → W.grownBy w' v.ownBlock → (v.ownBlock = some g ∨ g = H) → g < w'.heap.size → wpList Try.prog ops Q rest (a.put o.dst (.slice (some ⟨g, 0, none⟩) (n + 1) cap)) w') : wpList Try.prog ops Q (o :: rest) a W := by
  obtain ⟨i, i0, i1, i2, i3⟩ := info_of infoII
  exact wpList_append_lies W hgd s x 72 ho B 23 i (.slice none 0 0) 1 24 Try.underlying72 i0 i1 i2 i3 rfl (by decide) v n us hs hown ⟨g0, 0, none⟩ 1 1 [y] hx rfl (one_cells hc) (by intro u hu; simp at hu; subst hu; exact hy) (by decide) (by unfold maxLen; omega) (by omega) hB H hH h

end Mc
end Go.Proofs.Ytnkdbcicphnmiaa
namespace Go.Proofs.Ytnkdbcicphnmiaa
namespace Mc

/-- The search of the document's tuples, at tuple i and byte b. -/
def DlS (m : Nat) (ts : Nat → TabN) (F : List (List Nat)) (i b : Nat) : Prop :=
  ∃ (G : List (List Nat × List Nat)) (pc : Nat → Nat) (U : Nat), G.map Prod.fst = F ∧ Bfs (stpT m ts) (List.replicate m 0) G pc i U (fun b' => b' < b) ∧ U ≤ i * 256 + b
section
variable {m : Nat} {ts : Nat → TabN} {F : List (List Nat)} {i b : Nat}
theorem fst_at {G : List (List Nat × List Nat)} (h : G.map Prod.fst = F) {k : Nat} {σ : List Nat} (hk : F[k]? = some σ) : ∃ u, G[k]? = some (σ, u) := by
  rw [← h, List.getElem?_map] at hk
  cases hg : G[k]? with
  | none => rw [hg] at hk; cases hk
  | some p =>
    rw [hg] at hk
    simp only [Option.map_some, Option.some.injEq] at hk
    exact ⟨p.2, by rw [← hk]⟩
theorem at_fst {G : List (List Nat × List Nat)} (h : G.map Prod.fst = F) {k : Nat} {p : List Nat × List Nat} (hk : G[k]? = some p) : F[k]? = some p.1 := by
  rw [← h, List.getElem?_map, hk]; rfl
theorem DlS.start : DlS m ts [List.replicate m 0] 0 0 := by
  refine ⟨[(List.replicate m 0, [])], fun _ => 0, 0, rfl, ?_, Nat.zero_le _⟩
  have := Bfs.start (stpT m ts) (List.replicate m 0)
  exact ⟨this.zero, this.par, this.mono, this.nodup, this.hU, fun p b σ w hp hb hh => this.all p b σ w hp hb (by
    rcases hh with hh | ⟨h0, hk⟩
    · exact .inl hh
    · omega)⟩
theorem DlS.run (h : DlS m ts F i b) {k : Nat} {σ : List Nat} (hk : F[k]? = some σ) : ∃ u, Byt u ∧ σ = stT m ts u := by
  obtain ⟨G, pc, U, hG, hb, -⟩ := h
  obtain ⟨u, hu⟩ := fst_at hG hk
  obtain ⟨e, hB⟩ := hb.run (stT_nil m ts) (stpT_run m ts) k σ u hu
  exact ⟨u, hB, e⟩
theorem DlS.zero (h : DlS m ts F i b) : F[0]? = some (List.replicate m 0) := by
  obtain ⟨G, pc, U, hG, hb, -⟩ := h
  exact at_fst hG hb.zero
theorem DlS.old (h : DlS m ts F i b) {σ : List Nat} (hi : F[i]? = some σ) (hb : b < 256) {k : Nat} (hk : F[k]? = some (stpT m ts σ b)) : DlS m ts F i (b + 1) := by
  obtain ⟨G, pc, U, hG, hB, hU⟩ := h
  obtain ⟨u, hu⟩ := fst_at hG hi
  obtain ⟨w, hw⟩ := fst_at hG hk
  exact ⟨G, pc, _, hG, hB.old hu hb hU ⟨k, w, hw⟩ (fun b' _ hb' => by
    by_cases e : b' = b
    · exact .inr ⟨by omega, by rw [e]⟩
    · exact .inl (by omega)), by omega⟩
theorem DlS.new (h : DlS m ts F i b) {σ : List Nat} (hi : F[i]? = some σ) (hb : b < 256) (hk : ∀ k : Nat, F[k]? ≠ some (stpT m ts σ b)) : DlS m ts (F ++ [stpT m ts σ b]) i (b + 1) := by
  obtain ⟨G, pc, U, hG, hB, hU⟩ := h
  obtain ⟨u, hu⟩ := fst_at hG hi
  refine ⟨_, _, _, ?_, hB.new hu hb hU (fun k w hw => hk k (at_fst hG hw)) (fun b' _ hb' => by
    by_cases e : b' = b
    · exact .inr ⟨by omega, by rw [e]⟩
    · exact .inl (by omega)), by omega⟩
  rw [List.map_append, hG]; rfl
theorem DlS.row (h : DlS m ts F i 256) : DlS m ts F (i + 1) 0 := by
  obtain ⟨G, pc, U, hG, hB, hU⟩ := h
  have := hB.row (fun b hb => hb)
  exact ⟨G, pc, _, hG, ⟨this.zero, this.par, this.mono, this.nodup, this.hU, fun p b σ w hp hb hh => this.all p b σ w hp hb (by
    rcases hh with hh | ⟨h0, hk⟩
    · exact .inl hh
    · omega)⟩, by omega⟩
theorem DlS.many (h : DlS m ts F i b) (hl : 256 < F.length) : Many (stT m ts) := by
  obtain ⟨G, pc, U, hG, hB, hU⟩ := h
  exact hB.many (stT_nil m ts) (stpT_run m ts) (by rw [← hG, List.length_map] at hl; exact hl)
theorem DlS.few (h : DlS m ts F F.length 0) (hl : F.length ≤ 256) : ¬ Many (stT m ts) := by
  obtain ⟨G, pc, U, hG, hB, hU⟩ := h
  have e : G.length = F.length := by rw [← hG, List.length_map]
  exact hB.few (by rw [e]; exact Nat.le_refl _) (stT_nil m ts) (stpT_run m ts) (by rw [e]; exact hl)
theorem DlS.byt (h : DlS m ts F i b) (hok : ∀ i, i < m → (ts i).Ok) {k : Nat} {σ : List Nat} (hk : F[k]? = some σ) : σ.length = m ∧ ∀ j, j < m → σ.getD j 0 < (ts j).S := by
  obtain ⟨u, hu, rfl⟩ := h.run hk
  exact ⟨stT_len u, fun j hj => stT_lt hok hu hj⟩
end
/-- What is next, by number. -/
def RwOk (m : Nat) (ts : Nat → TabN) (F : List (List Nat)) (σ row : List Nat) : Prop := ∀ b, b < row.length → F[row.getD b 0]? = some (stpT m ts σ b)
def NxOk (m : Nat) (ts : Nat → TabN) (F : List (List Nat)) (Nx : List (List Nat)) : Prop := ∀ (k : Nat) row σ, Nx[k]? = some row → F[k]? = some σ → row.length = 256 ∧ RwOk m ts F σ row
section
variable {m : Nat} {ts : Nat → TabN} {F : List (List Nat)} {Nx : List (List Nat)} {σ row : List Nat}
theorem RwOk.nil : RwOk m ts F σ [] := fun b hb => by simp at hb
theorem RwOk.more (h : RwOk m ts F σ row) (t : List Nat) : RwOk m ts (F ++ [t]) σ row := fun b hb => snoc_left (h b hb)
theorem RwOk.snoc (h : RwOk m ts F σ row) {k : Nat} (hk : F[k]? = some (stpT m ts σ row.length)) : RwOk m ts F σ (row ++ [k]) := fun b hb => by
  rw [List.length_append] at hb
  by_cases e : b = row.length
  · subst e
    rw [List.getD_eq_getElem?_getD, snoc_at]; exact hk
  · have hl : b < row.length := by have : b < row.length + 1 := hb; omega
    rw [List.getD_eq_getElem?_getD, List.getElem?_append_left hl, ← List.getD_eq_getElem?_getD]
    exact h b hl
theorem NxOk.nil : NxOk m ts F [] := fun k row σ h => by simp at h
theorem NxOk.more (h : NxOk m ts F Nx) (hl : Nx.length ≤ F.length) (t : List Nat) : NxOk m ts (F ++ [t]) Nx := fun k row σ hr hs => by
  have hk := (List.getElem?_eq_some_iff.1 hr).1
  rw [List.getElem?_append_left (by omega)] at hs
  obtain ⟨h1, h2⟩ := h k row σ hr hs
  exact ⟨h1, h2.more t⟩
theorem NxOk.snoc (h : NxOk m ts F Nx) (hs : F[Nx.length]? = some σ) (hl : row.length = 256) (hr : RwOk m ts F σ row) : NxOk m ts F (Nx ++ [row]) := fun k row' σ' hr' hs' => by
  rcases snoc_case hr' with h1 | ⟨rfl, rfl⟩
  · exact h k row' σ' h1 hs'
  · rw [hs] at hs'
    cases hs'
    exact ⟨hl, hr⟩
end

/-- Distances over numbered tuples. -/
def runI (nx : Nat → Nat → Nat) (k : Nat) (v : List Nat) : Nat := v.foldl nx k
structure NxB (n : Nat) (nx : Nat → Nat → Nat) : Prop where
  lt : ∀ k b, k < n → b < 256 → nx k b < n
theorem NxB.run {n : Nat} {nx : Nat → Nat → Nat} (h : NxB n nx) : ∀ (v : List Nat) (k : Nat), k < n → Byt v → runI nx k v < n
  | [], k, hk, _ => hk
  | b :: v, k, hk, hv => NxB.run h v (nx k b) (h.lt k b hk (hv b (by simp))) (fun x hx => hv x (by simp [hx]))
structure DsI (n : Nat) (nx : Nat → Nat → Nat) (wn : Nat → Bool) (d : List Nat) : Prop where
  len : d.length = n
  le : ∀ k, k < n → d.getD k 0 ≤ 1000000
  zero : ∀ k, k < n → wn k = true → d.getD k 0 = 0
  ach : ∀ k, k < n → d.getD k 0 < 1000000 → ∃ v, Byt v ∧ v.length = d.getD k 0 ∧ wn (runI nx k v) = true
def DsC (n : Nat) (nx : Nat → Nat → Nat) (d : List Nat) : Prop := ∀ k, k < n → ∀ b, b < 256 → d.getD k 0 ≤ d.getD (nx k b) 0 + 1
section
variable {n : Nat} {nx : Nat → Nat → Nat} {wn : Nat → Bool} {d s : List Nat} {a : Nat}
theorem getD_set {d : List Nat} {k x j : Nat} (hk : k < d.length) : (d.set k x).getD j 0 = if j = k then x else d.getD j 0 := by
  rw [List.getD_eq_getElem?_getD, List.getElem?_set]
  by_cases e : k = j
  · subst e
    rw [if_pos rfl, if_pos hk, if_pos rfl]; rfl
  · rw [if_neg e, if_neg (fun e' => e e'.symm), ← List.getD_eq_getElem?_getD]
theorem sum_set : ∀ (d : List Nat) (k x : Nat), k < d.length → (d.set k x).sum + d.getD k 0 = d.sum + x
  | [], k, x, h => by simp at h
  | y :: d, 0, x, _ => by simp; omega
  | y :: d, k + 1, x, h => by
    have ih := sum_set d k x (by simpa using h)
    have e : (y :: d).getD (k + 1) 0 = d.getD k 0 := rfl
    rw [e, List.set_cons_succ, List.sum_cons, List.sum_cons]
    omega
theorem DsI.set (h : DsI n nx wn d) (hN : NxB n nx) {k b : Nat} (hk : k < n) (hb : b < 256) (hlt : d.getD (nx k b) 0 + 1 < d.getD k 0) : DsI n nx wn (d.set k (d.getD (nx k b) 0 + 1)) ∧ (d.set k (d.getD (nx k b) 0 + 1)).sum < d.sum := by
  have hkl : k < d.length := by rw [h.len]; exact hk
  have hdk := h.le k hk
  refine ⟨⟨by rw [List.length_set]; exact h.len, fun j hj => ?_, fun j hj hw => ?_, fun j hj hlt' => ?_⟩, ?_⟩
  · rw [getD_set hkl]
    split
    · omega
    · exact h.le j hj
  · rw [getD_set hkl]
    split
    · rename_i e
      have := h.zero j hj hw
      rw [e] at this
      omega
    · exact h.zero j hj hw
  · rw [getD_set hkl] at hlt' ⊢
    by_cases e : j = k
    · subst e
      simp only [↓reduceIte] at hlt' ⊢
      obtain ⟨v, hv, hl, hw⟩ := h.ach (nx j b) (hN.lt j b hj hb) (by omega)
      refine ⟨b :: v, fun x hx => ?_, by simp [hl], hw⟩
      rcases List.mem_cons.1 hx with rfl | hx
      · exact hb
      · exact hv x hx
    · rw [if_neg e] at hlt' ⊢
      exact h.ach j hj hlt'
  · have := sum_set d k (d.getD (nx k b) 0 + 1) hkl
    omega
theorem DsI.least (h : DsI n nx wn d) (hN : NxB n nx) (hC : DsC n nx d) : ∀ (v : List Nat) (k : Nat), k < n → Byt v → wn (runI nx k v) = true → d.getD k 0 ≤ v.length
  | [], k, hk, _, hw => by rw [h.zero k hk hw]; exact Nat.le_refl _
  | b :: v, k, hk, hv, hw => by
    have hb := hv b (by simp)
    have := DsI.least h hN hC v (nx k b) (hN.lt k b hk hb) (fun x hx => hv x (by simp [hx])) hw
    have := hC k hk b hb
    simp only [List.length_cons]
    omega
theorem fold_lt : ∀ (xs ys : List Nat) (n m : Nat), xs.length = ys.length → Byt xs → n < m → xs.foldl (fun n b => n * 256 + b + 1) n < ys.foldl (fun n b => n * 256 + b + 1) m
  | [], [], n, m, _, _, h => h
  | [], _ :: _, _, _, hl, _, _ => by simp at hl
  | _ :: _, [], _, _, hl, _, _ => by simp at hl
  | x :: xs, y :: ys, n, m, hl, hb, h => by
    have hx := hb x (by simp)
    exact fold_lt xs ys _ _ (by simpa using hl) (fun b hb' => hb b (by simp [hb'])) (by show n * 256 + x + 1 < m * 256 + y + 1; omega)
/-- The first string, in the making. -/
structure GrI (n : Nat) (nx : Nat → Nat → Nat) (wn : Nat → Bool) (d : List Nat) (s : List Nat) (a : Nat) : Prop where
  lt : a < n
  byt : Byt s
  run : runI nx 0 s = a
  len : s.length + d.getD a 0 = d.getD 0 0
  cmp : ∀ v, Byt v → v.length = d.getD 0 0 → wn (runI nx 0 v) = true → (∃ v', v = s ++ v') ∨ ∀ t, t.length = d.getD a 0 → Byt t → nv (s ++ t) < nv v
theorem GrI.start (h0 : 0 < n) : GrI n nx wn d [] 0 := ⟨h0, Byt.nil, rfl, by simp, fun v _ _ _ => .inl ⟨v, rfl⟩⟩
theorem runI_app (nx : Nat → Nat → Nat) (k : Nat) (u v : List Nat) : runI nx k (u ++ v) = runI nx (runI nx k u) v := by unfold runI; rw [List.foldl_append]
theorem GrI.some (h : GrI n nx wn d s a) (hN : NxB n nx) (hD : DsI n nx wn d) (hC : DsC n nx d) (hp : 0 < d.getD a 0) (hf : d.getD a 0 < 1000000) : ∃ b, b < 256 ∧ d.getD (nx a b) 0 + 1 = d.getD a 0 := by
  obtain ⟨v, hv, hl, hw⟩ := hD.ach a h.lt hf
  cases v with
  | nil => rw [List.length_nil] at hl; omega
  | cons b v =>
    have hb := hv b (by simp)
    have h1 := hD.least hN hC v (nx a b) (hN.lt a b h.lt hb) (fun x hx => hv x (by simp [hx])) hw
    have h2 := hC a h.lt b hb
    simp only [List.length_cons] at hl
    exact ⟨b, hb, by omega⟩
theorem GrI.step (h : GrI n nx wn d s a) (hN : NxB n nx) (hD : DsI n nx wn d) (hC : DsC n nx d) {b : Nat} (hb : b < 256) (he : d.getD (nx a b) 0 + 1 = d.getD a 0) (hmin : ∀ c, c < b → d.getD (nx a c) 0 + 1 ≠ d.getD a 0) : GrI n nx wn d (s ++ [b]) (nx a b) := by
  have hlen := h.len
  refine ⟨hN.lt a b h.lt hb, h.byt.snoc hb, by rw [runI_app, h.run]; rfl, by rw [List.length_append]; show s.length + 1 + _ = _; omega, fun v hv hl hw => ?_⟩
  rcases h.cmp v hv hl hw with ⟨v', rfl⟩ | hlt
  · rw [List.length_append] at hl
    cases v' with
    | nil => rw [List.length_nil] at hl; omega
    | cons c v'' =>
      have hc : c < 256 := hv c (by simp)
      have hv'' : Byt v'' := fun x hx => hv x (by simp [hx])
      simp only [List.length_cons] at hl
      rw [runI_app, h.run] at hw
      have h1 := hD.least hN hC v'' (nx a c) (hN.lt a c h.lt hc) hv'' hw
      have h2 := hC a h.lt c hc
      have h3 : ¬ c < b := fun hcb => hmin c hcb (by omega)
      by_cases e : c = b
      · subst e
        exact .inl ⟨v'', by simp⟩
      · refine .inr fun t ht hbt => ?_
        have : nv (s ++ (b :: t)) < nv (s ++ (c :: v'')) := by
          unfold nv
          rw [List.foldl_append, List.foldl_append, List.foldl_cons, List.foldl_cons]
          exact fold_lt t v'' _ _ (by omega) hbt (by omega)
        simpa using this
  · refine .inr fun t ht hbt => ?_
    have := hlt (b :: t) (by rw [List.length_cons]; omega) (fun x hx => by
      rcases List.mem_cons.1 hx with rfl | hx
      · exact hb
      · exact hbt x hx)
    simpa using this
theorem GrI.last (h : GrI n nx wn d s a) (hN : NxB n nx) (hD : DsI n nx wn d) (hC : DsC n nx d) (h0 : d.getD a 0 = 0) (hn : 0 < n) : wn (runI nx 0 s) = true ∧ s.length = d.getD 0 0 ∧ ∀ v, Byt v → wn (runI nx 0 v) = true → nv s ≤ nv v := by
  have hlen := h.len
  obtain ⟨v, hv, hl, hw⟩ := hD.ach a h.lt (by omega)
  have hv0 : v = [] := List.length_eq_zero_iff.1 (by omega)
  subst hv0
  refine ⟨by rw [h.run]; exact hw, by omega, fun v hv hw => ?_⟩
  have h1 := hD.least hN hC v 0 hn hv hw
  by_cases e : v.length = d.getD 0 0
  · rcases h.cmp v hv e hw with ⟨v', rfl⟩ | hlt
    · rw [List.length_append] at e
      have : v' = [] := List.length_eq_zero_iff.1 (by omega)
      subst this
      simp
    · have := hlt [] (by rw [h0]; rfl) Byt.nil
      rw [List.append_nil] at this
      omega
  · have := nv_len v s h.byt hv (by omega)
    omega
end
/-- The numbers of the tuples. -/
def nxF (Nx : List (List Nat)) (k b : Nat) : Nat := (Nx.getD k []).getD b 0
theorem nxF_at {m : Nat} {ts : Nat → TabN} {F Nx : List (List Nat)} (h : NxOk m ts F Nx) (hl : Nx.length = F.length) {k b : Nat} (hk : k < F.length) (hb : b < 256) : ∃ σ row, F[k]? = some σ ∧ Nx[k]? = some row ∧ row.length = 256 ∧ nxF Nx k b = row.getD b 0 ∧ F[row.getD b 0]? = some (stpT m ts σ b) := by
  have h1 := List.getElem?_eq_getElem hk
  have h2 := List.getElem?_eq_getElem (show k < Nx.length by omega)
  obtain ⟨hr, hok⟩ := h k _ _ h2 h1
  exact ⟨_, _, h1, h2, hr, by unfold nxF; rw [List.getD_eq_getElem?_getD (l := Nx), h2]; rfl, hok b (by omega)⟩
theorem nxB_of {m : Nat} {ts : Nat → TabN} {F Nx : List (List Nat)} (h : NxOk m ts F Nx) (hl : Nx.length = F.length) : NxB F.length (nxF Nx) := ⟨fun k b hk hb => by
  obtain ⟨σ, row, h1, h2, h3, h4, h5⟩ := nxF_at h hl hk hb
  rw [h4]
  exact (List.getElem?_eq_some_iff.1 h5).1⟩
theorem runF {m : Nat} {ts : Nat → TabN} {F Nx : List (List Nat)} (h : NxOk m ts F Nx) (hl : Nx.length = F.length) (h0 : F[0]? = some (List.replicate m 0)) : ∀ v, Byt v → F[runI (nxF Nx) 0 v]? = some (stT m ts v) := by
  refine snocInd (fun _ => by rw [stT_nil]; exact h0) (fun u b ih hv => ?_)
  have hu := ih hv.front
  have hlt := (List.getElem?_eq_some_iff.1 hu).1
  obtain ⟨σ, row, h1, h2, h3, h4, h5⟩ := nxF_at h hl hlt hv.last
  rw [hu] at h1
  cases h1
  rw [runI_app]
  show F[nxF Nx (runI (nxF Nx) 0 u) b]? = _
  rw [h4, h5, stpT_run]
/-- Both answers are one. -/
theorem dif_wit {P : List Nat → Bool} {M : Prop} {e e' : Ending} (h : DifA P M e) (h' : WitA 256 P M e') : e' = e := by
  rcases h with ⟨hM, rfl⟩ | ⟨hM, u, hu, hl, hp, hmin, rfl⟩ | ⟨hM, hno, rfl⟩
  · exact h'.big hM
  · exact h'.some hM hu (by omega) hp hmin
  · exact h'.nil hM (fun v hv _ => hno v hv)
theorem wit_wit {N : Nat} {P : List Nat → Bool} {M : Prop} {e e' : Ending} (h : WitA N P M e) (h' : WitA N P M e') : e' = e := by
  rcases h with ⟨hM, rfl⟩ | ⟨hM, u, hu, hl, hp, hmin, rfl⟩ | ⟨hM, hno, rfl⟩
  · exact h'.big hM
  · exact h'.some hM hu hl hp hmin
  · exact h'.nil hM hno

end Mc
end Go.Proofs.Ytnkdbcicphnmiaa
