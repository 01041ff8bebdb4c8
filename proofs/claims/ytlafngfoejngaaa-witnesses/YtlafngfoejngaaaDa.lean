/-
  The document's tuples (veilref.Reach): rows of rows in memory.
-/
import Derived.Test.YtlafngfoejngaaaJm
import Derived.Test.YtlafngfoejngaaaQk
namespace Go.Proofs.Ytlafngfoejngaaa
namespace Mc
open Go.RowKit

/-- The blocks hold no rows of numbers. -/
def NoI (w : World) (S : List Nat) : Prop := ∀ q ∈ S, ∀ cs ty fr, w.heap[q]? = some (.cells cs ty fr) → ty ≠ 3
theorem NR.fr {w w' : World} {B : Nat} {v : Value} {r : List Nat} {S : List Nat} (h : NR w B v r) (f : Fr S w w') (hS : NoI w S) : NR w' B v r := f.own h (fun q hq hm => by
  obtain ⟨cs, hc⟩ := own_ty h hq
  exact hS q hm _ _ _ hc rfl)
theorem own_ne_ty {w : World} {B B' e e' z z' : Nat} {v v' : Value} {n n' : Nat} {xs xs' : List Value} (h : w.ownsRow B e z v n xs) (h' : w.ownsRow B' e' z' v' n' xs') (hne : e ≠ e') : ∀ q, v.ownBlock = some q → v'.ownBlock ≠ some q := fun q hq hq' => by
  obtain ⟨cs, hc⟩ := own_ty h hq
  obtain ⟨cs', hc'⟩ := own_ty h' hq'
  rw [hc] at hc'
  simp at hc'
  exact hne hc'.2
/-- Values that are rows of numbers. -/
structure Rws (w : World) (B : Nat) (us : List Value) (F : List (List Nat)) : Prop where
  len : us.length = F.length
  row : ∀ (k : Nat) u r, us[k]? = some u → F[k]? = some r → NR w B u r
section
variable {w w' : World} {B : Nat} {us : List Value} {F : List (List Nat)}
theorem Rws.nil : Rws w B [] [] := ⟨rfl, fun k u r h => by simp at h⟩
theorem Rws.at (h : Rws w B us F) {k : Nat} {r : List Nat} (hk : F[k]? = some r) : ∃ u, us[k]? = some u ∧ NR w B u r := by
  have hl := (List.getElem?_eq_some_iff.1 hk).1
  have hu := List.getElem?_eq_getElem (show k < us.length by rw [h.len]; exact hl)
  exact ⟨_, hu, h.row k _ r hu hk⟩
theorem Rws.mem (h : Rws w B us F) {u : Value} (hu : u ∈ us) : ∃ r, NR w B u r := by
  obtain ⟨k, hk⟩ := List.getElem?_of_mem hu
  have hl := (List.getElem?_eq_some_iff.1 hk).1
  have hr := List.getElem?_eq_getElem (show k < F.length by rw [← h.len]; exact hl)
  exact ⟨_, h.row k u _ hk hr⟩
theorem Rws.keep (h : Rws w B us F) {S : List Nat} (f : Fr S w w') (hs : ∀ u ∈ us, ∀ q, u.ownBlock = some q → q ∉ S) : Rws w' B us F := ⟨h.len, fun k u r hu hr => f.own (h.row k u r hu hr) (hs u (List.mem_of_getElem? hu))⟩
theorem Rws.fr (h : Rws w B us F) {S : List Nat} (f : Fr S w w') (hS : NoI w S) : Rws w' B us F := ⟨h.len, fun k u r hu hr => (h.row k u r hu hr).fr f hS⟩
theorem Rws.snoc (h : Rws w B us F) {u : Value} {r : List Nat} (hu : NR w B u r) : Rws w B (us ++ [u]) (F ++ [r]) := by
  refine ⟨by simp [h.len], fun k u' r' hu' hr' => ?_⟩
  rcases snoc_case hu' with h1 | ⟨rfl, rfl⟩
  · rcases snoc_case hr' with h2 | ⟨rfl, rfl⟩
    · exact h.row k u' r' h1 h2
    · have := (List.getElem?_eq_some_iff.1 h1).1; have := h.len; omega
  · rcases snoc_case hr' with h2 | ⟨-, rfl⟩
    · have := (List.getElem?_eq_some_iff.1 h2).1; have := h.len; omega
    · exact hu
end
/-- A row lies apart from others. -/
def Sep (v : Value) (us : List Value) : Prop := ∀ u ∈ us, ∀ q, u.ownBlock = some q → v.ownBlock ≠ some q
theorem Sep.nil (us : List Value) : Sep (.slice none 0 0) us := fun u _ q _ h => by simp [Value.ownBlock] at h
theorem Sep.fresh {w : World} {B : Nat} {us : List Value} {F : List (List Nat)} (h : Rws w B us F) {v : Value} (hv : ∀ q, v.ownBlock = some q → w.heap.size ≤ q) : Sep v us := fun u hu q hq hq' => by
  obtain ⟨r, hr⟩ := h.mem hu
  have := (World.ownsRow.lt hr q hq).2
  have := hv q hq'
  omega
theorem Sep.grow {w : World} {B : Nat} {us : List Value} {F : List (List Nat)} (h : Rws w B us F) {v : Value} (hs : Sep v us) {g n cap : Nat} (hl : v.ownBlock = some g ∨ g = w.heap.size) : Sep (.slice (some ⟨g, 0, none⟩) n cap) us := fun u hu q hq hq' => by
  have e : g = q := by simpa [Value.ownBlock] using hq'
  subst e
  rcases hl with hl | hl
  · exact hs u hu g hq hl
  · obtain ⟨r, hr⟩ := h.mem hu
    have := (World.ownsRow.lt hr g hq).2
    omega
theorem Sep.snoc {v : Value} {us : List Value} (h : Sep v us) {u : Value} (hu : ∀ q, u.ownBlock = some q → v.ownBlock ≠ some q) : Sep v (us ++ [u]) := fun x hx q hq => by
  rcases List.mem_append.1 hx with hx | hx
  · exact h x hx q hq
  · rw [List.mem_singleton.1 hx] at hq; exact hu q hq
/-- The search in memory: its block, the row of tuples, the row of what is next. -/
structure ReI (w : World) (gr : Nat) (wr : World) (tv : Value) (fa : Option Addr) (fc : Nat) (F : List (List Nat)) (us : List Value) (na : Option Addr) (nc : Nat) (Nx : List (List Nat)) (ns : List Value) : Prop where
  fr : Fr [gr] w wr
  hg : gr < w.heap.size
  im : wr.heap[gr]? = some (.cells #[tv, .slice fa F.length fc, .slice na Nx.length nc] 60 (0, 0))
  fo : wr.ownsRow w.heap.size 64 1 (.slice fa F.length fc) F.length us
  no : wr.ownsRow w.heap.size 64 1 (.slice na Nx.length nc) Nx.length ns
  ne : ∀ q, (Value.slice fa F.length fc).ownBlock = some q → (Value.slice na Nx.length nc).ownBlock ≠ some q
  tr : Rws wr w.heap.size us F
  nr : Rws wr w.heap.size ns Nx
section
variable {w wr w2 : World} {gr : Nat} {tv : Value} {fa : Option Addr} {fc : Nat} {F : List (List Nat)} {us : List Value} {na : Option Addr} {nc : Nat} {Nx : List (List Nat)} {ns : List Value}
theorem ReI.start (h : w.heap[gr]? = some (.cells #[tv, .slice none 0 0, .slice none 0 0] 60 (0, 0))) : ReI w gr w tv none 0 [] [] none 0 [] [] :=
  ⟨Fr.refl _ _, (Array.getElem?_eq_some_iff.1 h).1, h, World.ownsRow_nil _ _ _ _, World.ownsRow_nil _ _ _ _, fun q hq => by simp [Value.ownBlock] at hq, Rws.nil, Rws.nil⟩
theorem ReI.le (h : ReI w gr wr tv fa fc F us na nc Nx ns) : w.heap.size ≤ wr.heap.size := h.fr.size
theorem ReI.lt (h : ReI w gr wr tv fa fc F us na nc Nx ns) : gr < wr.heap.size := (Array.getElem?_eq_some_iff.1 h.im).1
theorem ReI.c0 (h : ReI w gr wr tv fa fc F us na nc Nx ns) : wr.cell? ⟨gr, 0, none⟩ = some tv := by rw [cell_of_row _ _ _ _ _ _ h.im]; rfl
theorem ReI.c1 (h : ReI w gr wr tv fa fc F us na nc Nx ns) : wr.cell? ⟨gr, 1, none⟩ = some (.slice fa F.length fc) := by rw [cell_of_row _ _ _ _ _ _ h.im]; rfl
theorem ReI.c2 (h : ReI w gr wr tv fa fc F us na nc Nx ns) : wr.cell? ⟨gr, 2, none⟩ = some (.slice na Nx.length nc) := by rw [cell_of_row _ _ _ _ _ _ h.im]; rfl
theorem ReI.keep (h : ReI w gr wr tv fa fc F us na nc Nx ns) {S : List Nat} (f : Fr S wr w2) (hS : ∀ x ∈ S, w.heap.size ≤ x) (h1 : ∀ q, (Value.slice fa F.length fc).ownBlock = some q → q ∉ S) (h2 : ∀ q, (Value.slice na Nx.length nc).ownBlock = some q → q ∉ S) (h3 : ∀ u ∈ us, ∀ q, u.ownBlock = some q → q ∉ S) (h4 : ∀ u ∈ ns, ∀ q, u.ownBlock = some q → q ∉ S) : ReI w gr w2 tv fa fc F us na nc Nx ns :=
  ⟨h.fr.and f (fun x hx => .inr (hS x hx)), h.hg, f.at h.im (fun hm => by have := hS _ hm; have := h.hg; omega), f.own h.fo h1, f.own h.no h2, h.ne, h.tr.keep f h3, h.nr.keep f h4⟩
theorem ReI.next (h : ReI w gr wr tv fa fc F us na nc Nx ns) (hb : Below wr.heap.size wr w2) : ReI w gr w2 tv fa fc F us na nc Nx ns := h.keep (Fr.ofBelow hb) (by simp) (by simp) (by simp) (by simp) (by simp)
theorem ReI.alloc (h : ReI w gr wr tv fa fc F us na nc Nx ns) (o : Obj) : ReI w gr (wr.alloc o) tv fa fc F us na nc Nx ns := h.next ((Below.refl _ _).alloc (Nat.le_refl _) _)
theorem ReI.drewN (h : ReI w gr wr tv fa fc F us na nc Nx ns) (n : Nat) : ReI w gr (wr.drewN n) tv fa fc F us na nc Nx ns := h.keep (S := []) ((Fr.refl _ _).drewN n) (by simp) (by simp) (by simp) (by simp) (by simp)
/-- A row of numbers grows that lies apart. -/
theorem ReI.grow (h : ReI w gr wr tv fa fc F us na nc Nx ns) {B : Nat} {v : Value} {r : List Nat} (hv : NR wr B v r) (hB : w.heap.size ≤ B) (hs : Sep v us) (hs' : Sep v ns) (hgrow : wr.grownBy w2 v.ownBlock) : ReI w gr w2 tv fa fc F us na nc Nx ns :=
  h.keep (Fr.ofGrown hgrow) (fun x hx => by have := (World.ownsRow.lt hv x (Option.mem_toList.1 hx)).1; omega)
    (fun q hq hm => own_ne_ty h.fo hv (by decide) q hq (Option.mem_toList.1 hm)) (fun q hq hm => own_ne_ty h.no hv (by decide) q hq (Option.mem_toList.1 hm))
    (fun u hu q hq hm => hs u hu q hq (Option.mem_toList.1 hm)) (fun u hu q hq hm => hs' u hu q hq (Option.mem_toList.1 hm))
theorem ReI.noI1 (h : ReI w gr wr tv fa fc F us na nc Nx ns) : NoI wr (Value.slice fa F.length fc).ownBlock.toList := fun q hq cs ty fr hc => by
  obtain ⟨cs', hc'⟩ := own_ty h.fo (Option.mem_toList.1 hq)
  rw [hc] at hc'
  simp at hc'
  rw [hc'.2.1]; decide
theorem ReI.noI2 (h : ReI w gr wr tv fa fc F us na nc Nx ns) : NoI wr (Value.slice na Nx.length nc).ownBlock.toList := fun q hq cs ty fr hc => by
  obtain ⟨cs', hc'⟩ := own_ty h.no (Option.mem_toList.1 hq)
  rw [hc] at hc'
  simp at hc'
  rw [hc'.2.1]; decide
theorem noI_gr {g : Nat} {cs : Array Value} (h : w.heap[g]? = some (.cells cs 60 (0, 0))) : NoI w [g] := fun q hq cs' ty fr hc => by
  rw [List.mem_singleton.1 hq, h] at hc
  simp at hc
  rw [← hc.2.1]; decide
/-- A tuple is put behind the others. -/
theorem ReI.push1 (h : ReI w gr wr tv fa fc F us na nc Nx ns) {g cap : Nat} {u : Value} {t : List Nat} (hu : NR wr w.heap.size u t) (hgrow : wr.grownBy w2 (.slice fa F.length fc : Value).ownBlock) (ho : w2.ownsRow w.heap.size 64 1 (.slice (some ⟨g, 0, none⟩) (F.length + 1) cap) (F.length + 1) (us ++ [u])) (hl : (Value.slice fa F.length fc).ownBlock = some g ∨ g = wr.heap.size) :
    w2.cell? ⟨gr, 1, none⟩ = some (.slice fa F.length fc) ∧ w2.frozen? ⟨gr, 1, none⟩ = false ∧ gr < w2.heap.size ∧ ReI w gr (w2.setCell ⟨gr, 1, none⟩ (.slice (some ⟨g, 0, none⟩) (F.length + 1) cap)) tv (some ⟨g, 0, none⟩) cap (F ++ [t]) (us ++ [u]) na nc Nx ns ∧ Fr (gr :: (Value.slice fa F.length fc).ownBlock.toList) wr (w2.setCell ⟨gr, 1, none⟩ (.slice (some ⟨g, 0, none⟩) (F.length + 1) cap)) := by
  have e2 := own_off h.fo h.im (by decide)
  have g2 : w2.heap[gr]? = _ := (Fr.ofGrown hgrow).at h.im (fun hm => e2 _ (Option.mem_toList.1 hm) rfl)
  have hlen : (F ++ [t]).length = F.length + 1 := by simp
  have hn2 : NoI w2 [gr] := noI_gr g2
  have hno : w2.ownsRow w.heap.size 64 1 (.slice na Nx.length nc) Nx.length ns := (Fr.ofGrown hgrow).own h.no (fun q hq hm => h.ne q (Option.mem_toList.1 hm) hq)
  refine ⟨by rw [cell_of_row _ _ _ _ _ _ g2]; rfl, frozen_of_row _ _ _ _ _ g2, (Array.getElem?_eq_some_iff.1 g2).1, ⟨?_, h.hg, ?_, ?_, ?_, ?_, ?_, ?_⟩, ?_⟩
  · exact (h.fr.grown hgrow (fun k hk => .inr (h.fo.lt k hk).1)).set (.inl (by simp)) _ _
  · rw [heap_setCell_same _ _ _ _ _ _ g2, hlen]; rfl
  · rw [hlen]; exact (Fr.ofSet _ _ _ _).own ho (fun q hq => by simpa using own_off ho g2 (by decide) q hq)
  · exact (Fr.ofSet _ _ _ _).own hno (fun q hq => by simpa using own_off hno g2 (by decide) q hq)
  · intro q hq hq'
    have e : g = q := by rw [hlen] at hq; simpa [Value.ownBlock] using hq
    subst e
    rcases hl with hl | hl
    · exact h.ne g hl hq'
    · have := (h.no.lt g hq').2; omega
  · exact ((h.tr.fr (Fr.ofGrown hgrow) h.noI1).snoc (hu.fr (Fr.ofGrown hgrow) h.noI1)).fr (Fr.ofSet _ _ _ _) hn2
  · exact (h.nr.fr (Fr.ofGrown hgrow) h.noI1).fr (Fr.ofSet _ _ _ _) hn2
  · exact ((Fr.ofGrown hgrow).mono (fun x hx => List.mem_cons_of_mem _ hx)).set (.inl (by simp)) _ _
/-- A row of what is next is put behind the others. -/
theorem ReI.push2 (h : ReI w gr wr tv fa fc F us na nc Nx ns) {g cap : Nat} {u : Value} {t : List Nat} (hu : NR wr w.heap.size u t) (hgrow : wr.grownBy w2 (.slice na Nx.length nc : Value).ownBlock) (ho : w2.ownsRow w.heap.size 64 1 (.slice (some ⟨g, 0, none⟩) (Nx.length + 1) cap) (Nx.length + 1) (ns ++ [u])) (hl : (Value.slice na Nx.length nc).ownBlock = some g ∨ g = wr.heap.size) :
    w2.cell? ⟨gr, 2, none⟩ = some (.slice na Nx.length nc) ∧ w2.frozen? ⟨gr, 2, none⟩ = false ∧ gr < w2.heap.size ∧ ReI w gr (w2.setCell ⟨gr, 2, none⟩ (.slice (some ⟨g, 0, none⟩) (Nx.length + 1) cap)) tv fa fc F us (some ⟨g, 0, none⟩) cap (Nx ++ [t]) (ns ++ [u]) := by
  have e2 := own_off h.no h.im (by decide)
  have g2 : w2.heap[gr]? = _ := (Fr.ofGrown hgrow).at h.im (fun hm => e2 _ (Option.mem_toList.1 hm) rfl)
  have hlen : (Nx ++ [t]).length = Nx.length + 1 := by simp
  have hn2 : NoI w2 [gr] := noI_gr g2
  have hfo : w2.ownsRow w.heap.size 64 1 (.slice fa F.length fc) F.length us := (Fr.ofGrown hgrow).own h.fo (fun q hq hm => h.ne q hq (Option.mem_toList.1 hm))
  refine ⟨by rw [cell_of_row _ _ _ _ _ _ g2]; rfl, frozen_of_row _ _ _ _ _ g2, (Array.getElem?_eq_some_iff.1 g2).1, ⟨?_, h.hg, ?_, ?_, ?_, ?_, ?_, ?_⟩⟩
  · exact (h.fr.grown hgrow (fun k hk => .inr (h.no.lt k hk).1)).set (.inl (by simp)) _ _
  · rw [heap_setCell_same _ _ _ _ _ _ g2, hlen]; rfl
  · exact (Fr.ofSet _ _ _ _).own hfo (fun q hq => by simpa using own_off hfo g2 (by decide) q hq)
  · rw [hlen]; exact (Fr.ofSet _ _ _ _).own ho (fun q hq => by simpa using own_off ho g2 (by decide) q hq)
  · intro q hq hq'
    have e : g = q := by rw [hlen] at hq'; simpa [Value.ownBlock] using hq'
    subst e
    rcases hl with hl | hl
    · exact h.ne g hq hl
    · have := (h.fo.lt g hq).2; omega
  · exact (h.tr.fr (Fr.ofGrown hgrow) h.noI2).fr (Fr.ofSet _ _ _ _) hn2
  · exact ((h.nr.fr (Fr.ofGrown hgrow) h.noI2).snoc (hu.fr (Fr.ofGrown hgrow) h.noI2)).fr (Fr.ofSet _ _ _ _) hn2
/-- A tuple, at its place. -/
theorem ReI.at1 (h : ReI w gr wr tv fa fc F us na nc Nx ns) {k : Nat} {r : List Nat} (hk : F[k]? = some r) : ∃ g u, fa = some ⟨g, 0, none⟩ ∧ g < wr.heap.size ∧ us[k]? = some u ∧ wr.cell? ⟨g, k, none⟩ = some u ∧ NR wr w.heap.size u r := by
  obtain ⟨u, hu, hr⟩ := h.tr.at hk
  have hl := (List.getElem?_eq_some_iff.1 hk).1
  obtain ⟨g, cap, he⟩ := own_form h.fo (by omega)
  have he' := he
  simp only [Value.slice.injEq, true_and] at he
  obtain ⟨rfl, rfl⟩ := he
  have := h.fo.cells (g := g) rfl k u hu
  rw [add0] at this
  exact ⟨g, u, rfl, (h.fo.lt g rfl).2, hu, this, hr⟩
theorem ReI.at2 (h : ReI w gr wr tv fa fc F us na nc Nx ns) {k : Nat} {r : List Nat} (hk : Nx[k]? = some r) : ∃ g u, na = some ⟨g, 0, none⟩ ∧ g < wr.heap.size ∧ ns[k]? = some u ∧ wr.cell? ⟨g, k, none⟩ = some u ∧ NR wr w.heap.size u r := by
  obtain ⟨u, hu, hr⟩ := h.nr.at hk
  have hl := (List.getElem?_eq_some_iff.1 hk).1
  obtain ⟨g, cap, he⟩ := own_form h.no (by omega)
  simp only [Value.slice.injEq, true_and] at he
  obtain ⟨rfl, rfl⟩ := he
  have := h.no.cells (g := g) rfl k u hu
  rw [add0] at this
  exact ⟨g, u, rfl, (h.no.lt g rfl).2, hu, this, hr⟩
end
theorem infoII : (Try.prog.info? 64).map (fun i => (i.zero, i.size, i.bytes)) = some (some (.slice none 0 0), 1, 24) := by kernel_rfl
/-- A row is appended to a row of rows. -/
theorem appII {ops : Array Oper} {rest : List Oper} {o : Oper} {a : Act} {W : World} {Q : Exit → Act → World → Prop} (hgd : o.guard = none) (s x : Operand)
    (ho : o.op = .call { callee := .builtin .append, args := #[s, x], argTypes := #[58, 58] }) (B : Nat) (v : Value) (n : Nat) (us : List Value) (hs : a.eval s = v) (hown : W.ownsRow B 64 1 v n us) (g0 : Nat) (y : Value) (hy : y.oneCell' = true)
    (hx : a.eval x = .slice (some ⟨g0, 0, none⟩) 1 1) (hc : W.cell? ⟨g0, 0, none⟩ = some y) (hlen : n ≤ 1000) (hB : B ≤ W.heap.size) (H : Nat) (hH : W.heap.size = H)
    (h : ∀ g cap w', w'.ownsRow B 64 1 (.slice (some ⟨g, 0, none⟩) (n + 1) cap) (n + 1) (us ++ [y]) → W.grownBy w' v.ownBlock → (v.ownBlock = some g ∨ g = H) → g < w'.heap.size → wpList Try.prog ops Q rest (a.put o.dst (.slice (some ⟨g, 0, none⟩) (n + 1) cap)) w') : wpList Try.prog ops Q (o :: rest) a W := by
  obtain ⟨i, i0, i1, i2, i3⟩ := info_of infoII
  exact wpList_append_lies W hgd s x 58 ho B 64 i (.slice none 0 0) 1 24 Try.underlying58 i0 i1 i2 i3 rfl (by decide) v n us hs hown ⟨g0, 0, none⟩ 1 1 [y] hx rfl (one_cells hc) (by intro u hu; simp at hu; subst hu; exact hy) (by decide) (by unfold maxLen; omega) (by omega) hB H hH h

end Mc
end Go.Proofs.Ytlafngfoejngaaa
