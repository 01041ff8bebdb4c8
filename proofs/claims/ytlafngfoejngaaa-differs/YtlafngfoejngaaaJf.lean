/-
  tuples.all.
-/
import Derived.Test.YtlafngfoejngaaaJe
namespace Go.Proofs.Ytlafngfoejngaaa
namespace Mc
open Go.RowKit
attribute [local go_sem ↓] Go.wp_at_zero Go.wp_at_succ

/-- Where a byte leads. -/
def stpT (m : Nat) (ts : Nat → TabN) (σ : List Nat) (b : Nat) : List Nat := nxT m ts σ (clT m ts b)
theorem stpT_run (m : Nat) (ts : Nat → TabN) (u : List Nat) (b : Nat) : stT m ts (u ++ [b]) = stpT m ts (stT m ts u) b := stT_snoc m ts u b
theorem TabN.run_lt {t : TabN} (h : t.Ok) : ∀ bs, Byt bs → t.run bs < t.S := by
  refine snocInd (fun _ => h.s1) (fun u b ih hb => ?_)
  rw [TabN.run_snoc]
  exact h.nx _ _ (ih hb.front) (h.cl b hb.last)
section
variable {m : Nat} {ts : Nat → TabN}
theorem stT_lt (hok : ∀ i, i < m → (ts i).Ok) {u : List Nat} (hu : Byt u) {i : Nat} (hi : i < m) : (stT m ts u).getD i 0 < (ts i).S := by
  unfold stT
  rw [rmap_getD _ hi]
  exact TabN.run_lt (hok i hi) u hu
theorem stT_byt (hok : ∀ i, i < m → (ts i).Ok) {u : List Nat} (hu : Byt u) : Byt (stT m ts u) := Byt.rmap fun j hj => by have h1 := TabN.run_lt (hok j hj) u hu; have := (hok j hj).s2; omega
theorem stT_len (u : List Nat) : (stT m ts u).length = m := rmap_len _ _
theorem clT_lt (hok : ∀ i, i < m → (ts i).Ok) {b : Nat} (hb : b < 256) {i : Nat} (hi : i < m) : (clT m ts b).getD i 0 < (ts i).C := by
  unfold clT
  rw [rmap_getD _ hi]
  exact (hok i hi).cl b hb
/-- The search of tuples, at tuple i and letter j. -/
structure AlS (m : Nat) (ts : Nat → TabN) (L : List (List Nat × Nat)) (F : List (List Nat × List Nat)) (i j : Nat) : Prop where
  few : F.length ≤ 256
  bfs : ∃ pc U, Bfs (stpT m ts) (List.replicate m 0) F pc i U (fun b => ∃ (k : Nat) (p : List Nat × Nat), k < j ∧ L[k]? = some p ∧ clT m ts b = p.1) ∧ ∀ p, L[j]? = some p → U ≤ i * 256 + p.2
theorem AlS.pos {L F i j} (h : AlS m ts L F i j) : 0 < F.length := by
  obtain ⟨pc, U, hb, -⟩ := h.bfs
  exact (List.getElem?_eq_some_iff.1 hb.zero).1
theorem AlS.run {L F i j} (h : AlS m ts L F i j) {k : Nat} {σ u : List Nat} (hk : F[k]? = some (σ, u)) : σ = stT m ts u ∧ Byt u := by
  obtain ⟨pc, U, hb, -⟩ := h.bfs
  exact hb.run (stT_nil m ts) (stpT_run m ts) k σ u hk
theorem AlS.byt {L F i j} (h : AlS m ts L F i j) (hok : ∀ i, i < m → (ts i).Ok) : ∀ p ∈ F, Byt p.1 := fun p hp => by
  obtain ⟨k, hk⟩ := List.getElem?_of_mem hp
  obtain ⟨e, hu⟩ := h.run hk
  rw [e]; exact stT_byt hok hu
theorem AlS.start (L) : AlS m ts L [(List.replicate m 0, [])] 0 0 := by
  refine ⟨by simp, fun _ => 0, 0, ?_, fun p _ => by omega⟩
  have := Bfs.start (stpT m ts) (List.replicate m 0)
  refine ⟨this.zero, this.par, this.mono, this.nodup, this.hU, fun p b σ w hp hb hh => this.all p b σ w hp hb ?_⟩
  rcases hh with hh | ⟨h0, k, q, hk, -⟩
  · exact .inl hh
  · omega
theorem dn_step {L : List (List Nat × Nat)} (hL : Lts m ts 256 L) {j : Nat} {p : List Nat × Nat} (hp : L[j]? = some p) (σ : List Nat) : ∀ b, b < 256 → (∃ (k : Nat) (q : List Nat × Nat), k < j + 1 ∧ L[k]? = some q ∧ clT m ts b = q.1) → (∃ (k : Nat) (q : List Nat × Nat), k < j ∧ L[k]? = some q ∧ clT m ts b = q.1) ∨ (p.2 ≤ b ∧ stpT m ts σ b = stpT m ts σ p.2) := by
  rintro b hb ⟨k, q, hk, hq, e⟩
  by_cases hkj : k < j
  · exact .inl ⟨k, q, hkj, hq, e⟩
  · have : k = j := by omega
    subst this
    rw [hp] at hq
    cases hq
    obtain ⟨k', q', hq', e', hle⟩ := hL.cov b hb
    by_cases h1 : k' < k
    · exact .inl ⟨k', q', h1, hq', e'.symm⟩
    · refine .inr ⟨?_, ?_⟩
      · by_cases h2 : k' = k
        · subst h2; rw [hp] at hq'; cases hq'; exact hle
        · have := hL.srt k k' p q' hp hq' (by omega); omega
      · unfold stpT
        rw [e, (hL.it k p hp).1]
theorem AlS.old {L F i j} (h : AlS m ts L F i j) (hL : Lts m ts 256 L) {σ u : List Nat} (hi : F[i]? = some (σ, u)) {p : List Nat × Nat} (hp : L[j]? = some p) (hh : hasL F (stpT m ts σ p.2) = true) : AlS m ts L F i (j + 1) := by
  obtain ⟨pc, U, hb, hU⟩ := h.bfs
  have hl := (hL.it j p hp).2
  obtain ⟨k, w, hk⟩ := hasL_true hh
  exact ⟨h.few, pc, _, hb.old hi hl (hU p hp) ⟨k, w, hk⟩ (dn_step hL hp σ), fun q hq => by have := hL.srt j (j + 1) p q hp hq (by omega); omega⟩
theorem AlS.newb {L F i j} (h : AlS m ts L F i j) (hL : Lts m ts 256 L) {σ u : List Nat} (hi : F[i]? = some (σ, u)) {p : List Nat × Nat} (hp : L[j]? = some p) (hh : hasL F (stpT m ts σ p.2) = false) : ∃ pc U, Bfs (stpT m ts) (List.replicate m 0) (F ++ [(stpT m ts σ p.2, u ++ [p.2])]) pc i U (fun b => ∃ (k : Nat) (p : List Nat × Nat), k < j + 1 ∧ L[k]? = some p ∧ clT m ts b = p.1) ∧ ∀ p, L[j + 1]? = some p → U ≤ i * 256 + p.2 := by
  obtain ⟨pc, U, hb, hU⟩ := h.bfs
  have hl := (hL.it j p hp).2
  exact ⟨_, _, hb.new hi hl (hU p hp) (fun k w hk => hasL_false.1 hh k _ hk rfl) (dn_step hL hp σ), fun q hq => by have := hL.srt j (j + 1) p q hp hq (by omega); omega⟩
theorem AlS.new {L F i j} (h : AlS m ts L F i j) (hL : Lts m ts 256 L) {σ u : List Nat} (hi : F[i]? = some (σ, u)) {p : List Nat × Nat} (hp : L[j]? = some p) (hh : hasL F (stpT m ts σ p.2) = false) (hl : F.length < 256) : AlS m ts L (F ++ [(stpT m ts σ p.2, u ++ [p.2])]) i (j + 1) := by
  obtain ⟨pc, U, hb, hU⟩ := h.newb hL hi hp hh
  exact ⟨by simp; omega, pc, U, hb, hU⟩
theorem AlS.many {L F i j} (h : AlS m ts L F i j) (hL : Lts m ts 256 L) {σ u : List Nat} (hi : F[i]? = some (σ, u)) {p : List Nat × Nat} (hp : L[j]? = some p) (hh : hasL F (stpT m ts σ p.2) = false) (hl : F.length = 256) : Many (stT m ts) := by
  obtain ⟨pc, U, hb, hU⟩ := h.newb hL hi hp hh
  exact hb.many (stT_nil m ts) (stpT_run m ts) (by simp; omega)
theorem AlS.row {L F i} (h : AlS m ts L F i L.length) (hL : Lts m ts 256 L) : AlS m ts L F (i + 1) 0 := by
  obtain ⟨pc, U, hb, -⟩ := h.bfs
  have := hb.row (fun b hb => by
    obtain ⟨k, p, hk, e, -⟩ := hL.cov b hb
    exact ⟨k, p, (List.getElem?_eq_some_iff.1 hk).1, hk, e.symm⟩)
  refine ⟨h.few, pc, _, ⟨this.zero, this.par, this.mono, this.nodup, this.hU, fun p b σ w hp hb hh => this.all p b σ w hp hb ?_⟩, fun p _ => by omega⟩
  rcases hh with hh | ⟨h0, k, q, hk, -⟩
  · exact .inl hh
  · omega
end
theorem VR.new {w : World} {B n : Nat} (hB : B ≤ w.heap.size) (hn : n ≤ maxLen) : VR (w.alloc (.cells (madeCells #[.int .u8 0] n) 5)) B (.slice (some ⟨w.heap.size, 0, none⟩) (List.replicate n 0).length n) (List.replicate n 0) := by
  unfold VR
  rw [List.length_replicate]
  refine ⟨by simp [vcs], .inr ⟨_, n, _, rfl, hB, heap_alloc_new _ _, Nat.le_refl _, hn, by rw [size_madeCells, Nat.mul_one], ?_⟩⟩
  rw [Nat.mul_one, List.take_of_length_le (by rw [Array.length_toList, size_madeCells]; exact Nat.le_refl _)]
  apply List.ext_getElem
  · rw [Array.length_toList, size_madeCells]; simp [vcs]
  · intro i h1 h2
    simp [madeCells, vcs, Nat.mod_one]
theorem conv_zero {w : World} {n : Nat} (hn : n ≤ maxLen) : (convert 71 9 (.slice (some ⟨w.heap.size, 0, none⟩) n n)).run Try.prog (w.alloc (.cells (madeCells #[.int .u8 0] n) 5)) = .ok (.string (mkV (List.replicate n 0))) (w.alloc (.cells (madeCells #[.int .u8 0] n) 5)) := by
  have h := conv_mv (VR.new (Nat.zero_le w.heap.size) hn) (by intro x hx; rw [(List.mem_replicate.1 hx).2]; decide)
  rwa [List.length_replicate] at h
theorem conv_one {w : World} {b : Nat} (hb : b < 256) : (convert 71 9 (.slice (some ⟨w.heap.size, 0, none⟩) 1 1)).run Try.prog (w.alloc (.cells #[.int .u8 (b : Int)] 5)) = .ok (.string (mkV [b])) (w.alloc (.cells #[.int .u8 (b : Int)] 5)) :=
  conv_mv (B := 0) (xs := [b]) ⟨rfl, .inr ⟨_, 1, _, rfl, Nat.zero_le _, heap_alloc_new _ _, Nat.le_refl _, by unfold maxLen; omega, rfl, rfl⟩⟩ (by intro x hx; simp at hx; omega)
theorem conv_one' {w : World} {b : Nat} (hb : b < 256) : (convert 71 9 (.slice (some ⟨w.heap.size, 0, none⟩) 1 1)).run Try.prog (w.alloc (.cells #[.int .u8 (b : Int)] 5)).drew = .ok (.string (mkV [b])) (w.alloc (.cells #[.int .u8 (b : Int)] 5)).drew :=
  conv_mv (B := 0) (xs := [b]) ⟨rfl, .inr ⟨_, 1, _, rfl, Nat.zero_le _, heap_alloc_new _ _, Nat.le_refl _, by unfold maxLen; omega, rfl, rfl⟩⟩ (by intro x hx; simp at hx; omega)

/-- What is in memory while the tuples are found. -/
structure AlI (w wr : World) (la : Option Addr) (lc : Nat) (L : List (List Nat × Nat)) (va : Option Addr) (vc : Nat) (F : List (List Nat × List Nat)) : Prop where
  below : Below w.heap.size w wr
  let_ : LR wr w.heap.size (.slice la L.length lc) L
  row : TuR wr w.heap.size (.slice va F.length vc) F
section
variable {w wr w2 : World} {la : Option Addr} {lc : Nat} {L : List (List Nat × Nat)} {va : Option Addr} {vc : Nat} {F : List (List Nat × List Nat)}
theorem AlI.next (h : AlI w wr la lc L va vc F) (hb : Below wr.heap.size wr w2) : AlI w w2 la lc L va vc F := ⟨h.below.trans (hb.mono h.below.size), (Fr.ofBelow hb).own h.let_ (by simp), (Fr.ofBelow hb).own h.row (by simp)⟩
theorem AlI.alloc (h : AlI w wr la lc L va vc F) (o : Obj) : AlI w (wr.alloc o) la lc L va vc F := h.next ((Below.refl _ _).alloc (Nat.le_refl _) _)
theorem AlI.drew (h : AlI w wr la lc L va vc F) : AlI w wr.drew la lc L va vc F := ⟨h.below.drew, h.let_, h.row⟩
theorem AlI.push (h : AlI w wr la lc L va vc F) {g cap : Nat} {y : List Nat × List Nat} (hgrow : wr.grownBy w2 (.slice va F.length vc : Value).ownBlock) (ho : TuR w2 w.heap.size (.slice (some ⟨g, 0, none⟩) (F.length + 1) cap) (F ++ [y])) : AlI w w2 la lc L (some ⟨g, 0, none⟩) cap (F ++ [y]) := by
  refine ⟨below_grown h.below hgrow h.below.size (fun q hq => (h.row.lt q hq).1), ?_, ?_⟩
  · refine (Fr.ofGrown hgrow).own h.let_ (fun q hq hm => ?_)
    obtain ⟨cs, hc⟩ := own_ty h.let_ hq
    obtain ⟨cs2, hc2⟩ := own_ty h.row (Option.mem_toList.1 hm)
    rw [hc] at hc2
    simp at hc2
  · rw [List.length_append]
    exact ho
end

end Mc
end Go.Proofs.Ytlafngfoejngaaa
