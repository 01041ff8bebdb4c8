/-
  A region that draws its order, whose last operation alone writes, behind all others: one walk of the text's order serves every order.
  machine.machine.do at operations that join two registers.
  machine.machine.jump, hasAddress; do at a jump.
  machine.machine.do and hasAddress at whatever operation.
  machine.machine.run: the program's machine runs code.
  machine.Run, veil.Run: what the program answers.
-/
import Derived.WalkKit
import Derived.Deep.QuietTactic
import Derived.Test.YtlafngfoejngaaaN1
namespace Go.Proofs.Ytlafngfoejngaaa
namespace Mc

section
variable {P : Program} {md : Region.Mode} {C : World → Prop}

/-- The operation, but doing nothing. -/
def nopOf (o : Oper) : Oper := { o with op := .move (.const undef) }
def covB (md : Region.Mode) (l : List Oper) : Bool := (List.range (l.length - 1)).all fun j => (List.range l.length).any fun c => decide (j < c) && ((l[c]?).map fun o => o.after.any fun e => Region.binds md e && e.on == j).getD false
def backB (l : List Oper) : Bool := (List.range l.length).all fun j => ((l[j]?).map fun o => o.after.all fun e => decide (e.on < j)).getD true

/-- What has come up is closed downward. -/
structure DownC (md : Region.Mode) (ops : Array Oper) (ls : Array Bool) : Prop where
  size : ls.size = ops.size
  down : ∀ j o, ops[j]? = some o → ls.getD j false = true → ∀ e ∈ o.after, Region.binds md e = true → ls.getD e.on false = true

theorem getD_tf {ls : Array Bool} {j : Nat} (h : ls.getD j true = false) : ls.getD j false = false := by
  rcases Nat.lt_or_ge j ls.size with hj | hj
  · simp [hj] at h ⊢; exact h
  · simp [hj] at h
theorem getD_ft {ls : Array Bool} {j : Nat} (hj : j < ls.size) (h : ls.getD j false = false) : ls.getD j true = false := by
  simp [hj] at h ⊢; exact h
theorem getD_set_self {ls : Array Bool} {i : Nat} (h : i < ls.size) (d : Bool) : (ls.setIfInBounds i true).getD i d = true := by simp [h]

theorem DownC.set {ops : Array Oper} {ls : Array Bool} (h : DownC md ops ls) {i : Nat} (hi : i ∈ Region.ready md ops ls) : DownC md ops (ls.setIfInBounds i true) := by
  obtain ⟨h0, o, ho, hall⟩ := mem_ready.1 hi
  refine ⟨by simpa using h.size, fun j oj hj hl e he hb => ?_⟩
  by_cases hji : j = i
  · subst hji
    rw [ho] at hj
    cases hj
    exact getD_set_true (hall e he hb)
  · rw [getD_set_ne false (fun q => hji q.symm)] at hl
    exact getD_set_true (h.down j oj hj hl e he hb)

variable {front : List Oper} {o : Oper}
theorem back_spec (h : backB (front ++ [o]) = true) {j : Nat} {oj : Oper} (hj : (front ++ [o]).toArray[j]? = some oj) {e : Edge} (he : e ∈ oj.after) : e.on < j := by
  unfold backB at h
  have hj' : (front ++ [o])[j]? = some oj := by simpa using hj
  have hlt : j < (front ++ [o]).length := (List.getElem?_eq_some_iff.1 hj').1
  have := List.all_eq_true.1 h j (List.mem_range.2 hlt)
  rw [hj'] at this
  simp only [Option.map_some, Option.getD_some] at this
  have := Array.all_eq_true_iff_forall_mem.1 this e he
  simpa using this
theorem cov_spec (h : covB md (front ++ [o]) = true) {j : Nat} (hj : j < front.length) : ∃ c oc e, j < c ∧ c ≤ front.length ∧ (front ++ [o]).toArray[c]? = some oc ∧ e ∈ oc.after ∧ Region.binds md e = true ∧ e.on = j := by
  unfold covB at h
  have h1 := List.all_eq_true.1 h j (List.mem_range.2 (by simpa using hj))
  obtain ⟨c, hc, h2⟩ := List.any_eq_true.1 h1
  rw [Bool.and_eq_true, decide_eq_true_iff] at h2
  obtain ⟨hlt, h3⟩ := h2
  have hcl : c < (front ++ [o]).length := List.mem_range.1 hc
  cases hoc : (front ++ [o])[c]? with
  | none => rw [hoc] at h3; cases h3
  | some oc =>
    rw [hoc] at h3
    simp only [Option.map_some, Option.getD_some] at h3
    obtain ⟨q, hq, hb⟩ := Array.any_eq_true.1 h3
    generalize hee : oc.after[q] = e at hb
    have he : e ∈ oc.after := by rw [← hee]; exact Array.getElem_mem hq
    rw [Bool.and_eq_true, beq_iff_eq] at hb
    exact ⟨c, oc, e, hlt, by simp at hcl; omega, by simpa using hoc, he, hb.1, hb.2⟩

/-- Where the last may come up all others have. -/
theorem others_up (hcov : covB md (front ++ [o]) = true) {ls : Array Bool} (hd : DownC md (front ++ [o]).toArray ls) (hn : front.length ∈ Region.ready md (front ++ [o]).toArray ls) :
    ∀ d j, j + d = front.length → 0 < d → ls.getD j false = true := by
  intro d
  induction d using Nat.strongRecOn with
  | _ d ih =>
    intro j hj h0
    obtain ⟨c, oc, e, h1, h2, h3, h4, h5, h6⟩ := cov_spec hcov (j := j) (by omega)
    by_cases hc : c = front.length
    · subst hc
      obtain ⟨-, o2, ho2, hall⟩ := mem_ready.1 hn
      rw [h3] at ho2
      cases ho2
      rw [← h6]; exact hall e h4 h5
    · have := ih (front.length - c) (by omega) c (by omega) (by omega)
      rw [← h6]; exact hd.down c oc h3 this e h4 h5
theorem none_left (hcov : covB md (front ++ [o]) = true) {ls : Array Bool} (hd : DownC md (front ++ [o]).toArray ls) (hn : front.length ∈ Region.ready md (front ++ [o]).toArray ls) :
    Region.ready md (front ++ [o]).toArray (ls.setIfInBounds front.length true) = [] := by
  apply List.eq_nil_iff_forall_not_mem.2
  intro j hj
  obtain ⟨h0, oj, hoj, -⟩ := mem_ready.1 hj
  have hlt : j < front.length + 1 := by have := (Array.getElem?_eq_some_iff.1 hoj).1; simpa using this
  have hsz : ls.size = front.length + 1 := by rw [hd.size]; simp
  by_cases hjn : j = front.length
  · subst hjn
    rw [getD_set_self (by omega)] at h0
    cases h0
  · have := others_up hcov hd hn (front.length - j) j (by omega) (by omega)
    have := getD_set_true (i := front.length) this
    rw [getD_tf h0] at this
    cases this
theorem some_left (hback : backB (front ++ [o]) = true) {ls : Array Bool} (hd : DownC md (front ++ [o]).toArray ls) : ∀ j, j < front.length + 1 → ls.getD j false = false → Region.ready md (front ++ [o]).toArray ls ≠ [] := by
  intro j
  have hsz : ls.size = front.length + 1 := by rw [hd.size]; simp
  induction j using Nat.strongRecOn with
  | _ j ih =>
    intro hj hf
    have hoj : (front ++ [o]).toArray[j]? = some ((front ++ [o])[j]'(by simpa using hj)) := by simp
    by_cases hall : ∀ e ∈ ((front ++ [o])[j]'(by simpa using hj)).after, Region.binds md e = true → ls.getD e.on false = true
    · intro he
      have : j ∈ Region.ready md (front ++ [o]).toArray ls := mem_ready.2 ⟨getD_ft (by omega) hf, _, hoj, hall⟩
      rw [he] at this
      cases this
    · simp only [Classical.not_forall] at hall
      obtain ⟨e, he, hb, hno⟩ := hall
      have hlt := back_spec hback hoj he
      exact ih e.on hlt (by omega) (by simpa using hno)

theorem ready_same : ∀ ls, Region.ready md (front ++ [nopOf o]).toArray ls = Region.ready md (front ++ [o]).toArray ls := by
  intro ls
  unfold Region.ready
  have hs : (front ++ [nopOf o]).toArray.size = (front ++ [o]).toArray.size := by simp
  rw [hs]
  congr 1
  funext i
  congr 2
  by_cases hi : i < front.length
  · simp [List.getElem?_append_left hi]
  · by_cases hi2 : i = front.length
    · subst hi2; simp [nopOf]
    · simp [List.getElem?_append_right (show front.length ≤ i by omega), List.getElem?_eq_none (show [nopOf o].length ≤ i - front.length by simp; omega), List.getElem?_eq_none (show [o].length ≤ i - front.length by simp; omega)]
theorem yielded_same (t : Array Value) (j : Nat) : yielded (front ++ [nopOf o]).toArray t j = yielded (front ++ [o]).toArray t j := by
  unfold yielded
  by_cases hi : j < front.length
  · simp [List.getElem?_append_left hi]
  · by_cases hi2 : j = front.length
    · subst hi2; simp [nopOf]
    · simp [List.getElem?_append_right (show front.length ≤ j by omega), List.getElem?_eq_none (show [nopOf o].length ≤ j - front.length by simp; omega), List.getElem?_eq_none (show [o].length ≤ j - front.length by simp; omega)]

theorem quiet_last {ops : Array Oper} {Q1 Q2 : Act → Prop} (h : ∀ a, Q1 a → Q2 a) : ∀ (l : List Oper) (a : Act), wpQuiet P ops C Q1 l a → wpQuiet P ops C Q2 l a
  | [], a, hq => h a hq
  | o :: l, a, hq => by
    unfold wpQuiet at hq ⊢
    split
    · next hw => rw [if_pos hw] at hq; exact Oper.quiet_mono (fun a' => quiet_last h l a') hq
    · next hw => rw [if_neg hw] at hq; exact quiet_last h l _ hq
/-- From the walk of the text's order, the last doing nothing, to every order, the last doing what it does. -/
theorem wpAny_last {Q : Exit → Act → World → Prop} (hcov : covB md (front ++ [o]) = true) (hback : backB (front ++ [o]) = true) (hnop : ∀ (K : Act → Prop) (a : Act), qOp P (front ++ [nopOf o]).toArray C front.length K a → K a) :
    ∀ (fuel : Nat) (ls : Array Bool) (a : Act) (w : World), DownC md (front ++ [o]).toArray ls → ls.getD front.length false = false → C w →
      wpAnyQ P md (front ++ [nopOf o]).toArray C (fun a' => ∀ w', C w' → wpOp P (front ++ [o]).toArray Q front.length (fun a2 w2 => Q .normal a2 w2) a' w') fuel ls a → wpAny P md (front ++ [o]).toArray Q fuel ls a w := by
  intro fuel
  induction fuel with
  | zero =>
    intro ls a w hd hf _ h
    exact absurd (by rw [← ready_same]; exact h.1) (some_left hback hd front.length (by omega) hf)
  | succ fuel ih =>
    intro ls a w hd hf hC h
    refine ⟨fun he => absurd he (some_left hback hd front.length (by omega) hf), fun i hi => ?_⟩
    have h1 := h.2 i (by rw [ready_same]; exact hi)
    by_cases hin : i = front.length
    · subst hin
      have h2 := hnop _ _ h1
      have hnone := none_left hcov hd hi
      have h3 : ∀ w', C w' → wpOp P (front ++ [o]).toArray Q front.length (fun a2 w2 => Q .normal a2 w2) a w' := by
        cases fuel with
        | zero => exact h2.2
        | succ f => exact h2.1 (by rw [ready_same]; exact hnone)
      exact wpOp_mono (fun a' w' hq => wpAny_done hnone hq _) (h3 w hC)
    · have hsame : (front ++ [nopOf o]).toArray[i]? = (front ++ [o]).toArray[i]? := by
        by_cases hl : i < front.length
        · simp [List.getElem?_append_left hl]
        · simp [List.getElem?_append_right (show front.length ≤ i by omega), List.getElem?_eq_none (show [nopOf o].length ≤ i - front.length by simp; omega), List.getElem?_eq_none (show [o].length ≤ i - front.length by simp; omega)]
      have hyl : ∀ t : Array Value, yielded (front ++ [nopOf o]).toArray t = yielded (front ++ [o]).toArray t := fun t => funext (yielded_same t)
      have h2 : qOp P (front ++ [o]).toArray C i (wpAnyQ P md (front ++ [nopOf o]).toArray C (fun a' => ∀ w', C w' → wpOp P (front ++ [o]).toArray Q front.length (fun a2 w2 => Q .normal a2 w2) a' w') fuel (ls.setIfInBounds i true)) a := by
        unfold qOp at h1 ⊢
        rw [hsame] at h1
        simp only [hyl] at h1
        exact h1
      refine wpOp_of_qOp hC (fun a' w' hC' hk => ih (ls.setIfInBounds i true) a' w' (hd.set hi) ?_ hC' hk) h2
      rw [getD_set_ne false hin]; exact hf

/-- THE RULE: the class is 'the world after some draws'. -/
theorem wp_region_last {id : Nat} {Q : Exit → Act → World → Prop} {a : Act} {w : World} {l : List Oper} (hl : l = l.dropLast ++ [o]) (hm : P.follows .mixedOrders = true) (hdst : o.dst = none) (hgd : o.guard = none)
    (hB : Region.lexB .any (l.dropLast ++ [nopOf o]).toArray = true) (hcov : covB .any (l.dropLast ++ [o]) = true) (hback : backB (l.dropLast ++ [o]) = true)
    (h : wpQuiet P (l.dropLast ++ [nopOf o]).toArray (fun w' => ∃ n, w' = w.drewN n) (fun a' => ∀ w', (∃ n, w' = w.drewN n) → o.wp P a' w' (fun a2 w2 => Q .normal a2 w2) Q) (l.dropLast ++ [nopOf o]) a) : (Code.region id l.toArray true).wp P Q a w := by
  rw [hl]
  generalize l.dropLast = front at *
  have hsz : (front ++ [o]).toArray.size = front.length + 1 := by simp
  refine wp_region_any hm ?_
  refine wpAny_last (C := fun w' => ∃ n, w' = w.drewN n) hcov hback ?_ _ _ _ _ ⟨by simp, fun j oj hj hls => ?_⟩ ?_ ⟨1, rfl⟩ ?_
  · intro K a hq
    unfold qOp at hq
    have : (front ++ [nopOf o]).toArray[front.length]? = some (nopOf o) := by simp
    rw [this] at hq
    simp only at hq
    have hw : Region.wanted (nopOf o) (yielded (front ++ [nopOf o]).toArray a.tmps) = true := by
      unfold Region.wanted nopOf; rw [hgd]
    rw [if_pos hw] at hq
    obtain ⟨v, -, hk⟩ := hq
    have hd2 : (nopOf o).dst = none := hdst
    rw [hd2] at hk
    exact hk
  · exfalso
    have hlt : j < (front ++ [o]).toArray.size := (Array.getElem?_eq_some_iff.1 hj).1
    simp [Array.getElem?_replicate] at hls
    rw [if_pos (by simpa using hlt)] at hls
    cases hls
  · simp
  · simp only [Region.lexB, Bool.and_eq_true] at hB
    have h2 : wpQuiet P (front ++ [nopOf o]).toArray (fun w' => ∃ n, w' = w.drewN n) (fun a' => ∀ w', (∃ n, w' = w.drewN n) → wpOp P (front ++ [o]).toArray Q front.length (fun a2 w2 => Q .normal a2 w2) a' w') (front ++ [nopOf o]) a := by
      have e : (fun a' => ∀ w', (∃ n, w' = w.drewN n) → wpOp P (front ++ [o]).toArray Q front.length (fun a2 w2 => Q .normal a2 w2) a' w') = (fun a' => ∀ w', (∃ n, w' = w.drewN n) → (o.wp P a' w' (fun a2 w2 => Q .normal a2 w2) Q ∨ (o.asks P a' w' ∧ LetsOut Q))) := by
        funext a'
        apply propext
        refine forall_congr' fun w' => imp_congr_right fun _ => ?_
        unfold wpOp
        have : (front ++ [o]).toArray[front.length]? = some o := by simp
        rw [this]
        simp only
        have hw : Region.wanted o (yielded (front ++ [o]).toArray a'.tmps) = true := by
          unfold Region.wanted; rw [hgd]
        rw [if_pos hw]
      rw [e]
      exact quiet_last (fun a' hq w' hw' => .inl (hq w' hw')) _ _ h
    have := wpAnyQ_lex (C := fun w' => ∃ n, w' = w.drewN n) (md := .any) hB.1 (front ++ [nopOf o]) 0 (Array.replicate (front ++ [nopOf o]).toArray.size false) a (by simp) (by simpa using hB.2) h2
    simpa using this

end

end Mc
end Go.Proofs.Ytlafngfoejngaaa
namespace Go.Proofs.Ytlafngfoejngaaa
namespace Mc
open Go.RowKit
attribute [local go_sem ↓] Go.wp_at_zero Go.wp_at_succ

theorem below_drewN {B : Nat} {w w1 : World} (h : Below B w w1) (n : Nat) : Below B w (w1.drewN n) := ⟨h.os, h.tape, h.output, h.size, h.block⟩
end Mc
end Go.Proofs.Ytlafngfoejngaaa
namespace Go.Proofs.Ytlafngfoejngaaa
namespace Mc
open Go.RowKit
attribute [local go_sem ↓] Go.wp_at_zero Go.wp_at_succ

end Mc
end Go.Proofs.Ytlafngfoejngaaa
namespace Go.Proofs.Ytlafngfoejngaaa
namespace Mc
open Go.RowKit

theorem andT {a b : Bool} (h : (a && b) = true) : a = true ∧ b = true := by cases a <;> cases b <;> simp_all
theorem wordA {x : Int} (h : wordOk x = true) : ∃ A : Nat, x = (A : Int) ∧ A ≤ 65535 := by
  simp [wordOk] at h
  exact ⟨x.toNat, by omega, by omega⟩
theorem op_kind {o : OpI} {n : Int} (h : opOk o n = true) : o.k = 0 ∨ (1 ≤ o.k ∧ o.k ≤ 5) ∨ o.k = 6 ∨ o.k = 7 ∨ o.k = 8 := by
  by_cases h9 : o.k < 0 ∨ 8 < o.k
  · rw [opOk9 h9] at h; cases h
  · omega

end Mc
end Go.Proofs.Ytlafngfoejngaaa
namespace Go.Proofs.Ytlafngfoejngaaa
namespace Mc
open Go.RowKit
attribute [local go_sem ↓] Go.wp_at_zero Go.wp_at_succ

end Mc
end Go.Proofs.Ytlafngfoejngaaa
namespace Go.Proofs.Ytlafngfoejngaaa
namespace Mc
open Go.RowKit
attribute [local go_sem ↓] Go.wp_at_zero Go.wp_at_succ

/-- The memory while it is laid. -/
def memI (zs : List Int) (i : Nat) : List Nat := (zs.take i).map Int.toNat ++ List.replicate (4096 - i) 0
theorem memI_len {zs : List Int} {i : Nat} (h : i ≤ zs.length) (h2 : zs.length ≤ 4096) : (memI zs i).length = 4096 := by simp [memI]; omega
theorem memI_zero (zs : List Int) : memI zs 0 = List.replicate 4096 0 := by unfold memI; rw [List.take_zero, List.map_nil, List.nil_append]
theorem memI_all (zs : List Int) : memI zs zs.length = mem0 zs := by simp [memI, mem0]
theorem memI_step {zs : List Int} {i : Nat} (h : i < zs.length) (h2 : zs.length ≤ 4096) : (memI zs i).set i (zs.getD i 0).toNat = memI zs (i + 1) := by
  unfold memI
  rw [List.set_append_right _ _ (by simp; omega)]
  obtain ⟨m, hm⟩ : ∃ m, 4096 - i = m + 1 := ⟨4096 - i - 1, by omega⟩
  rw [hm, show 4096 - (i + 1) = m by omega, List.replicate_succ]
  have e : i - (List.map Int.toNat (zs.take i)).length = 0 := by simp; omega
  rw [e, List.set_cons_zero, List.take_add_one, List.getElem?_eq_getElem h, List.getD_eq_getElem?_getD, List.getElem?_eq_getElem h, List.map_append, List.append_assoc]
  rfl
def DjV (u v : Value) : Prop := ∀ q, u.ownBlock = some q → v.ownBlock = some q → False
/-- The cells of a made row. -/
def zc4 : Array Value := madeCells #[.int .i64 0] 4096
theorem run_make4 (w : World) : (Instr.makeSlice 64 (.int .i64 4096) (.int .i64 4096)).run Try.prog w = .ok (.slice (some ⟨w.heap.size, 0, none⟩) 4096 4096) (w.alloc (.cells zc4 3)) := by
  obtain ⟨i, i0, i1, i2, i3⟩ := info_of infoI
  have := run_make (P := Try.prog) w 64 3 i (.int .i64 0) Try.underlying64 i0 i1 .i64 .i64 4096 4096 (by decide) (by decide) (by rw [i3]; decide) (by decide)
  rw [i2] at this
  exact this
theorem NR.new4 {w : World} {B : Nat} (hB : B ≤ w.heap.size) : NR (w.alloc (.cells zc4 3)) B (.slice (some ⟨w.heap.size, 0, none⟩) 4096 4096) (List.replicate 4096 0) := NR.new (n := 4096) hB (by unfold maxLen; omega)
/-- The zero machine. -/
def zcP : Array Value := pmC (List.replicate 16 0) (.slice none 0 0) (.slice none 0 0) 0
theorem zcP_size : zcP.size = 19 := pmC_size (by simp)
theorem zcP_ne : zcP ≠ #[] := fun e => by have := zcP_size; rw [e] at this; cases this
theorem pmC_setMem {R : List Nat} {mv tv : Value} {p : Nat} (h : R.length = 16) (v : Value) : (pmC R mv tv p).setIfInBounds 16 v = pmC R v tv p := by
  unfold pmC
  rw [List.setIfInBounds_toArray, List.set_append_right _ _ (by rw [ncs_len]; omega), ncs_len, h]; rfl
theorem zcP_build (v : Value) : zcP.setIfInBounds 16 v = pmC (List.replicate 16 0) v (.slice none 0 0) 0 := pmC_setMem (by simp) v
theorem ncs_one (R : List Nat) : ∀ v ∈ ncs R, v.oneCell' = true := by
  intro v hv
  unfold ncs at hv
  obtain ⟨x, _, rfl⟩ := List.mem_map.1 hv
  rfl
theorem pmC_one {R : List Nat} {a b : Option Addr} {n m c d : Nat} {p : Nat} : (pmC R (.slice a n c) (.slice b m d) p).all (·.oneCell') = true := by
  unfold pmC
  rw [List.all_toArray]
  simp only [List.all_append, Bool.and_eq_true]
  exact ⟨List.all_eq_true.2 (ncs_one R), rfl⟩
theorem setRow_alloc2' (w : World) (o : Obj) (A B : Array Value) (t : TypeId) : ((w.alloc o).alloc (Obj.cells A t)).setRow (w.heap.size + 1) B = (w.alloc o).alloc (Obj.cells B t) := by
  have hs : (w.alloc o).heap.size = w.heap.size + 1 := by simp
  rw [← hs]
  generalize w.alloc o = W
  simp only [World.setRow, World.alloc]
  congr 1
  apply Array.ext_getElem?
  intro i
  rw [Array.getElem?_modify, Array.getElem?_push, Array.getElem?_push]
  by_cases h : i = W.heap.size
  · subst h; simp
  · rw [if_neg (fun e => h e.symm), if_neg h, if_neg h]
theorem wpList_store_whole {P : Program} {ops : Array Oper} {rest : List Oper} {o : Oper} {a : Act} {w : World} {Q : Exit → Act → World → Prop} (hgd : o.guard = none) (ty : TypeId) (x y : Operand) (ho : o.op = .store ty x y) (hd : o.dst = none)
    (g : Nat) (cells : Array Value) (hx : a.eval x = .pointer (some ⟨g, 0, none⟩)) (hy : a.eval y = .agg cells)
    (t : TypeId) (old : Array Value) (hg : w.heap[g]? = some (.cells old t (0, 0))) (hi : (P.info? ty).map (·.size) = some cells.size)
    (hold : old.size = cells.size) (h1 : cells.all (·.oneCell') = true)
    (h : wpList P ops Q rest a (w.setRow g cells)) : wpList P ops Q (o :: rest) a w :=
  wpList_store_row hgd ty x y ho g cells hx hy t old hg hi hold h1 (by rw [hd]; exact h)
structure RunOut (w w' : World) (ans : RunAns) (ov tv : Value) : Prop where
  below : Below w.heap.size w w'
  out : NR w' w.heap.size ov ans.M
  tr : NR w' w.heap.size tv ans.T
  dj : DjV ov tv
  lt : ans.T.length ≤ 2097152
  lm : ans.M.length ≤ 4096
theorem RunOut.nil {w w' : World} (h : Below w.heap.size w w') (e : Int) : RunOut w w' ⟨e, [], []⟩ (.slice none 0 0) (.slice none 0 0) := ⟨h, NR.nil _ _, NR.nil _ _, (fun q hq _ => by cases hq), Nat.zero_le _, Nat.zero_le _⟩
theorem takes8 {os : List OpI} {zs : List Int} {k : Int} (h : codeB os = false) : runAns os zs k = ⟨8, [], []⟩ := by
  have : takesE os zs k = 8 := by unfold takesE; rw [if_pos h]
  unfold runAns; rw [this, if_pos (by decide)]
theorem takes9 {os : List OpI} {zs : List Int} {k : Int} (h : codeB os = true) (h2 : memB zs = false) : runAns os zs k = ⟨9, [], []⟩ := by
  have : takesE os zs k = 9 := by unfold takesE; rw [h, if_neg (by decide), if_pos h2]
  unfold runAns; rw [this, if_pos (by decide)]
theorem takes4 {os : List OpI} {zs : List Int} {k : Int} (h : codeB os = true) (h2 : memB zs = true) (h3 : stepsB k = false) : runAns os zs k = ⟨4, [], []⟩ := by
  have : takesE os zs k = 4 := by unfold takesE; rw [h, if_neg (by decide), h2, if_neg (by decide), if_pos h3]
  unfold runAns; rw [this, if_pos (by decide)]
theorem takes0 {os : List OpI} {zs : List Int} {k : Int} (h : codeB os = true) (h2 : memB zs = true) (h3 : stepsB k = true) : runAns os zs k = endAns (runN os k.toNat (ms0 zs)) := by
  have : takesE os zs k = 0 := by unfold takesE; rw [h, if_neg (by decide), h2, if_neg (by decide), h3, if_neg (by decide)]
  unfold runAns; rw [this, if_neg (by decide)]

attribute [local go_sem] zcP_size zcP_ne
end Mc
end Go.Proofs.Ytlafngfoejngaaa
