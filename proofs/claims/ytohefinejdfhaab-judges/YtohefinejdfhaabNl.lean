/-
  A region that draws its order, whose last operation alone writes, behind all others: one walk of the text's order serves every order.
-/
import Derived.WalkKit
import Derived.Deep.QuietTactic
namespace Go.Proofs.Ytohefinejdfhaab
namespace Mc

section
variable {P : Program} {md : Region.Mode} {C : World → Prop}

/-- The operation, but doing nothing. -/
def nopOf (o : Oper) : Oper := { o with op := .move (.const undef) }
def covB (md : Region.Mode) (l : List Oper) : Bool := (List.range (l.length - 1)).all fun j => (List.range l.length).any fun c => decide (j < c) && ((l[c]?).map fun o => o.after.any fun e => Region.binds md e && e.on == j).getD false
def backB (l : List Oper) : Bool := (List.range l.length).all fun j => ((l[j]?).map fun o => o.after.all fun e => decide (e.on < j)).getD true

/-- What has come up is closed downward. -/
structure DownC (md : Region.Mode) (ops : Array Oper) (ls : Array Bool) : Prop where
  size : ls.size = ops.size
  down : ∀ j o, ops[j]? = some o → ls.getD j false = true → ∀ e ∈ o.after, Region.binds md e = true → ls.getD e.on false = true

theorem getD_tf {ls : Array Bool} {j : Nat} (h : ls.getD j true = false) : ls.getD j false = false := by
  rcases Nat.lt_or_ge j ls.size with hj | hj
  · simp [hj] at h ⊢; exact h
  · simp [hj] at h
theorem getD_ft {ls : Array Bool} {j : Nat} (hj : j < ls.size) (h : ls.getD j false = false) : ls.getD j true = false := by
  simp [hj] at h ⊢; exact h
theorem getD_set_self {ls : Array Bool} {i : Nat} (h : i < ls.size) (d : Bool) : (ls.setIfInBounds i true).getD i d = true := by simp [h]

theorem DownC.set {ops : Array Oper} {ls : Array Bool} (h : DownC md ops ls) {i : Nat} (hi : i ∈ Region.ready md ops ls) : DownC md ops (ls.setIfInBounds i true) := by
  obtain ⟨h0, o, ho, hall⟩ := mem_ready.1 hi
  refine ⟨by simpa using h.size, fun j oj hj hl e he hb => ?_⟩
  by_cases hji : j = i
  · subst hji
    rw [ho] at hj
    cases hj
    exact getD_set_true (hall e he hb)
  · rw [getD_set_ne false (fun q => hji q.symm)] at hl
    exact getD_set_true (h.down j oj hj hl e he hb)

variable {front : List Oper} {o : Oper}
theorem back_spec (h : backB (front ++ [o]) = true) {j : Nat} {oj : Oper} (hj : (front ++ [o]).toArray[j]? = some oj) {e : Edge} (he : e ∈ oj.after) : e.on < j := by
  unfold backB at h
  have hj' : (front ++ [o])[j]? = some oj := by simpa using hj
  have hlt : j < (front ++ [o]).length := (List.getElem?_eq_some_iff.1 hj').1
  have := List.all_eq_true.1 h j (List.mem_range.2 hlt)
  rw [hj'] at this
  simp only [Option.map_some, Option.getD_some] at this
  have := Array.all_eq_true_iff_forall_mem.1 this e he
  simpa using this
theorem cov_spec (h : covB md (front ++ [o]) = true) {j : Nat} (hj : j < front.length) : ∃ c oc e, j < c ∧ c ≤ front.length ∧ (front ++ [o]).toArray[c]? = some oc ∧ e ∈ oc.after ∧ Region.binds md e = true ∧ e.on = j := by
  unfold covB at h
  have h1 := List.all_eq_true.1 h j (List.mem_range.2 (by simpa using hj))
  obtain ⟨c, hc, h2⟩ := List.any_eq_true.1 h1
  rw [Bool.and_eq_true, decide_eq_true_iff] at h2
  obtain ⟨hlt, h3⟩ := h2
  have hcl : c < (front ++ [o]).length := List.mem_range.1 hc
  cases hoc : (front ++ [o])[c]? with
  | none => rw [hoc] at h3; cases h3
  | some oc =>
    rw [hoc] at h3
    simp only [Option.map_some, Option.getD_some] at h3
    obtain ⟨q, hq, hb⟩ := Array.any_eq_true.1 h3
    generalize hee : oc.after[q] = e at hb
    have he : e ∈ oc.after := by rw [← hee]; exact Array.getElem_mem hq
    rw [Bool.and_eq_true, beq_iff_eq] at hb
    exact ⟨c, oc, e, hlt, by simp at hcl; omega, by simpa using hoc, he, hb.1, hb.2⟩

/-- Where the last may come up all others have. -/
theorem others_up (hcov : covB md (front ++ [o]) = true) {ls : Array Bool} (hd : DownC md (front ++ [o]).toArray ls) (hn : front.length ∈ Region.ready md (front ++ [o]).toArray ls) :
    ∀ d j, j + d = front.length → 0 < d → ls.getD j false = true := by
  intro d
  induction d using Nat.strongRecOn with
  | _ d ih =>
    intro j hj h0
    obtain ⟨c, oc, e, h1, h2, h3, h4, h5, h6⟩ := cov_spec hcov (j := j) (by omega)
    by_cases hc : c = front.length
    · subst hc
      obtain ⟨-, o2, ho2, hall⟩ := mem_ready.1 hn
      rw [h3] at ho2
      cases ho2
      rw [← h6]; exact hall e h4 h5
    · have := ih (front.length - c) (by omega) c (by omega) (by omega)
      rw [← h6]; exact hd.down c oc h3 this e h4 h5
theorem none_left (hcov : covB md (front ++ [o]) = true) {ls : Array Bool} (hd : DownC md (front ++ [o]).toArray ls) (hn : front.length ∈ Region.ready md (front ++ [o]).toArray ls) :
    Region.ready md (front ++ [o]).toArray (ls.setIfInBounds front.length true) = [] := by
  apply List.eq_nil_iff_forall_not_mem.2
  intro j hj
  obtain ⟨h0, oj, hoj, -⟩ := mem_ready.1 hj
  have hlt : j < front.length + 1 := by have := (Array.getElem?_eq_some_iff.1 hoj).1; simpa using this
  have hsz : ls.size = front.length + 1 := by rw [hd.size]; simp
  by_cases hjn : j = front.length
  · subst hjn
    rw [getD_set_self (by omega)] at h0
    cases h0
  · have := others_up hcov hd hn (front.length - j) j (by omega) (by omega)
    have := getD_set_true (i := front.length) this
    rw [getD_tf h0] at this
    cases this
theorem some_left (hback : backB (front ++ [o]) = true) {ls : Array Bool} (hd : DownC md (front ++ [o]).toArray ls) : ∀ j, j < front.length + 1 → ls.getD j false = false → Region.ready md (front ++ [o]).toArray ls ≠ [] := by
  intro j
  have hsz : ls.size = front.length + 1 := by rw [hd.size]; simp
  induction j using Nat.strongRecOn with
  | _ j ih =>
    intro hj hf
    have hoj : (front ++ [o]).toArray[j]? = some ((front ++ [o])[j]'(by simpa using hj)) := by simp
    by_cases hall : ∀ e ∈ ((front ++ [o])[j]'(by simpa using hj)).after, Region.binds md e = true → ls.getD e.on false = true
    · intro he
      have : j ∈ Region.ready md (front ++ [o]).toArray ls := mem_ready.2 ⟨getD_ft (by omega) hf, _, hoj, hall⟩
      rw [he] at this
      cases this
    · simp only [Classical.not_forall] at hall
      obtain ⟨e, he, hb, hno⟩ := hall
      have hlt := back_spec hback hoj he
      exact ih e.on hlt (by omega) (by simpa using hno)

theorem ready_same : ∀ ls, Region.ready md (front ++ [nopOf o]).toArray ls = Region.ready md (front ++ [o]).toArray ls := by
  intro ls
  unfold Region.ready
  have hs : (front ++ [nopOf o]).toArray.size = (front ++ [o]).toArray.size := by simp
  rw [hs]
  congr 1
  funext i
  congr 2
  by_cases hi : i < front.length
  · simp [List.getElem?_append_left hi]
  · by_cases hi2 : i = front.length
    · subst hi2; simp [nopOf]
    · simp [List.getElem?_append_right (show front.length ≤ i by omega), List.getElem?_eq_none (show [nopOf o].length ≤ i - front.length by simp; omega), List.getElem?_eq_none (show [o].length ≤ i - front.length by simp; omega)]
theorem yielded_same (t : Array Value) (j : Nat) : yielded (front ++ [nopOf o]).toArray t j = yielded (front ++ [o]).toArray t j := by
  unfold yielded
  by_cases hi : j < front.length
  · simp [List.getElem?_append_left hi]
  · by_cases hi2 : j = front.length
    · subst hi2; simp [nopOf]
    · simp [List.getElem?_append_right (show front.length ≤ j by omega), List.getElem?_eq_none (show [nopOf o].length ≤ j - front.length by simp; omega), List.getElem?_eq_none (show [o].length ≤ j - front.length by simp; omega)]

theorem quiet_last {ops : Array Oper} {Q1 Q2 : Act → Prop} (h : ∀ a, Q1 a → Q2 a) : ∀ (l : List Oper) (a : Act), wpQuiet P ops C Q1 l a → wpQuiet P ops C Q2 l a
  | [], a, hq => h a hq
  | o :: l, a, hq => by
    unfold wpQuiet at hq ⊢
    split
    · next hw => rw [if_pos hw] at hq; exact Oper.quiet_mono (fun a' => quiet_last h l a') hq
    · next hw => rw [if_neg hw] at hq; exact quiet_last h l _ hq
/-- From the walk of the text's order, the last doing nothing, to every order, the last doing what it does. -/
theorem wpAny_last {Q : Exit → Act → World → Prop} (hcov : covB md (front ++ [o]) = true) (hback : backB (front ++ [o]) = true) (hnop : ∀ (K : Act → Prop) (a : Act), qOp P (front ++ [nopOf o]).toArray C front.length K a → K a) :
    ∀ (fuel : Nat) (ls : Array Bool) (a : Act) (w : World), DownC md (front ++ [o]).toArray ls → ls.getD front.length false = false → C w →
      wpAnyQ P md (front ++ [nopOf o]).toArray C (fun a' => ∀ w', C w' → wpOp P (front ++ [o]).toArray Q front.length (fun a2 w2 => Q .normal a2 w2) a' w') fuel ls a → wpAny P md (front ++ [o]).toArray Q fuel ls a w := by
  intro fuel
  induction fuel with
  | zero =>
    intro ls a w hd hf _ h
    exact absurd (by rw [← ready_same]; exact h.1) (some_left hback hd front.length (by omega) hf)
  | succ fuel ih =>
    intro ls a w hd hf hC h
    refine ⟨fun he => absurd he (some_left hback hd front.length (by omega) hf), fun i hi => ?_⟩
    have h1 := h.2 i (by rw [ready_same]; exact hi)
    by_cases hin : i = front.length
    · subst hin
      have h2 := hnop _ _ h1
      have hnone := none_left hcov hd hi
      have h3 : ∀ w', C w' → wpOp P (front ++ [o]).toArray Q front.length (fun a2 w2 => Q .normal a2 w2) a w' := by
        cases fuel with
        | zero => exact h2.2
        | succ f => exact h2.1 (by rw [ready_same]; exact hnone)
      exact wpOp_mono (fun a' w' hq => wpAny_done hnone hq _) (h3 w hC)
    · have hsame : (front ++ [nopOf o]).toArray[i]? = (front ++ [o]).toArray[i]? := by
        by_cases hl : i < front.length
        · simp [List.getElem?_append_left hl]
        · simp [List.getElem?_append_right (show front.length ≤ i by omega), List.getElem?_eq_none (show [nopOf o].length ≤ i - front.length by simp; omega), List.getElem?_eq_none (show [o].length ≤ i - front.length by simp; omega)]
      have hyl : ∀ t : Array Value, yielded (front ++ [nopOf o]).toArray t = yielded (front ++ [o]).toArray t := fun t => funext (yielded_same t)
      have h2 : qOp P (front ++ [o]).toArray C i (wpAnyQ P md (front ++ [nopOf o]).toArray C (fun a' => ∀ w', C w' → wpOp P (front ++ [o]).toArray Q front.length (fun a2 w2 => Q .normal a2 w2) a' w') fuel (ls.setIfInBounds i true)) a := by
        unfold qOp at h1 ⊢
        rw [hsame] at h1
        simp only [hyl] at h1
        exact h1
      refine wpOp_of_qOp hC (fun a' w' hC' hk => ih (ls.setIfInBounds i true) a' w' (hd.set hi) ?_ hC' hk) h2
      rw [getD_set_ne false hin]; exact hf

/-- THE RULE: the class is 'the world after some draws'. -/
theorem wp_region_last {id : Nat} {Q : Exit → Act → World → Prop} {a : Act} {w : World} {l : List Oper} (hl : l = l.dropLast ++ [o]) (hm : P.follows .mixedOrders = true) (hdst : o.dst = none) (hgd : o.guard = none)
    (hB : Region.lexB .any (l.dropLast ++ [nopOf o]).toArray = true) (hcov : covB .any (l.dropLast ++ [o]) = true) (hback : backB (l.dropLast ++ [o]) = true)
    (h : wpQuiet P (l.dropLast ++ [nopOf o]).toArray (fun w' => ∃ n, w' = w.drewN n) (fun a' => ∀ w', (∃ n, w' = w.drewN n) → o.wp P a' w' (fun a2 w2 => Q .normal a2 w2) Q) (l.dropLast ++ [nopOf o]) a) : (Code.region id l.toArray true).wp P Q a w := by
  rw [hl]
  generalize l.dropLast = front at *
  have hsz : (front ++ [o]).toArray.size = front.length + 1 := by simp
  refine wp_region_any hm ?_
  refine wpAny_last (C := fun w' => ∃ n, w' = w.drewN n) hcov hback ?_ _ _ _ _ ⟨by simp, fun j oj hj hls => ?_⟩ ?_ ⟨1, rfl⟩ ?_
  · intro K a hq
    unfold qOp at hq
    have : (front ++ [nopOf o]).toArray[front.length]? = some (nopOf o) := by simp
    rw [this] at hq
    simp only at hq
    have hw : Region.wanted (nopOf o) (yielded (front ++ [nopOf o]).toArray a.tmps) = true := by
      unfold Region.wanted nopOf; rw [hgd]
    rw [if_pos hw] at hq
    obtain ⟨v, -, hk⟩ := hq
    have hd2 : (nopOf o).dst = none := hdst
    rw [hd2] at hk
    exact hk
  · exfalso
    have hlt : j < (front ++ [o]).toArray.size := (Array.getElem?_eq_some_iff.1 hj).1
    simp [Array.getElem?_replicate] at hls
    rw [if_pos (by simpa using hlt)] at hls
    cases hls
  · simp
  · simp only [Region.lexB, Bool.and_eq_true] at hB
    have h2 : wpQuiet P (front ++ [nopOf o]).toArray (fun w' => ∃ n, w' = w.drewN n) (fun a' => ∀ w', (∃ n, w' = w.drewN n) → wpOp P (front ++ [o]).toArray Q front.length (fun a2 w2 => Q .normal a2 w2) a' w') (front ++ [nopOf o]) a := by
      have e : (fun a' => ∀ w', (∃ n, w' = w.drewN n) → wpOp P (front ++ [o]).toArray Q front.length (fun a2 w2 => Q .normal a2 w2) a' w') = (fun a' => ∀ w', (∃ n, w' = w.drewN n) → (o.wp P a' w' (fun a2 w2 => Q .normal a2 w2) Q ∨ (o.asks P a' w' ∧ LetsOut Q))) := by
        funext a'
        apply propext
        refine forall_congr' fun w' => imp_congr_right fun _ => ?_
        unfold wpOp
        have : (front ++ [o]).toArray[front.length]? = some o := by simp
        rw [this]
        simp only
        have hw : Region.wanted o (yielded (front ++ [o]).toArray a'.tmps) = true := by
          unfold Region.wanted; rw [hgd]
        rw [if_pos hw]
      rw [e]
      exact quiet_last (fun a' hq w' hw' => .inl (hq w' hw')) _ _ h
    have := wpAnyQ_lex (C := fun w' => ∃ n, w' = w.drewN n) (md := .any) hB.1 (front ++ [nopOf o]) 0 (Array.replicate (front ++ [nopOf o]).toArray.size false) a (by simp) (by simpa using hB.2) h2
    simpa using this

end

end Mc
end Go.Proofs.Ytohefinejdfhaab
