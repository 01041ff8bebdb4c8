/-
  judge.Code: the code of an image and its data.
  As the law of the last operation that writes, for one that gives a value (a call): where no operation is guarded.
  judge.Code: the walk.
-/
import Derived.Test.YtlafngfoejngaaaPk
import Derived.Test.YtlafngfoejngaaaN2
namespace Go.Proofs.Ytlafngfoejngaaa
namespace Mc
open Go.RowKit

theorem own_keep {w w' : World} {B e z : Nat} {v : Value} {n : Nat} {xs : List Value} (h : w.ownsRow B e z v n xs) (hk : ∀ (k : Nat) (cs : Array Value) (fr : Nat × Nat), w.heap[k]? = some (Obj.cells cs e fr) → w'.heap[k]? = some (Obj.cells cs e fr)) : w'.ownsRow B e z v n xs := by
  refine ⟨h.1, ?_⟩
  rcases h.2 with hl | ⟨g, cap, cur, rfl, h1, hg, rest⟩
  · exact .inl hl
  · exact .inr ⟨g, cap, cur, rfl, h1, hk _ _ _ hg, rest⟩
section
variable {B : Nat} {w wr w' : World} {gw gl : Nat} {os os' : List OpI} {ds ds' : List Nat}
end
/-- The data and the parts of an image's code. -/
def layD (f : ByteArray) (m : Nat) (ts : Nat → TabN) : Nat → List Nat
  | 0 => verdW f m (2 ^ m)
  | i + 1 => layD f m ts i ++ clsW (ts i) 256 ++ rowsW (ts i) (32 + (layD f m ts i ++ clsW (ts i) 256).length) (2 ^ i) (ts i).S
def layP (f : ByteArray) (m : Nat) (ts : Nat → TabN) : Nat → List Pt
  | 0 => []
  | i + 1 => layP f m ts i ++ [⟨32 + (layD f m ts i).length, 32 + (layD f m ts i).length + 256, ts i⟩]
theorem layP_len (f : ByteArray) (m : Nat) (ts : Nat → TabN) : ∀ i, (layP f m ts i).length = i
  | 0 => rfl
  | i + 1 => by rw [layP, List.length_append, layP_len f m ts i]; rfl
theorem partsOps_snoc (N : Nat) (x : Pt) : ∀ (l : List Pt) (p : Nat), partsOps N p (l ++ [x]) = partsOps N p l ++ tableOps x.cb x.rb x.t N (p + l.length * (14 + 31 * N))
  | [], p => by simp [partsOps]
  | y :: l, p => by
    rw [List.cons_append, partsOps, partsOps, partsOps_snoc N x l, List.append_assoc, List.length_cons, Nat.add_mul, Nat.one_mul, show p + (14 + 31 * N) + l.length * (14 + 31 * N) = p + (l.length * (14 + 31 * N) + (14 + 31 * N)) by omega]
def layO (f : ByteArray) (m N : Nat) (ts : Nat → TabN) (i : Nat) : List OpI := headOps 32 ++ partsOps N 4 (layP f m ts i)
theorem layO_len (f : ByteArray) (m N : Nat) (ts : Nat → TabN) (i : Nat) : (layO f m N ts i).length = 4 + i * (14 + 31 * N) := by
  unfold layO; rw [List.length_append, partsOps_len, layP_len]; rfl
theorem layO_succ (f : ByteArray) (m N : Nat) (ts : Nat → TabN) (i : Nat) : layO f m N ts (i + 1) = layO f m N ts i ++ tableOps (32 + (layD f m ts i).length) (32 + (layD f m ts i).length + 256) (ts i) N (layO f m N ts i).length := by
  rw [layO_len]
  unfold layO
  rw [layP, partsOps_snoc, layP_len, List.append_assoc]
theorem table_steps (os : List OpI) (cb rb N : Nat) (t : TabN) : (os ++ [(⟨0, 3, (rb : Int), 0⟩ : OpI), ⟨0, 4, 0, 0⟩] ++ readsOps cb (cb + 256) rb (rb + t.S * (1 + t.C)) (os.length + 2) N) ++ addMarkOps rb (rb + t.S * (1 + t.C)) (os ++ [(⟨0, 3, (rb : Int), 0⟩ : OpI), ⟨0, 4, 0, 0⟩] ++ readsOps cb (cb + 256) rb (rb + t.S * (1 + t.C)) (os.length + 2) N).length = os ++ tableOps cb rb t N os.length := by
  rw [List.length_append, List.length_append, readsOps_len, Nat.add_comm 1 t.C]
  unfold tableOps
  simp only [List.append_assoc, List.length_cons, List.length_nil]
  rfl
theorem layD_len (f : ByteArray) (m : Nat) (ts : Nat → TabN) (h : ∀ i, i < m → (ts i).Ok) (hm : m ≤ 4) : ∀ i, i ≤ m → (layD f m ts i).length ≤ 16 + i * 856
  | 0, _ => by
    rw [layD, verdW_len]
    have : 2 ^ m ≤ 2 ^ 4 := Nat.pow_le_pow_right (by decide) hm
    omega
  | i + 1, hi => by
    have ih := layD_len f m ts h hm i (by omega)
    have ho := h i (by omega)
    have h1 : (ts i).S * (1 + (ts i).C) ≤ 24 * 25 := Nat.mul_le_mul ho.s2 (by have := ho.c2; omega)
    rw [layD, List.length_append, List.length_append, clsW_len, rowsW_len]
    omega

end Mc
end Go.Proofs.Ytlafngfoejngaaa
namespace Go.Proofs.Ytlafngfoejngaaa
namespace Mc

section
variable {P : Program} {md : Region.Mode} {C : World → Prop}
variable {front : List Oper} {o : Oper}
/-- The operation, but doing nothing and giving nothing. -/
def nopN (o : Oper) : Oper := { o with op := .move (.const undef), dst := none }
def noGuards (l : List Oper) : Bool := l.all fun o => o.guard.isNone
theorem noGuards_at {l : List Oper} (h : noGuards l = true) {i : Nat} {x : Oper} (hx : l.toArray[i]? = some x) : x.guard = none := by
  have hx' : l[i]? = some x := by simpa using hx
  have := List.all_eq_true.1 h x (List.mem_of_getElem? hx')
  simpa using this
theorem ready_sameN : ∀ ls, Region.ready md (front ++ [nopN o]).toArray ls = Region.ready md (front ++ [o]).toArray ls := by
  intro ls
  unfold Region.ready
  have hs : (front ++ [nopN o]).toArray.size = (front ++ [o]).toArray.size := by simp
  rw [hs]
  congr 1
  funext i
  congr 2
  by_cases hi : i < front.length
  · simp [List.getElem?_append_left hi]
  · by_cases hi2 : i = front.length
    · subst hi2; simp [nopN]
    · simp [List.getElem?_append_right (show front.length ≤ i by omega), List.getElem?_eq_none (show [nopN o].length ≤ i - front.length by simp; omega), List.getElem?_eq_none (show [o].length ≤ i - front.length by simp; omega)]
/-- From the walk of the text's order, the last doing nothing, to every order, the last doing what it does. -/
theorem wpAny_lastN {Q : Exit → Act → World → Prop} (hng : noGuards (front ++ [o]) = true) (hcov : covB md (front ++ [o]) = true) (hback : backB (front ++ [o]) = true) (hnop : ∀ (K : Act → Prop) (a : Act), qOp P (front ++ [nopN o]).toArray C front.length K a → K a) :
    ∀ (fuel : Nat) (ls : Array Bool) (a : Act) (w : World), DownC md (front ++ [o]).toArray ls → ls.getD front.length false = false → C w →
      wpAnyQ P md (front ++ [nopN o]).toArray C (fun a' => ∀ w', C w' → wpOp P (front ++ [o]).toArray Q front.length (fun a2 w2 => Q .normal a2 w2) a' w') fuel ls a → wpAny P md (front ++ [o]).toArray Q fuel ls a w := by
  intro fuel
  induction fuel with
  | zero =>
    intro ls a w hd hf _ h
    exact absurd (by rw [← ready_sameN]; exact h.1) (some_left hback hd front.length (by omega) hf)
  | succ fuel ih =>
    intro ls a w hd hf hC h
    refine ⟨fun he => absurd he (some_left hback hd front.length (by omega) hf), fun i hi => ?_⟩
    have h1 := h.2 i (by rw [ready_sameN]; exact hi)
    by_cases hin : i = front.length
    · subst hin
      have h2 := hnop _ _ h1
      have hnone := none_left hcov hd hi
      have h3 : ∀ w', C w' → wpOp P (front ++ [o]).toArray Q front.length (fun a2 w2 => Q .normal a2 w2) a w' := by
        cases fuel with
        | zero => exact h2.2
        | succ f => exact h2.1 (by rw [ready_sameN]; exact hnone)
      exact wpOp_mono (fun a' w' hq => wpAny_done hnone hq _) (h3 w hC)
    · have hsame : (front ++ [nopN o]).toArray[i]? = (front ++ [o]).toArray[i]? := by
        by_cases hl : i < front.length
        · simp [List.getElem?_append_left hl]
        · simp [List.getElem?_append_right (show front.length ≤ i by omega), List.getElem?_eq_none (show [nopN o].length ≤ i - front.length by simp; omega), List.getElem?_eq_none (show [o].length ≤ i - front.length by simp; omega)]
      have h2 : qOp P (front ++ [o]).toArray C i (wpAnyQ P md (front ++ [nopN o]).toArray C (fun a' => ∀ w', C w' → wpOp P (front ++ [o]).toArray Q front.length (fun a2 w2 => Q .normal a2 w2) a' w') fuel (ls.setIfInBounds i true)) a := by
        unfold qOp at h1 ⊢
        rw [hsame] at h1
        cases hx : (front ++ [o]).toArray[i]? with
        | none => rw [hx] at h1; exact h1
        | some x =>
          rw [hx] at h1
          have hg := noGuards_at hng hx
          have hw : ∀ f, Region.wanted x f = true := fun f => by unfold Region.wanted; rw [hg]
          simp only [hw, if_true] at h1 ⊢
          exact h1
      refine wpOp_of_qOp hC (fun a' w' hC' hk => ih (ls.setIfInBounds i true) a' w' (hd.set hi) ?_ hC' hk) h2
      rw [getD_set_ne false hin]; exact hf

/-- THE RULE: the class is 'the world after some draws'. -/
theorem wp_region_call {id : Nat} {Q : Exit → Act → World → Prop} {a : Act} {w : World} {l : List Oper} (hl : l = l.dropLast ++ [o]) (hm : P.follows .mixedOrders = true) (hgd : o.guard = none) (hng : noGuards (l.dropLast ++ [o]) = true)
    (hB : Region.lexB .any (l.dropLast ++ [nopN o]).toArray = true) (hcov : covB .any (l.dropLast ++ [o]) = true) (hback : backB (l.dropLast ++ [o]) = true)
    (h : wpQuiet P (l.dropLast ++ [nopN o]).toArray (fun w' => ∃ n, w' = w.drewN n) (fun a' => ∀ w', (∃ n, w' = w.drewN n) → o.wp P a' w' (fun a2 w2 => Q .normal a2 w2) Q) (l.dropLast ++ [nopN o]) a) : (Code.region id l.toArray true).wp P Q a w := by
  rw [hl]
  generalize l.dropLast = front at *
  have hsz : (front ++ [o]).toArray.size = front.length + 1 := by simp
  refine wp_region_any hm ?_
  refine wpAny_lastN (C := fun w' => ∃ n, w' = w.drewN n) hng hcov hback ?_ _ _ _ _ ⟨by simp, fun j oj hj hls => ?_⟩ ?_ ⟨1, rfl⟩ ?_
  · intro K a hq
    unfold qOp at hq
    have : (front ++ [nopN o]).toArray[front.length]? = some (nopN o) := by simp
    rw [this] at hq
    simp only at hq
    have hw : Region.wanted (nopN o) (yielded (front ++ [nopN o]).toArray a.tmps) = true := by
      unfold Region.wanted nopN; rw [hgd]
    rw [if_pos hw] at hq
    obtain ⟨v, -, hk⟩ := hq
    have hd2 : (nopN o).dst = none := rfl
    rw [hd2] at hk
    exact hk
  · exfalso
    have hlt : j < (front ++ [o]).toArray.size := (Array.getElem?_eq_some_iff.1 hj).1
    simp [Array.getElem?_replicate] at hls
    rw [if_pos (by simpa using hlt)] at hls
    cases hls
  · simp
  · simp only [Region.lexB, Bool.and_eq_true] at hB
    have h2 : wpQuiet P (front ++ [nopN o]).toArray (fun w' => ∃ n, w' = w.drewN n) (fun a' => ∀ w', (∃ n, w' = w.drewN n) → wpOp P (front ++ [o]).toArray Q front.length (fun a2 w2 => Q .normal a2 w2) a' w') (front ++ [nopN o]) a := by
      have e : (fun a' => ∀ w', (∃ n, w' = w.drewN n) → wpOp P (front ++ [o]).toArray Q front.length (fun a2 w2 => Q .normal a2 w2) a' w') = (fun a' => ∀ w', (∃ n, w' = w.drewN n) → (o.wp P a' w' (fun a2 w2 => Q .normal a2 w2) Q ∨ (o.asks P a' w' ∧ LetsOut Q))) := by
        funext a'
        apply propext
        refine forall_congr' fun w' => imp_congr_right fun _ => ?_
        unfold wpOp
        have : (front ++ [o]).toArray[front.length]? = some o := by simp
        rw [this]
        simp only
        have hw : Region.wanted o (yielded (front ++ [o]).toArray a'.tmps) = true := by
          unfold Region.wanted; rw [hgd]
        rw [if_pos hw]
      rw [e]
      exact quiet_last (fun a' hq w' hw' => .inl (hq w' hw')) _ _ h
    have := wpAnyQ_lex (C := fun w' => ∃ n, w' = w.drewN n) (md := .any) hB.1 (front ++ [nopN o]) 0 (Array.replicate (front ++ [nopN o]).toArray.size false) a (by simp) (by simpa using hB.2) h2
    simpa using this

end

end Mc
end Go.Proofs.Ytlafngfoejngaaa
namespace Go.Proofs.Ytlafngfoejngaaa
namespace Mc
open Go.RowKit

theorem code_steps (f : ByteArray) (m N : Nat) (ts : Nat → TabN) : layO f m N ts m ++ [(⟨3, 5, 2, 2⟩ : OpI)] ++ lookOps 32 (32 + 2 ^ m) (layO f m N ts m ++ [(⟨3, 5, 2, 2⟩ : OpI)]).length ++ [(⟨0, 10, 17, 0⟩ : OpI), ⟨7, 6, 10, 0⟩] = codeOf 32 N (layP f m ts m) := by
  unfold codeOf tailOps
  rw [List.length_append, layO_len, layP_len]
  unfold layO
  simp only [List.append_assoc]
  rfl

section
attribute [local go_sem ↓] Go.wp_at_zero Go.wp_at_succ zvTb
attribute [local go_sem] zcTb_size zcTb_ne aggcells
end

end Mc
end Go.Proofs.Ytlafngfoejngaaa
