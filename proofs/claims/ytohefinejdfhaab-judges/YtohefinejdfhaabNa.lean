/-
  The document's machine as plain mathematics: operations, states, steps, runs.
-/
import Derived.WalkKit
namespace Go.Proofs.Ytohefinejdfhaab
namespace Mc

/-- An operation. -/
structure OpI where
  k : Int
  a : Int
  b : Int
  c : Int
deriving Inhabited
def regOk (x : Int) : Bool := decide (0 ≤ x) && decide (x < 16)
def wordOk (x : Int) : Bool := decide (0 ≤ x) && decide (x ≤ 65535)
def opOk (o : OpI) (n : Int) : Bool :=
  if o.k = 0 then regOk o.a && wordOk o.b
  else if 1 ≤ o.k ∧ o.k ≤ 5 then regOk o.a && regOk o.b && regOk o.c
  else if o.k = 6 ∨ o.k = 7 then regOk o.a && regOk o.b
  else if o.k = 8 then regOk o.a && (decide (0 ≤ o.b) && decide (o.b ≤ n))
  else false
def codeOk (cs : List OpI) : Prop := cs.length ≤ 4096 ∧ ∀ i, i < cs.length → opOk (cs.getD i default) (cs.length : Int) = true
def memOk (zs : List Int) : Prop := zs.length ≤ 4096 ∧ ∀ i, i < zs.length → wordOk (zs.getD i 0) = true
def stepsOk (k : Int) : Prop := 0 ≤ k ∧ k ≤ 2097152
/-- A state of the machine. -/
structure MS where
  R : List Nat
  M : List Nat
  p : Nat
  T : List Nat
structure MS.Ok (s : MS) (n : Nat) : Prop where
  lr : s.R.length = 16
  lm : s.M.length = 4096
  r : ∀ i, s.R.getD i 0 ≤ 65535
  m : ∀ i, s.M.getD i 0 ≤ 65535
  p : s.p ≤ n
def joinN (k : Int) (x y : Nat) : Nat :=
  if k = 1 then (x + y) % 65536 else if k = 2 then x &&& y else if k = 3 then x ||| y else if k = 4 then x ^^^ y else if x = y then 65535 else 0
theorem joinN_le (k : Int) {x y : Nat} (hx : x ≤ 65535) (hy : y ≤ 65535) : joinN k x y ≤ 65535 := by
  unfold joinN
  have h1 : x &&& y < 2 ^ 16 := Nat.and_lt_two_pow _ (by omega)
  have h2 : x ||| y < 2 ^ 16 := Nat.or_lt_two_pow (by omega) (by omega)
  have h3 : x ^^^ y < 2 ^ 16 := Nat.xor_lt_two_pow (by omega) (by omega)
  split
  · omega
  split
  · omega
  split
  · omega
  split
  · omega
  split <;> omega
/-- What the register of a number holds. -/
def MS.r (s : MS) (x : Int) : Nat := s.R.getD x.toNat 0
/-- A step; none: there is no such address. -/
def stepN (o : OpI) (s : MS) : Option MS :=
  if o.k = 0 then some { s with R := s.R.set o.a.toNat o.b.toNat, p := s.p + 1 }
  else if o.k = 6 then (if s.r o.b < 4096 then some { s with R := s.R.set o.a.toNat (s.M.getD (s.r o.b) 0), p := s.p + 1, T := s.T ++ [s.r o.b] } else none)
  else if o.k = 7 then (if s.r o.b < 4096 then some { s with M := s.M.set (s.r o.b) (s.r o.a), p := s.p + 1, T := s.T ++ [10000 + s.r o.b] } else none)
  else if o.k = 8 then (if s.r o.a = 0 then some { s with p := s.p + 1, T := s.T ++ [20000] } else some { s with p := o.b.toNat, T := s.T ++ [20001] })
  else some { s with R := s.R.set o.a.toNat (joinN o.k (s.r o.b) (s.r o.c)), p := s.p + 1 }

theorem getD_set_le {l : List Nat} {B : Nat} (h : ∀ i, l.getD i 0 ≤ B) {x : Nat} (hx : x ≤ B) (j : Nat) : ∀ i, (l.set j x).getD i 0 ≤ B := by
  intro i
  rw [List.getD_eq_getElem?_getD, List.getElem?_set]
  split
  · split
    · exact hx
    · exact Nat.zero_le _
  · rw [← List.getD_eq_getElem?_getD]; exact h i

theorem stepN_ok {o : OpI} {s s' : MS} {n : Nat} (hs : s.Ok n) (hp : s.p < n) (ho : opOk o n = true) (h : stepN o s = some s') : s'.Ok n := by
  unfold stepN at h
  split at h
  · next hk =>
    rw [opOk, if_pos hk] at ho
    simp [regOk, wordOk] at ho
    simp only [Option.some.injEq] at h; subst h
    exact ⟨by simp [hs.lr], hs.lm, getD_set_le hs.r (by omega) _, hs.m, hp⟩
  · next h0 =>
    split at h
    · split at h
      · simp only [Option.some.injEq] at h; subst h
        exact ⟨by simp [hs.lr], hs.lm, getD_set_le hs.r (hs.m _) _, hs.m, hp⟩
      · cases h
    · split at h
      · split at h
        · simp only [Option.some.injEq] at h; subst h
          exact ⟨hs.lr, by simp [hs.lm], hs.r, getD_set_le hs.m (hs.r _) _, hp⟩
        · cases h
      · next h6 h7 =>
        split at h
        · next h8 =>
          rw [opOk, if_neg h0, if_neg (by omega), if_neg (by omega), if_pos h8] at ho
          simp [regOk] at ho
          split at h
          · simp only [Option.some.injEq] at h; subst h
            exact ⟨hs.lr, hs.lm, hs.r, hs.m, hp⟩
          · simp only [Option.some.injEq] at h; subst h
            exact ⟨hs.lr, hs.lm, hs.r, hs.m, by simp only; omega⟩
        · simp only [Option.some.injEq] at h; subst h
          exact ⟨by simp [hs.lr], hs.lm, getD_set_le hs.r (joinN_le _ (hs.r _) (hs.r _)) _, hs.m, hp⟩
theorem stepN_T {o : OpI} {s s' : MS} (h : stepN o s = some s') : s'.T.length ≤ s.T.length + 1 := by
  unfold stepN at h
  split at h
  · simp only [Option.some.injEq] at h; subst h; simp
  split at h
  · split at h
    · simp only [Option.some.injEq] at h; subst h; simp
    · cases h
  split at h
  · split at h
    · simp only [Option.some.injEq] at h; subst h; simp
    · cases h
  split at h
  · split at h <;> (simp only [Option.some.injEq] at h; subst h; simp)
  · simp only [Option.some.injEq] at h; subst h; simp

/-- How a run ends. -/
inductive RunEnd where
  | ends (s : MS)
  | steps
  | address
def runN (cs : List OpI) : Nat → MS → RunEnd
  | n, s => if cs.length ≤ s.p then .ends s else
    match n with
    | 0 => .steps
    | k + 1 => match stepN (cs.getD s.p default) s with
      | none => .address
      | some s' => runN cs k s'
theorem runN_ends {cs : List OpI} {n : Nat} {s : MS} (h : cs.length ≤ s.p) : runN cs n s = .ends s := by
  unfold runN; rw [if_pos h]
theorem runN_zero {cs : List OpI} {s : MS} (h : s.p < cs.length) : runN cs 0 s = .steps := by
  unfold runN; rw [if_neg (by omega)]
theorem runN_addr {cs : List OpI} {n : Nat} {s : MS} (h : s.p < cs.length) (hs : stepN (cs.getD s.p default) s = none) : runN cs (n + 1) s = .address := by
  unfold runN; rw [if_neg (by omega)]; simp only [hs]
theorem runN_step {cs : List OpI} {n : Nat} {s s' : MS} (h : s.p < cs.length) (hs : stepN (cs.getD s.p default) s = some s') : runN cs (n + 1) s = runN cs n s' := by
  rw [runN.eq_def]; simp only [hs, if_neg (show ¬ cs.length ≤ s.p by omega)]

/-- The memory at the start. -/
def mem0 (zs : List Int) : List Nat := zs.map Int.toNat ++ List.replicate (4096 - zs.length) 0
def ms0 (zs : List Int) : MS := ⟨List.replicate 16 0, mem0 zs, 0, []⟩
theorem mem0_len {zs : List Int} (h : zs.length ≤ 4096) : (mem0 zs).length = 4096 := by simp [mem0]; omega
theorem ms0_ok {zs : List Int} (h : memOk zs) (n : Nat) : (ms0 zs).Ok n := by
  refine ⟨by simp [ms0], mem0_len h.1, fun i => ?_, fun i => ?_, Nat.zero_le _⟩
  · simp only [ms0]
    rw [List.getD_eq_getElem?_getD, List.getElem?_replicate]
    split <;> simp
  · simp only [ms0, mem0]
    rw [List.getD_eq_getElem?_getD]
    by_cases hi : i < zs.length
    · rw [List.getElem?_append_left (by simpa using hi), List.getElem?_map, List.getElem?_eq_getElem hi]
      have := h.2 i hi
      rw [List.getD_eq_getElem?_getD, List.getElem?_eq_getElem hi] at this
      simp [wordOk] at this ⊢
      omega
    · rw [List.getElem?_append_right (by simpa using hi), List.getElem?_replicate]
      split <;> simp
/-- The error, the memory and the trace. -/
structure RunAns where
  e : Int
  M : List Nat
  T : List Nat
def codeB (cs : List OpI) : Bool := decide (cs.length ≤ 4096) && cs.all fun o => opOk o (cs.length : Int)
def memB (zs : List Int) : Bool := decide (zs.length ≤ 4096) && zs.all wordOk
def stepsB (k : Int) : Bool := decide (0 ≤ k) && decide (k ≤ 2097152)
theorem all_getD {α : Type} (l : List α) (d : α) (f : α → Bool) : l.all f = true ↔ ∀ i, i < l.length → f (l.getD i d) = true := by
  rw [List.all_eq_true]
  constructor
  · intro h i hi
    rw [List.getD_eq_getElem?_getD, List.getElem?_eq_getElem hi]
    exact h _ (List.getElem_mem _)
  · intro h x hx
    obtain ⟨i, hi, rfl⟩ := List.getElem_of_mem hx
    have := h i hi
    rw [List.getD_eq_getElem?_getD, List.getElem?_eq_getElem hi] at this
    exact this
theorem codeB_iff (cs : List OpI) : codeB cs = true ↔ codeOk cs := by
  unfold codeB codeOk
  rw [Bool.and_eq_true, decide_eq_true_iff, all_getD cs default]
theorem memB_iff (zs : List Int) : memB zs = true ↔ memOk zs := by
  unfold memB memOk
  rw [Bool.and_eq_true, decide_eq_true_iff, all_getD zs 0]
theorem stepsB_iff (k : Int) : stepsB k = true ↔ stepsOk k := by simp [stepsB, stepsOk]
def takesE (cs : List OpI) (zs : List Int) (k : Int) : Int := if codeB cs = false then 8 else if memB zs = false then 9 else if stepsB k = false then 4 else 0
def endAns : RunEnd → RunAns
  | .ends s => ⟨0, s.M, s.T⟩
  | .steps => ⟨11, [], []⟩
  | .address => ⟨10, [], []⟩
def runAns (cs : List OpI) (zs : List Int) (k : Int) : RunAns :=
  if takesE cs zs k ≠ 0 then ⟨takesE cs zs k, [], []⟩ else endAns (runN cs k.toNat (ms0 zs))

end Mc
end Go.Proofs.Ytohefinejdfhaab
