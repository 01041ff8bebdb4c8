/-
  Runs of code, piece by piece: single operations, and looking a word up among all the words of an area.
-/
import Derived.Test.YtlafngfoejngaaaN1
namespace Go.Proofs.Ytlafngfoejngaaa
namespace Mc

/-- So many steps, none of them the last. -/
def stepsN (cs : List OpI) : Nat → MS → Option MS
  | 0, s => some s
  | n + 1, s => if s.p < cs.length then (stepN (cs.getD s.p default) s).bind (stepsN cs n) else none
theorem stepsN_add {cs : List OpI} : ∀ (n m : Nat) (s : MS), stepsN cs (n + m) s = (stepsN cs n s).bind (stepsN cs m)
  | 0, m, s => by rw [Nat.zero_add]; rfl
  | n + 1, m, s => by
    rw [show n + 1 + m = (n + m) + 1 by omega]
    unfold stepsN
    split
    · cases h : stepN (cs.getD s.p default) s with
      | none => rfl
      | some s' => simp only [Option.bind_some]; exact stepsN_add n m s'
    · rfl
theorem runN_of_steps {cs : List OpI} : ∀ (n k : Nat) (s s' : MS), stepsN cs n s = some s' → cs.length ≤ s'.p → n ≤ k → runN cs k s = .ends s'
  | 0, k, s, s', h, hp, _ => by
    simp only [stepsN, Option.some.injEq] at h
    subst h
    exact runN_ends hp
  | n + 1, 0, _, _, _, _, hk => by omega
  | n + 1, k + 1, s, s', h, hp, hk => by
    unfold stepsN at h
    split at h
    · next hlt =>
      cases hs : stepN (cs.getD s.p default) s with
      | none => rw [hs] at h; cases h
      | some s1 =>
        rw [hs] at h
        rw [runN_step hlt hs]
        exact runN_of_steps n k s1 s' h hp (by omega)
    · cases h

/-- What a state holds. -/
structure St (s : MS) (g : Nat → Nat) (M : List Nat) (p : Nat) (T : List Nat) : Prop where
  len : s.R.length = 16
  reg : ∀ j, j < 16 → s.R.getD j 0 = g j
  mem : s.M = M
  pos : s.p = p
  tr : s.T = T
def upd (g : Nat → Nat) (a v : Nat) : Nat → Nat := fun j => if j = a then v else g j
theorem upd_same (g : Nat → Nat) (a v : Nat) : upd g a v a = v := if_pos rfl
theorem upd_ne (g : Nat → Nat) {a j : Nat} (v : Nat) (h : j ≠ a) : upd g a v j = g j := if_neg h
/-- A piece of a run: from all states that hold the one to a state that holds the other. -/
def Goes (cs : List OpI) (n : Nat) (g : Nat → Nat) (M : List Nat) (p : Nat) (T : List Nat) (post : (Nat → Nat) → Prop) (M' : List Nat) (p' : Nat) (T' : List Nat) : Prop :=
  ∀ s, St s g M p T → ∃ s' g', stepsN cs n s = some s' ∧ St s' g' M' p' T' ∧ post g'
section
variable {cs : List OpI} {n m : Nat} {g : Nat → Nat} {M M' M2 : List Nat} {p p' p2 : Nat} {T T' T2 : List Nat} {post post2 : (Nat → Nat) → Prop}
theorem Goes.zero (h : post g) : Goes cs 0 g M p T post M p T := fun s hs => ⟨s, g, rfl, hs, h⟩
theorem Goes.next (h : Goes cs n g M p T post M' p' T') (k : ∀ g', post g' → Goes cs m g' M' p' T' post2 M2 p2 T2) : Goes cs (n + m) g M p T post2 M2 p2 T2 := fun s hs => by
  obtain ⟨s1, g1, h1, h2, h3⟩ := h s hs
  obtain ⟨s2, g2, k1, k2, k3⟩ := k g1 h3 s1 h2
  exact ⟨s2, g2, by rw [stepsN_add, h1]; exact k1, k2, k3⟩
theorem Goes.mono (h : Goes cs n g M p T post M' p' T') (k : ∀ g', post g' → post2 g') : Goes cs n g M p T post2 M' p' T' := fun s hs => by
  obtain ⟨s1, g1, h1, h2, h3⟩ := h s hs
  exact ⟨s1, g1, h1, h2, k g1 h3⟩
theorem goes_one {o : OpI} (ho : cs[p]? = some o) (h : ∀ s, St s g M p T → ∃ s', stepN o s = some s' ∧ ∃ g', St s' g' M' p' T' ∧ post g') : Goes cs 1 g M p T post M' p' T' := fun s hs => by
  obtain ⟨s', h1, g', h2, h3⟩ := h s hs
  refine ⟨s', g', ?_, h2, h3⟩
  have hlt := (List.getElem?_eq_some_iff.1 ho).1
  unfold stepsN
  rw [hs.pos, if_pos hlt, List.getD_eq_getElem?_getD, ho]
  simp only [Option.getD_some, h1]
  rfl
theorem St.upd {s : MS} (hs : St s g M p T) {a v : Nat} : St ⟨s.R.set a v, s.M, s.p + 1, s.T⟩ (upd g a v) M (p + 1) T := by
  refine ⟨by rw [List.length_set]; exact hs.len, fun j hj => ?_, hs.mem, by rw [← hs.pos], hs.tr⟩
  show (s.R.set a v).getD j 0 = _
  rw [List.getD_eq_getElem?_getD, List.getElem?_set]
  unfold Mc.upd
  by_cases e : a = j
  · subst e; rw [if_pos rfl, if_pos (by rw [hs.len]; exact hj), if_pos rfl]; rfl
  · rw [if_neg e, if_neg (fun q => e q.symm), ← List.getD_eq_getElem?_getD]; exact hs.reg j hj
def opN (k a b c : Nat) : OpI := ⟨(k : Int), (a : Int), (b : Int), (c : Int)⟩
theorem goes_set {a v c : Nat} (ho : cs[p]? = some (opN 0 a v c)) (h : post (upd g a v)) : Goes cs 1 g M p T post M (p + 1) T :=
  goes_one ho fun s hs => ⟨_, by simp [stepN, opN], _, hs.upd, h⟩
theorem goes_join {k a x y : Nat} (hk : 1 ≤ k ∧ k ≤ 5) (hx : x < 16) (hy : y < 16) (ho : cs[p]? = some (opN k a x y)) (h : post (upd g a (joinN (k : Int) (g x) (g y)))) : Goes cs 1 g M p T post M (p + 1) T :=
  goes_one ho fun s hs => by
    refine ⟨⟨s.R.set a (joinN (k : Int) (g x) (g y)), s.M, s.p + 1, s.T⟩, ?_, _, hs.upd, h⟩
    rw [stepN, if_neg (by simp [opN]; omega), if_neg (by simp [opN]; omega), if_neg (by simp [opN]; omega), if_neg (by simp [opN]; omega)]
    simp only [opN, MS.r, Int.toNat_natCast]
    rw [hs.reg x hx, hs.reg y hy]
theorem St.r {s : MS} (hs : St s g M p T) {x : Nat} (hx : x < 16) : s.r (x : Int) = g x := by
  unfold MS.r; rw [Int.toNat_natCast]; exact hs.reg x hx
theorem goes_load {a x c : Nat} (hx : x < 16) (hg : g x < 4096) (ho : cs[p]? = some (opN 6 a x c)) (h : post (upd g a (M.getD (g x) 0))) : Goes cs 1 g M p T post M (p + 1) (T ++ [g x]) :=
  goes_one ho fun s hs => by
    have hu := hs.upd (a := a) (v := M.getD (g x) 0)
    refine ⟨⟨s.R.set a (M.getD (g x) 0), s.M, s.p + 1, s.T ++ [g x]⟩, ?_, _, ⟨hu.len, hu.reg, hu.mem, hu.pos, by show s.T ++ [g x] = _; rw [hs.tr]⟩, h⟩
    have hr := hs.r hx
    rw [stepN, if_neg (by simp [opN]), if_pos (by simp [opN]), if_pos (by show s.r (x : Int) < 4096; rw [hr]; exact hg)]
    simp only [opN, hr, hs.mem, Int.toNat_natCast]
theorem goes_store {a x c : Nat} (ha : a < 16) (hx : x < 16) (hg : g x < 4096) (ho : cs[p]? = some (opN 7 a x c)) (h : post g) : Goes cs 1 g M p T post (M.set (g x) (g a)) (p + 1) (T ++ [10000 + g x]) :=
  goes_one ho fun s hs => by
    refine ⟨⟨s.R, s.M.set (g x) (g a), s.p + 1, s.T ++ [10000 + g x]⟩, ?_, g, ⟨hs.len, hs.reg, by show s.M.set _ _ = _; rw [hs.mem], by show s.p + 1 = _; rw [hs.pos], by show s.T ++ _ = _; rw [hs.tr]⟩, h⟩
    have hr := hs.r hx
    have hr2 := hs.r ha
    rw [stepN, if_neg (by simp [opN]), if_neg (by simp [opN]), if_pos (by simp [opN]), if_pos (by show s.r (x : Int) < 4096; rw [hr]; exact hg)]
    simp only [opN, hr, hr2]
theorem goes_no {a b c : Nat} (ha : a < 16) (hg : g a = 0) (ho : cs[p]? = some (opN 8 a b c)) (h : post g) : Goes cs 1 g M p T post M (p + 1) (T ++ [20000]) :=
  goes_one ho fun s hs => by
    refine ⟨⟨s.R, s.M, s.p + 1, s.T ++ [20000]⟩, ?_, g, ⟨hs.len, hs.reg, hs.mem, by show s.p + 1 = _; rw [hs.pos], by show s.T ++ _ = _; rw [hs.tr]⟩, h⟩
    rw [stepN, if_neg (by simp [opN]), if_neg (by simp [opN]), if_neg (by simp [opN]), if_pos (by simp [opN])]
    rw [if_pos (by show s.r (a : Int) = 0; rw [hs.r ha]; exact hg)]
theorem goes_yes {a b c : Nat} (ha : a < 16) (hg : g a ≠ 0) (ho : cs[p]? = some (opN 8 a b c)) (h : post g) : Goes cs 1 g M p T post M b (T ++ [20001]) :=
  goes_one ho fun s hs => by
    refine ⟨⟨s.R, s.M, b, s.T ++ [20001]⟩, ?_, g, ⟨hs.len, hs.reg, hs.mem, rfl, by show s.T ++ _ = _; rw [hs.tr]⟩, h⟩
    rw [stepN, if_neg (by simp [opN]), if_neg (by simp [opN]), if_neg (by simp [opN]), if_pos (by simp [opN])]
    rw [if_neg (by show ¬ s.r (a : Int) = 0; rw [hs.r ha]; exact hg)]
    simp only [opN, Int.toNat_natCast]
end

/-- The operations that look a word up: between b and e, at the place p of the code. -/
def lookOps (b e p : Nat) : List OpI := [opN 0 7 b 0, opN 0 8 e 0, opN 0 6 0 0, opN 6 9 7 0, opN 5 10 7 5, opN 2 9 9 10, opN 3 6 6 9, opN 1 7 7 0, opN 4 10 7 8, opN 8 10 (p + 3) 0]
/-- What it leaves in the trace. -/
def lookT : Nat → Nat → List Nat
  | _, 0 => []
  | b, 1 => [b, 20000]
  | b, n + 2 => [b, 20001] ++ lookT (b + 1) (n + 1)
/-- A piece of the code. -/
def At (cs : List OpI) (p : Nat) (l : List OpI) : Prop := ∀ i, i < l.length → cs[p + i]? = l[i]?
theorem At.app {cs : List OpI} {p : Nat} {l l2 : List OpI} (h : At cs p (l ++ l2)) : At cs p l ∧ At cs (p + l.length) l2 := by
  refine ⟨fun i hi => ?_, fun i hi => ?_⟩
  · rw [h i (by rw [List.length_append]; omega), List.getElem?_append_left hi]
  · rw [Nat.add_assoc, h (l.length + i) (by rw [List.length_append]; omega), List.getElem?_append_right (by omega), Nat.add_sub_cancel_left]
/-- What is found. -/
def found (M : List Nat) (b e w : Nat) : Nat := if b ≤ w ∧ w < e then M.getD w 0 else 0
/-- The registers that looking leaves alone. -/
def Keeps (g g' : Nat → Nat) : Prop := ∀ j, j ≠ 6 → j ≠ 7 → j ≠ 8 → j ≠ 9 → j ≠ 10 → g' j = g j

theorem and_full {x : Nat} (h : x ≤ 65535) : x &&& 65535 = x := by
  have : (65535 : Nat) = 2 ^ 16 - 1 := by decide
  rw [this, Nat.and_two_pow_sub_one_eq_mod]
  exact Nat.mod_eq_of_lt (by omega)

/-- One round of the looking, ahead of its jump. -/
theorem look_round {cs : List OpI} {M : List Nat} {b e p x : Nat} (hc : At cs p (lookOps b e p)) (hM : ∀ i, M.getD i 0 ≤ 65535) (he : e ≤ 4096) (hx : x < e) (hb : b ≤ x) (g0 g : Nat → Nat) (h0 : g0 0 = 1) (T : List Nat)
    (hk : Keeps g0 g) (h7 : g 7 = x) (h8 : g 8 = e) (h6 : g 6 = found M b x (g0 5)) :
    Goes cs 6 g M (p + 3) T (fun g' => Keeps g0 g' ∧ g' 7 = x + 1 ∧ g' 8 = e ∧ g' 6 = found M b (x + 1) (g0 5) ∧ g' 10 = (x + 1) ^^^ e) M (p + 9) (T ++ [x]) := by
  have c3 := hc 3 (by simp [lookOps])
  have c4 := hc 4 (by simp [lookOps])
  have c5 := hc 5 (by simp [lookOps])
  have c6 := hc 6 (by simp [lookOps])
  have c7 := hc 7 (by simp [lookOps])
  have c8 := hc 8 (by simp [lookOps])
  have g0' : g 0 = 1 := by rw [hk 0 (by decide) (by decide) (by decide) (by decide) (by decide)]; exact h0
  have g5 : g 5 = g0 5 := hk 5 (by decide) (by decide) (by decide) (by decide) (by decide)
  have hl := goes_load (g := g) (M := M) (p := p + 3) (T := T) (a := 9) (x := 7) (c := 0) (post := fun q => q = upd g 9 (M.getD x 0)) (by decide) (by rw [h7]; omega) c3 (by rw [h7])
  rw [h7] at hl
  refine (hl.next (m := 5) fun q hq => ?_)
  subst hq
  refine Goes.next (n := 1) (m := 4) (goes_join (k := 5) (post := fun q => q = upd (upd g 9 (M.getD x 0)) 10 (if x = g0 5 then 65535 else 0)) (by decide) (by decide) (by decide) c4 ?_) fun q hq => ?_
  · rw [upd_ne _ _ (by decide), upd_ne _ _ (by decide), h7, g5]
    congr 1
  subst hq
  refine Goes.next (n := 1) (m := 3) (goes_join (k := 2) (post := fun q => Keeps g0 q ∧ q 7 = x ∧ q 8 = e ∧ q 6 = found M b x (g0 5) ∧ q 9 = (if x = g0 5 then M.getD x 0 else 0)) (by decide) (by decide) (by decide) c5 ?_) fun q hq => ?_
  · refine ⟨fun j a6 a7 a8 a9 a10 => ?_, ?_, ?_, ?_, ?_⟩
    · rw [upd_ne _ _ a9, upd_ne _ _ a10, upd_ne _ _ a9]; exact hk j a6 a7 a8 a9 a10
    · rw [upd_ne _ _ (by decide), upd_ne _ _ (by decide), upd_ne _ _ (by decide)]; exact h7
    · rw [upd_ne _ _ (by decide), upd_ne _ _ (by decide), upd_ne _ _ (by decide)]; exact h8
    · rw [upd_ne _ _ (by decide), upd_ne _ _ (by decide), upd_ne _ _ (by decide)]; exact h6
    · rw [upd_same, upd_ne _ _ (by decide), upd_same, upd_same]
      show joinN 2 _ _ = _
      unfold joinN
      rw [if_neg (by decide), if_pos rfl]
      split
      · exact and_full (hM x)
      · exact Nat.and_zero _
  obtain ⟨hk2, q7, q8, q6, q9⟩ := hq
  refine Goes.next (n := 1) (m := 2) (goes_join (k := 3) (post := fun r => Keeps g0 r ∧ r 7 = x ∧ r 8 = e ∧ r 6 = found M b (x + 1) (g0 5)) (by decide) (by decide) (by decide) c6 ?_) fun r hr => ?_
  · refine ⟨fun j a6 a7 a8 a9 a10 => ?_, ?_, ?_, ?_⟩
    · rw [upd_ne _ _ a6]; exact hk2 j a6 a7 a8 a9 a10
    · rw [upd_ne _ _ (by decide)]; exact q7
    · rw [upd_ne _ _ (by decide)]; exact q8
    · rw [upd_same, q6, q9]
      show joinN 3 _ _ = _
      unfold joinN found
      rw [if_neg (by decide), if_neg (by decide), if_pos rfl]
      by_cases e1 : x = g0 5
      · rw [if_pos e1, if_neg (by omega), if_pos (by omega), e1]; exact Nat.zero_or _
      · rw [if_neg e1, Nat.or_zero]
        by_cases e2 : b ≤ g0 5 ∧ g0 5 < x
        · rw [if_pos e2, if_pos (by omega)]
        · rw [if_neg e2, if_neg (by omega)]
  obtain ⟨hk3, r7, r8, r6⟩ := hr
  have r0 : r 0 = 1 := by rw [hk3 0 (by decide) (by decide) (by decide) (by decide) (by decide)]; exact h0
  refine Goes.next (n := 1) (m := 1) (goes_join (k := 1) (post := fun q => Keeps g0 q ∧ q 7 = x + 1 ∧ q 8 = e ∧ q 6 = found M b (x + 1) (g0 5)) (by decide) (by decide) (by decide) c7 ?_) fun q hq => ?_
  · refine ⟨fun j a6 a7 a8 a9 a10 => ?_, ?_, ?_, ?_⟩
    · rw [upd_ne _ _ a7]; exact hk3 j a6 a7 a8 a9 a10
    · rw [upd_same, r7, r0]
      show joinN 1 _ _ = _
      unfold joinN
      rw [if_pos rfl]; omega
    · rw [upd_ne _ _ (by decide)]; exact r8
    · rw [upd_ne _ _ (by decide)]; exact r6
  obtain ⟨hk4, q7, q8, q6⟩ := hq
  refine goes_join (k := 4) (by decide) (by decide) (by decide) c8 ⟨fun j a6 a7 a8 a9 a10 => ?_, ?_, ?_, ?_, ?_⟩
  · rw [upd_ne _ _ a10]; exact hk4 j a6 a7 a8 a9 a10
  · rw [upd_ne _ _ (by decide)]; exact q7
  · rw [upd_ne _ _ (by decide)]; exact q8
  · rw [upd_ne _ _ (by decide)]; exact q6
  · rw [upd_same, q7, q8]
    show joinN 4 _ _ = _
    unfold joinN
    rw [if_neg (by decide), if_neg (by decide), if_neg (by decide), if_pos rfl]

theorem xor_zero_iff {x y : Nat} : x ^^^ y = 0 ↔ x = y := by
  constructor
  · intro h
    have := congrArg (· ^^^ y) h
    simpa [Nat.xor_assoc] using this
  · rintro rfl; exact Nat.xor_self _

theorem look_loop {cs : List OpI} {M : List Nat} {b e p : Nat} (hc : At cs p (lookOps b e p)) (hM : ∀ i, M.getD i 0 ≤ 65535) (he : e ≤ 4096) (g0 : Nat → Nat) (h0 : g0 0 = 1) :
    ∀ (n x : Nat) (g : Nat → Nat) (T : List Nat), x + (n + 1) = e → b ≤ x → Keeps g0 g → g 7 = x → g 8 = e → g 6 = found M b x (g0 5) →
      Goes cs (7 * (n + 1)) g M (p + 3) T (fun g' => Keeps g0 g' ∧ g' 6 = found M b e (g0 5)) M (p + 10) (T ++ lookT x (n + 1)) := by
  have c9 := hc 9 (by simp [lookOps])
  intro n
  induction n with
  | zero =>
    intro x g T hx hb hk h7 h8 h6
    refine Goes.next (n := 6) (m := 1) (look_round hc hM he (by omega) hb g0 g h0 T hk h7 h8 h6) fun q hq => ?_
    obtain ⟨hk2, q7, q8, q6, q10⟩ := hq
    have := goes_no (M := M) (T := T ++ [x]) (post := fun g' => Keeps g0 g' ∧ g' 6 = found M b e (g0 5)) (by decide) (by rw [q10]; exact xor_zero_iff.2 (by omega)) c9 ⟨hk2, by rw [q6, show x + 1 = e by omega]⟩
    simpa [lookT, List.append_assoc] using this
  | succ n ih =>
    intro x g T hx hb hk h7 h8 h6
    rw [show 7 * (n + 1 + 1) = 6 + (1 + 7 * (n + 1)) by omega]
    refine Goes.next (look_round hc hM he (by omega) hb g0 g h0 T hk h7 h8 h6) fun q hq => ?_
    obtain ⟨hk2, q7, q8, q6, q10⟩ := hq
    refine Goes.next (goes_yes (M := M) (T := T ++ [x]) (post := fun g' => g' = q) (by decide) (by rw [q10]; intro hz; have := xor_zero_iff.1 hz; omega) c9 rfl) fun r hr => ?_
    subst hr
    have := ih (x + 1) r (T ++ [x] ++ [20001]) (by omega) (by omega) hk2 q7 q8 q6
    simpa [lookT, List.append_assoc] using this

/-- Looking a word up. -/
theorem look_any {cs : List OpI} {M : List Nat} {b e p : Nat} (hc : At cs p (lookOps b e p)) (hM : ∀ i, M.getD i 0 ≤ 65535) (hb : b < e) (he : e ≤ 4096) (g : Nat → Nat) (h0 : g 0 = 1) (T : List Nat) :
    Goes cs (3 + 7 * (e - b)) g M p T (fun g' => Keeps g g' ∧ g' 6 = found M b e (g 5)) M (p + 10) (T ++ lookT b (e - b)) := by
  have c0 := hc 0 (by simp [lookOps])
  have c1 := hc 1 (by simp [lookOps])
  have c2 := hc 2 (by simp [lookOps])
  obtain ⟨n, hn⟩ : ∃ n, e - b = n + 1 := ⟨e - b - 1, by omega⟩
  rw [hn, show 3 + 7 * (n + 1) = 1 + (1 + (1 + 7 * (n + 1))) by omega]
  refine Goes.next (goes_set (post := fun q => q = upd g 7 b) c0 rfl) fun q hq => ?_
  subst hq
  refine Goes.next (goes_set (post := fun q => q = upd (upd g 7 b) 8 e) c1 rfl) fun q hq => ?_
  subst hq
  refine Goes.next (goes_set (post := fun q => q = upd (upd (upd g 7 b) 8 e) 6 0) c2 rfl) fun q hq => ?_
  subst hq
  refine look_loop hc hM he g h0 n b _ T (by omega) (Nat.le_refl _) (fun j a6 a7 a8 _ _ => ?_) ?_ ?_ ?_
  · rw [upd_ne _ _ a6, upd_ne _ _ a8, upd_ne _ _ a7]
  · rw [upd_ne _ _ (by decide), upd_ne _ _ (by decide), upd_same]
  · rw [upd_ne _ _ (by decide), upd_same]
  · rw [upd_same, found, if_neg (by omega)]

end Mc
end Go.Proofs.Ytlafngfoejngaaa
