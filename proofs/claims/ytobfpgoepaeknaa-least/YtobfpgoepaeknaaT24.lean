/-
  What a call leaves as it was: all blocks but some; rows and blocks that outlive it. The cells of a graph.
  Plain mathematics: from the graph to the table: the kinds of states, the classes of letters; how many there can be.
  Plain mathematics: an automaton of few spots has few states and few classes.
  Plain mathematics: marking the pairs of states that a string tells apart, until nothing more is marked.
-/
import Derived.Test.YtobfpgoepaeknaaT11
import Derived.Test.YtobfpgoepaeknaaT01
namespace Go.Proofs.Ytobfpgoepaeknaa
open Go.RowKit

structure Fr (S : List Nat) (w w' : World) : Prop where
  os : w'.os = w.os
  tape : w'.tape = w.tape
  output : w'.output = w.output
  size : w.heap.size ≤ w'.heap.size
  block : ∀ k, k < w.heap.size → k ∉ S → w'.heap[k]? = w.heap[k]?
theorem Fr.refl (S : List Nat) (w : World) : Fr S w w := ⟨rfl, rfl, rfl, Nat.le_refl _, fun _ _ _ => rfl⟩
theorem Fr.and {S S' : List Nat} {a b c : World} (h : Fr S a b) (k : Fr S' b c) (hs : ∀ x ∈ S', x ∈ S ∨ a.heap.size ≤ x) : Fr S a c :=
  ⟨k.os.trans h.os, k.tape.trans h.tape, k.output.trans h.output, Nat.le_trans h.size k.size, fun i hi hn => (k.block i (Nat.lt_of_lt_of_le hi h.size) (fun hm => (hs i hm).elim hn (by omega))).trans (h.block i hi hn)⟩
theorem Fr.mono {S S' : List Nat} {w w' : World} (h : Fr S w w') (hs : ∀ x ∈ S, x ∈ S') : Fr S' w w' := ⟨h.os, h.tape, h.output, h.size, fun k hk hn => h.block k hk (fun hm => hn (hs k hm))⟩
theorem Fr.drew {S : List Nat} {w w' : World} (h : Fr S w w') : Fr S w w'.drew := ⟨h.os, h.tape, h.output, h.size, h.block⟩
theorem Fr.ofBelow {w w' : World} (h : Below w.heap.size w w') : Fr [] w w' := ⟨h.os, h.tape, h.output, h.size, fun k hk _ => h.block k hk⟩
theorem Fr.ofGrown {w w' : World} {row : Option Nat} (h : w.grownBy w' row) : Fr row.toList w w' := ⟨h.os, h.tape, h.output, h.size, fun k hk hn => h.block k hk (fun e => hn (by rw [← e]; simp))⟩
theorem Fr.ofAlloc (w : World) (o : Obj) : Fr [] w (w.alloc o) := Fr.ofBelow ((Below.refl _ _).alloc (Nat.le_refl _) _)
theorem Fr.ofSet (w : World) (b o : Nat) (u : Value) : Fr [b] w (w.setCell ⟨b, o, none⟩ u) := ⟨rfl, rfl, rfl, by simp [World.setCell], fun k _ hn => Below.heap_setCell _ _ _ _ (by simpa using hn)⟩
theorem Fr.ofRow (w : World) (b : Nat) (cs : Array Value) : Fr [b] w (w.setRow b cs) := ⟨rfl, rfl, rfl, by simp, fun k _ hn => setRow_other _ _ _ _ (by simpa using hn)⟩
theorem Fr.next {S : List Nat} {w w1 w2 : World} (h : Fr S w w1) (hb : Below w1.heap.size w1 w2) : Fr S w w2 := h.and (Fr.ofBelow hb) (fun x hx => by cases hx)
theorem Fr.alloc {S : List Nat} {w w1 : World} (h : Fr S w w1) (o : Obj) : Fr S w (w1.alloc o) := h.and (Fr.ofAlloc w1 o) (fun x hx => by cases hx)
theorem Fr.set {S : List Nat} {w w1 : World} (h : Fr S w w1) {b : Nat} (hb : b ∈ S ∨ w.heap.size ≤ b) (o : Nat) (u : Value) : Fr S w (w1.setCell ⟨b, o, none⟩ u) := h.and (Fr.ofSet w1 b o u) (fun x hx => by simp at hx; subst hx; exact hb)
theorem Fr.row {S : List Nat} {w w1 : World} (h : Fr S w w1) {b : Nat} (hb : b ∈ S ∨ w.heap.size ≤ b) (cs : Array Value) : Fr S w (w1.setRow b cs) := h.and (Fr.ofRow w1 b cs) (fun x hx => by simp at hx; subst hx; exact hb)
theorem Fr.grown {S : List Nat} {w w1 w2 : World} {row : Option Nat} (h : Fr S w w1) (hg : w1.grownBy w2 row) (hr : ∀ k, row = some k → k ∈ S ∨ w.heap.size ≤ k) : Fr S w w2 := h.and (Fr.ofGrown hg) (fun x hx => hr x (by simpa using hx))
theorem Fr.below {S : List Nat} {w w' : World} (h : Fr S w w') (hs : ∀ x ∈ S, w.heap.size ≤ x) : Below w.heap.size w w' := ⟨h.os, h.tape, h.output, h.size, fun k hk => h.block k hk (fun hm => by have := hs k hm; omega)⟩
theorem Fr.at {S : List Nat} {w w' : World} (h : Fr S w w') {b : Nat} {o : Obj} (hb : w.heap[b]? = some o) (hn : b ∉ S) : w'.heap[b]? = some o := by
  rw [h.block b (Array.getElem?_eq_some_iff.1 hb).1 hn]; exact hb
theorem Fr.own {S : List Nat} {w w' : World} (h : Fr S w w') {B e z : Nat} {v : Value} {n : Nat} {xs : List Value} (ho : w.ownsRow B e z v n xs) (hn : ∀ q, v.ownBlock = some q → q ∉ S) : w'.ownsRow B e z v n xs := by
  refine ⟨ho.1, ?_⟩
  rcases ho.2 with hl | ⟨g, cap, cur, rfl, h1, hg, rest⟩
  · exact .inl hl
  · exact .inr ⟨g, cap, cur, rfl, h1, h.at hg (hn g rfl), rest⟩
theorem Fr.aut {S : List Nat} {w w' : World} (h : Fr S w w') {g : Nat} {p : Part} (ha : AutB w g p) (hg : g ∉ S) (hn : ∀ nv q, w.heap[g]? = some (.cells (autA nv (fitP p) (p.last : Int)) 56 (0, 0)) → nv.ownBlock = some q → q ∉ S) : AutB w' g p := by
  obtain ⟨nv, h1, h2⟩ := ha
  exact ⟨nv, h.at h1 hg, h.own h2 (fun q hq => hn nv q h1 hq)⟩
/-- A row lies not at a block of another kind. -/
theorem own_off {w : World} {B e z : Nat} {v : Value} {n : Nat} {xs : List Value} (h : w.ownsRow B e z v n xs) {b : Nat} {cs : Array Value} {ty : TypeId} {fr : Nat × Nat} (hb : w.heap[b]? = some (.cells cs ty fr)) (hne : e ≠ ty) : ∀ q, v.ownBlock = some q → q ≠ b := fun q hq e => by
  subst e; exact own_not_at h hq hb hne

/-- The cells of a graph. -/
def graphA (lv : Value) (F : Nat → Nat) (gv nv : Value) : Array Value := rowN [lv] F [gv, nv]
def zcG : Array Value := graphA (.slice none 0 0) (fun _ => 0) (.slice none 0 0) (.slice none 0 0)
theorem graphA_size (lv gv nv : Value) (F : Nat → Nat) : (graphA lv F gv nv).size = 259 := rowN_size _ _ _
theorem zcG_size : zcG.size = 259 := graphA_size _ _ _ _
theorem zcG_ne : zcG ≠ #[] := rowN_ne _ _ _
theorem zvG (w : World) : (zeroValue 101).run Try.prog w = .ok (.agg zcG) w := by kernel_rfl
theorem graphA_0 (lv gv nv : Value) (F : Nat → Nat) : (graphA lv F gv nv)[0]? = some lv := rowN_pre _ _ _ (by simp)
theorem graphA_b (lv gv nv : Value) (F : Nat → Nat) {b : Nat} (h : b < 256) : (graphA lv F gv nv)[1 + b]? = some (.int .i64 ((F b : Nat) : Int)) := rowN_mid [lv] _ _ h
theorem graphA_257 (lv gv nv : Value) (F : Nat → Nat) : (graphA lv F gv nv)[257]? = some gv := rowN_post [lv] _ _ 0
theorem graphA_258 (lv gv nv : Value) (F : Nat → Nat) : (graphA lv F gv nv)[258]? = some nv := rowN_post [lv] _ _ 1
theorem graphA_set (lv gv nv : Value) (F : Nat → Nat) {b : Nat} (h : b < 256) (x : Nat) : (graphA lv F gv nv).setIfInBounds (1 + b) (.int .i64 ((x : Nat) : Int)) = graphA lv (fun c => if c = b then x else F c) gv nv := rowN_set [lv] _ _ h x
theorem graphA_set0 (lv gv nv : Value) (F : Nat → Nat) (v : Value) : (graphA lv F gv nv).setIfInBounds 0 v = graphA v F gv nv := rowN_set_pre [lv] _ _ (by simp) v
theorem graphA_set257 (lv gv nv : Value) (F : Nat → Nat) (v : Value) : (graphA lv F gv nv).setIfInBounds 257 v = graphA lv F v nv := rowN_set_post [lv] _ _ 0 v
theorem graphA_set258 (lv gv nv : Value) (F : Nat → Nat) (v : Value) : (graphA lv F gv nv).setIfInBounds 258 v = graphA lv F gv v := rowN_set_post [lv] _ _ 1 v
theorem graphA_one (a b c : Option Addr) (n1 n2 n3 c1 c2 c3 : Nat) (F : Nat → Nat) : (graphA (.slice a n1 c1) F (.slice b n2 c2) (.slice c n3 c3)).all (·.oneCell') = true := rowN_one F rfl rfl

end Go.Proofs.Ytobfpgoepaeknaa
namespace Go.Proofs.Ytobfpgoepaeknaa

/-- Two states of one kind, told alike, whose letters lead to the same kinds. -/
def EsL (gr : Nat → Bool) (nl : Nat → Nat → Nat) (M : Nat) (kd : Nat → Nat) (a b : Nat) : Prop := kd a = kd b ∧ gr a = gr b ∧ ∀ l, l < M → kd (nl a l) = kd (nl b l)
theorem EsL_eq {E0 : Nat → Nat → Prop} {hb : List Nat} {lt : Nat → Nat} (hs : Sorted 256 E0 hb lt) (gr : Nat → Bool) (nl : Nat → Nat → Nat) (kd : Nat → Nat) : EsL gr nl hb.length kd = Espl (fun i b => nl i (lt b)) gr kd := by
  funext a b
  apply propext
  constructor
  · rintro ⟨h1, h2, h3⟩
    exact ⟨h1, h2, fun c hc => h3 _ (hs.lt c hc)⟩
  · rintro ⟨h1, h2, h3⟩
    refine ⟨h1, h2, fun l hl => ?_⟩
    have g := hs.head l hl
    have := h3 _ g.1
    simp only [g.2] at this
    exact this
theorem EsL_eqv (gr : Nat → Bool) (nl : Nat → Nat → Nat) (M : Nat) (kd : Nat → Nat) : Equivalence (EsL gr nl M kd) :=
  ⟨fun _ => ⟨rfl, rfl, fun _ _ => rfl⟩, fun h => ⟨h.1.symm, h.2.1.symm, fun l hl => (h.2.2 l hl).symm⟩, fun h k => ⟨h.1.trans k.1, h.2.1.trans k.2.1, fun l hl => (h.2.2 l hl).trans (k.2.2 l hl)⟩⟩
theorem Sorted.congr {N : Nat} {E : Nat → Nat → Prop} {hs : List Nat} {kd kd' : Nat → Nat} (h : Sorted N E hs kd) (he : ∀ a, a < N → kd' a = kd a) : Sorted N E hs kd' :=
  ⟨fun k hk => ⟨(h.head k hk).1, by rw [he _ (h.head k hk).1]; exact (h.head k hk).2⟩, fun a ha => by rw [he a ha]; exact h.lt a ha, fun a ha => by rw [he a ha]; exact h.le a ha, h.incr, fun a b ha hb => by rw [he a ha, he b hb]; exact h.iff a b ha hb⟩

/-- Letters that lead alike. -/
def ElT (S : Nat) (nf : Nat → Nat → Nat) (a b : Nat) : Prop := ∀ k, k < S → nf k a = nf k b
theorem ElT_eqv (S : Nat) (nf : Nat → Nat → Nat) : Equivalence (ElT S nf) := ⟨fun _ _ _ => rfl, fun h k hk => (h k hk).symm, fun h g k hk => (h k hk).trans (g k hk)⟩

theorem tab_of {L : List Nat → Prop} {S : Nat} {nf : Nat → Nat → Nat} {gr : Nat → Bool} {E0 : Nat → Nat → Prop} {hb fs : List Nat} {lt cls : Nat → Nat} (hl : Sorted 256 E0 hb lt)
    (hm : MinDfa L S (fun k b => nf k (lt b)) gr) (hc : Sorted hb.length (ElT S nf) fs cls) (h1 : S ≤ 24) (h2 : fs.length ≤ 24) :
    TabOf L S fs.length (fun k b => nf k (lt b)) gr (fun b => cls (lt b)) (fun k c => nf k (fs.getD c 0)) := by
  refine ⟨hm, ⟨fun b hb' => hc.lt _ (hl.lt b hb'), fun b b' g1 g2 => ?_, fun b hb' c hcc => ?_, fun c hcc => ?_⟩, h1, h2, fun i b hi hb' => ?_⟩
  · exact hc.iff _ _ (hl.lt b g1) (hl.lt b' g2)
  · obtain ⟨l, l1, l2⟩ := hc.grow (hl.lt b hb') hcc
    obtain ⟨b', g1, g2⟩ := hl.grow hb' l1
    exact ⟨b', g1, by show cls (lt b') = c; rw [g2, l2]⟩
  · have g := hc.head c hcc
    have k := hl.head _ g.1
    exact ⟨_, k.1, by show cls (lt _) = c; rw [k.2, g.2]⟩
  · have g := hc.head _ (hc.lt _ (hl.lt b hb'))
    exact (hc.iff _ _ g.1 (hl.lt b hb')).1 g.2 i hi
theorem many_of {L : List Nat → Prop} {S n : Nat} {nf : Nat → Nat → Nat} {gr : Nat → Bool} {E0 : Nat → Nat → Prop} {hb fs : List Nat} {lt cls : Nat → Nat} (hl : Sorted 256 E0 hb lt)
    (hm : MinDfa L S (fun k b => nf k (lt b)) gr) (hn : n ≤ hb.length) (hc : Sorted n (ElT S nf) fs cls) (h2 : 24 < fs.length) : ManyClasses L := by
  refine hm.many (fun i => hb.getD (fs.getD i 0) 0) (fun i hi => ?_) (fun i j hij hj => ?_)
  · exact (hl.head _ (Nat.lt_of_lt_of_le (hc.head i (by omega)).1 hn)).1
  · have g := hc.apart hij (show j < fs.length by omega)
    refine Classical.byContradiction fun hno => g fun k hk => ?_
    refine Classical.byContradiction fun hne => hno ⟨k, hk, ?_⟩
    show nf k (lt _) ≠ nf k (lt _)
    rw [(hl.head _ (Nat.lt_of_lt_of_le (hc.head i (by omega)).1 hn)).2, (hl.head _ (Nat.lt_of_lt_of_le (hc.head j (by omega)).1 hn)).2]
    exact hne

/-- Few states, few letters. -/
theorem BfsDfa.notMany {L : List Nat → Prop} {N : Nat} {nx : Nat → Nat → Nat} {gr : Nat → Bool} (h : BfsDfa L N nx gr) (hs : N ≤ 24) : ¬ ManyStates L := by
  rintro ⟨f, f1, f2⟩
  obtain ⟨i, j, hij, hj, e⟩ := pigeon 24 (fun i => dRun nx 0 (f i)) fun i hi => Nat.lt_of_lt_of_le (h.run_lt _ 0 h.pos (f1 i hi)) hs
  refine f2 i j hij hj fun w hw => ?_
  rw [← h.says _ (bytesOk_append (f1 i (by omega)) hw), ← h.says _ (bytesOk_append (f1 j hj) hw), dRun_append, dRun_append]
  rw [show dRun nx 0 (f i) = dRun nx 0 (f j) from e]
theorem BfsDfa.notManyC {L : List Nat → Prop} {N M : Nat} {nl : Nat → Nat → Nat} {gr : Nat → Bool} {lt : Nat → Nat} (h : BfsDfa L N (fun i b => nl i (lt b)) gr) (hl : ∀ b, b < 256 → lt b < M) (hs : M ≤ 24) : ¬ ManyClasses L := by
  rintro ⟨f, f1, f2⟩
  obtain ⟨i, j, hij, hj, e⟩ := pigeon 24 (fun i => lt (f i)) fun i hi => Nat.lt_of_lt_of_le (hl _ (f1 i hi)) hs
  obtain ⟨u, hu, hn⟩ := f2 i j hij hj
  refine hn fun w hw => ?_
  rw [← h.says _ (bytesOk_append (bytesOk_snoc hu (f1 i (by omega))) hw), ← h.says _ (bytesOk_append (bytesOk_snoc hu (f1 j hj)) hw), dRun_append, dRun_append, dRun_append, dRun_append]
  simp only [dRun]
  rw [show lt (f i) = lt (f j) from e]
theorem even_inj {a b : Nat} (ha : a.testBit 0 = false) (hb : b.testBit 0 = false) (h : a / 2 = b / 2) : a = b := by
  have h1 : a % 2 = 0 := by
    rw [Nat.testBit_zero] at ha
    simp at ha; omega
  have h2 : b % 2 = 0 := by
    rw [Nat.testBit_zero] at hb
    simp at hb; omega
  omega
theorem fitP_bit0 {p : Part} (h0 : ∀ b, setAtN p.sets 0 b = false) (b : Nat) : (fitP p b).testBit 0 = false := by
  cases h : (fitP p b).testBit 0
  · rfl
  · have := ((fitN_bit p.sets b 0 _).1 h).2
    rw [h0 b] at this; cases this
theorem letters_few {p : Part} {n : Nat} (hn : p.sets.length ≤ n + 1) (h0 : ∀ b, setAtN p.sets 0 b = false) {hb : List Nat} {lt : Nat → Nat} (hs : Sorted 256 (fun b b' => fitP p b = fitP p b') hb lt) : hb.length ≤ 2 ^ n := by
  refine Nat.le_of_not_lt fun hlt => ?_
  obtain ⟨i, j, hij, hj, e⟩ := pigeon (2 ^ n) (fun i => fitP p (hb.getD i 0) / 2) fun i _ => by
    have h1 := fitN_lt p.sets (hb.getD i 0) p.sets.length
    have h2 : 2 ^ p.sets.length ≤ 2 ^ (n + 1) := Nat.pow_le_pow_right (by omega) hn
    rw [Nat.pow_succ] at h2
    show fitN _ _ _ / 2 < _
    omega
  exact hs.apart hij (by omega) (even_inj (fitP_bit0 h0 _) (fitP_bit0 h0 _) e)
theorem states_few {p : Part} {n M : Nat} (h0 : ∀ b, setAtN p.sets 0 b = false) {B : Nat} (hB : B ≤ 2 ^ (n + 1)) {hb st nx : List Nat} {e : Nat} (h : Drawn B M (fun s c => reachP p s &&& fitP p (hb.getD c 0)) st e nx) : st.length ≤ 2 ^ n + 1 := by
  refine Nat.le_of_not_lt fun hlt => ?_
  have ev : ∀ i, 0 < i → i < st.length → (st.getD i 0).testBit 0 = false := fun i g1 g2 => by
    obtain ⟨k, k1, k2, _⟩ := h.met i g1 g2
    have := (h.edge k k1).2
    rw [k2] at this
    rw [this, Nat.testBit_and, fitP_bit0 h0, Bool.and_false]
  obtain ⟨i, j, hij, hj, e⟩ := pigeon (2 ^ n) (fun i => st.getD (i + 1) 0 / 2) fun i hi => by
    have h1 := h.bound (i + 1) (by omega)
    rw [Nat.pow_succ] at hB
    show _ / 2 < _
    omega
  exact h.nodup (i + 1) (j + 1) (by omega) (by omega) (even_inj (ev _ (by omega) (by omega)) (ev _ (by omega) (by omega)) e)

end Go.Proofs.Ytobfpgoepaeknaa
namespace Go.Proofs.Ytobfpgoepaeknaa

theorem runN_app (p : Part) : ∀ (u w : List Nat) (x : Nat), runN p x (u ++ w) = runN p (runN p x u) w
  | [], _, _ => rfl
  | a :: u, w, x => by rw [List.cons_append, runN, runN_app p u w]; rfl
/-- The state of a string: 1 before the first byte, and an even number behind each. -/
theorem run_state {p : Part} {n : Nat} (h0 : ∀ b, setAtN p.sets 0 b = false) (hn : p.sets.length ≤ n + 1) (u : List Nat) : (u = [] ∧ runN p 1 u = 1) ∨ ((runN p 1 u).testBit 0 = false ∧ runN p 1 u / 2 < 2 ^ n) := by
  rcases List.eq_nil_or_concat u with rfl | ⟨v, b, rfl⟩
  · exact .inl ⟨rfl, rfl⟩
  · right
    rw [List.concat_eq_append, runN_app]
    show (stepN p _ b).testBit 0 = false ∧ stepN p _ b / 2 < _
    rw [stepN_fit]
    have h1 := fitN_lt p.sets b p.sets.length
    have h2 : 2 ^ p.sets.length ≤ 2 ^ (n + 1) := Nat.pow_le_pow_right (by omega) hn
    rw [Nat.pow_succ] at h2
    have h3 : reachP p (runN p 1 v) &&& fitP p b ≤ fitP p b := Nat.and_le_right
    refine ⟨by rw [Nat.testBit_and, fitP_bit0 h0, Bool.and_false], ?_⟩
    have h4 : fitP p b < 2 ^ p.sets.length := h1
    omega
theorem few_states {p : Part} {L : List Nat → Prop} (h0 : ∀ b, setAtN p.sets 0 b = false) (hn : p.sets.length ≤ 5) (hL : ∀ u, runN p 1 u &&& p.last ≠ 0 ↔ L u) : ¬ ManyStates L := by
  rintro ⟨f, f1, f2⟩
  obtain ⟨i, j, hij, hj, e⟩ := pigeon 24 (fun i => if runN p 1 (f i) = 1 then 0 else runN p 1 (f i) / 2 + 1) fun i _ => by
    show (if runN p 1 (f i) = 1 then 0 else runN p 1 (f i) / 2 + 1) < 24
    split
    · omega
    · rcases run_state (n := 4) h0 hn (f i) with ⟨_, h⟩ | ⟨_, h⟩
      · omega
      · omega
  have key : runN p 1 (f i) = runN p 1 (f j) := by
    split at e <;> split at e
    · omega
    · omega
    · omega
    · rcases run_state (n := 4) h0 hn (f i) with ⟨_, h⟩ | ⟨h, _⟩
      · omega
      · rcases run_state (n := 4) h0 hn (f j) with ⟨_, h'⟩ | ⟨h', _⟩
        · omega
        · exact even_inj h h' (by omega)
  refine f2 i j hij hj fun w _ => ?_
  rw [← hL, ← hL, runN_app, runN_app, key]
theorem few_classes {p : Part} {L : List Nat → Prop} (h0 : ∀ b, setAtN p.sets 0 b = false) (hn : p.sets.length ≤ 5) (hL : ∀ u, runN p 1 u &&& p.last ≠ 0 ↔ L u) : ¬ ManyClasses L := by
  rintro ⟨f, f1, f2⟩
  obtain ⟨i, j, hij, hj, e⟩ := pigeon 24 (fun i => fitP p (f i) / 2) fun i _ => by
    have h1 := fitN_lt p.sets (f i) p.sets.length
    have h2 : 2 ^ p.sets.length ≤ 2 ^ 5 := Nat.pow_le_pow_right (by omega) hn
    show fitN _ _ _ / 2 < _
    omega
  have key : fitP p (f i) = fitP p (f j) := even_inj (fitP_bit0 h0 _) (fitP_bit0 h0 _) e
  obtain ⟨u, _, hne⟩ := f2 i j hij hj
  refine hne fun w _ => ?_
  rw [← hL, ← hL, runN_app, runN_app, runN_app, runN_app]
  show runN p (stepN p _ (f i)) w &&& _ ≠ 0 ↔ runN p (stepN p _ (f j)) w &&& _ ≠ 0
  rw [stepN_fit, stepN_fit, key]
theorem autN_spot0 (q : Part) (b : Nat) : setAtN (autN q).sets 0 b = false := rfl

end Go.Proofs.Ytobfpgoepaeknaa
namespace Go.Proofs.Ytobfpgoepaeknaa

def updT (T : Nat → Nat → Bool) (i j : Nat) : Nat → Nat → Bool := fun a b => if a = i ∧ b = j then true else T a b
def markT (T : Nat → Nat → Bool) (i j : Nat) : Nat → Nat → Bool := updT (updT T i j) j i
theorem markT_iff (T : Nat → Nat → Bool) (i j a b : Nat) : markT T i j a b = true ↔ (a = j ∧ b = i) ∨ (a = i ∧ b = j) ∨ T a b = true := by
  unfold markT updT
  by_cases h1 : a = j ∧ b = i
  · simp [h1]
  · rw [if_neg h1]
    by_cases h2 : a = i ∧ b = j
    · simp [h2]
    · rw [if_neg h2]
      constructor
      · exact fun h => .inr (.inr h)
      · rintro (h | h | h)
        · exact absurd h h1
        · exact absurd h h2
        · exact h
def NowT (C : Nat) (nc : Nat → Nat → Nat) (gr : Nat → Bool) (T : Nat → Nat → Bool) (i j k : Nat) : Prop := T i j = true ∨ gr i ≠ gr j ∨ ∃ k', k' < k ∧ k' < C ∧ T (nc i k') (nc j k') = true
structure AprI (S : Nat) (nx : Nat → Nat → Nat) (gr : Nat → Bool) (T : Nat → Nat → Bool) : Prop where
  sym : ∀ a b, T a b = T b a
  snd : ∀ a b, T a b = true → a < S ∧ b < S ∧ ∃ u, bytesOk u ∧ gr (dRun nx a u) ≠ gr (dRun nx b u)
theorem AprI.start (S : Nat) (nx : Nat → Nat → Nat) (gr : Nat → Bool) : AprI S nx gr (fun _ _ => false) := ⟨fun _ _ => rfl, fun _ _ h => by cases h⟩
section apr
variable {L : List Nat → Prop} {S C : Nat} {nx : Nat → Nat → Nat} {gr : Nat → Bool} {cl : Nat → Nat} {nc : Nat → Nat → Nat} {T : Nat → Nat → Bool}
theorem AprI.mark (ht : TabOf L S C nx gr cl nc) (h : AprI S nx gr T) {i j : Nat} (hi : i < S) (hj : j < S) (hn : NowT C nc gr T i j C) : AprI S nx gr (markT T i j) := by
  have key : ∃ u, bytesOk u ∧ gr (dRun nx i u) ≠ gr (dRun nx j u) := by
    rcases hn with hn | hn | ⟨k, _, hk, hn⟩
    · exact (h.snd i j hn).2.2
    · exact ⟨[], bytesOk_nil, hn⟩
    · obtain ⟨b, hb, rfl⟩ := ht.cols.all k hk
      rw [ht.nc i b hi hb, ht.nc j b hj hb] at hn
      obtain ⟨u, hu, hne⟩ := (h.snd _ _ hn).2.2
      exact ⟨b :: u, bytesOk_cons hb hu, hne⟩
  refine ⟨fun a b => ?_, fun a b hab => ?_⟩
  · rw [Bool.eq_iff_iff, markT_iff, markT_iff, h.sym a b]
    constructor
    · rintro (⟨g1, g2⟩ | ⟨g1, g2⟩ | g)
      · exact .inr (.inl ⟨g2, g1⟩)
      · exact .inl ⟨g2, g1⟩
      · exact .inr (.inr g)
    · rintro (⟨g1, g2⟩ | ⟨g1, g2⟩ | g)
      · exact .inr (.inl ⟨g2, g1⟩)
      · exact .inl ⟨g2, g1⟩
      · exact .inr (.inr g)
  · rcases (markT_iff T i j a b).1 hab with ⟨rfl, rfl⟩ | ⟨rfl, rfl⟩ | g
    · obtain ⟨u, hu, hne⟩ := key
      exact ⟨hj, hi, u, hu, fun e => hne e.symm⟩
    · exact ⟨hi, hj, key⟩
    · exact h.snd a b g
/-- When nothing more can be marked, every two states are marked. -/
theorem apart_all (ht : TabOf L S C nx gr cl nc) (h : AprI S nx gr T) (hc : ∀ i j, j < i → i < S → NowT C nc gr T i j C → T i j = true) (i j : Nat) (hij : j < i) (hi : i < S) : T i j = true := by
  have step : ∀ a b, a < S → b < S → T a b = false → gr a = gr b ∧ ∀ x, x < 256 → T (nx a x) (nx b x) = false := fun a b ha hb hT => by
    have no : ∀ a b, b < a → a < S → b < S → T a b = false → gr a = gr b ∧ ∀ x, x < 256 → T (nx a x) (nx b x) = false := fun a b hba ha hb hT => by
      have hn : ¬ NowT C nc gr T a b C := fun hn => by rw [hc a b hba ha hn] at hT; cases hT
      refine ⟨Classical.byContradiction fun hne => hn (.inr (.inl hne)), fun x hx => ?_⟩
      cases hq : T (nx a x) (nx b x)
      · rfl
      · exact absurd (.inr (.inr ⟨cl x, ht.cols.lt x hx, ht.cols.lt x hx, by rw [ht.nc a x ha hx, ht.nc b x hb hx]; exact hq⟩)) hn
    rcases Nat.lt_trichotomy b a with g | g | g
    · exact no a b g ha hb hT
    · subst g
      refine ⟨rfl, fun x _ => ?_⟩
      cases hq : T (nx b x) (nx b x)
      · rfl
      · obtain ⟨u, _, hne⟩ := (h.snd _ _ hq).2.2
        exact absurd rfl hne
    · rw [h.sym] at hT
      obtain ⟨g1, g2⟩ := no b a g hb ha hT
      exact ⟨g1.symm, fun x hx => by rw [h.sym]; exact g2 x hx⟩
  have all : ∀ (u : List Nat) (a b : Nat), a < S → b < S → bytesOk u → T a b = false → gr (dRun nx a u) = gr (dRun nx b u) := by
    intro u
    induction u with
    | nil => intro a b ha hb _ hT; exact (step a b ha hb hT).1
    | cons x u ih =>
      intro a b ha hb hu hT
      have hx := bytesOk_tail hu
      exact ih _ _ (ht.dfa.lt a x ha hx.1) (ht.dfa.lt b x hb hx.1) hx.2 ((step a b ha hb hT).2 x hx.1)
  cases hq : T i j
  · have := ht.dfa.sep i j hi (by omega) fun u hu => all u i j hi (by omega) hu hq
    omega
  · rfl
end apr

/-- How many pairs are not marked. -/
def cntT (T : Nat → Nat → Bool) : Nat := (List.range 576).countP (fun k => !T (k / 24) (k % 24))
theorem countP_le {p q : Nat → Bool} : ∀ (l : List Nat), (∀ x ∈ l, p x = true → q x = true) → l.countP p ≤ l.countP q
  | [], _ => by simp
  | a :: l, h => by
    have ih := countP_le l fun x hx => h x (by simp [hx])
    rw [List.countP_cons, List.countP_cons]
    cases hp : p a
    · simp; omega
    · rw [h a (by simp) hp]; omega
theorem countP_lt {p q : Nat → Bool} {y : Nat} (h1 : p y = false) (h2 : q y = true) : ∀ (l : List Nat), (∀ x ∈ l, p x = true → q x = true) → y ∈ l → l.countP p < l.countP q
  | a :: l, h, hy => by
    rw [List.countP_cons, List.countP_cons]
    by_cases e : a = y
    · subst e
      have := countP_le l fun x hx => h x (by simp [hx])
      rw [h1, h2]; simp; omega
    · have hy' : y ∈ l := by
        rcases List.mem_cons.1 hy with g | g
        · exact absurd g.symm e
        · exact g
      have ih := countP_lt h1 h2 l (fun x hx => h x (by simp [hx])) hy'
      cases hp : p a
      · simp; omega
      · rw [h a (by simp) hp]; omega
theorem cnt_mark {T : Nat → Nat → Bool} {i j : Nat} (hi : i < 24) (hj : j < 24) (h : T i j = false) : cntT (markT T i j) < cntT T := by
  have e : (i * 24 + j) / 24 = i ∧ (i * 24 + j) % 24 = j := by omega
  refine countP_lt (y := i * 24 + j) ?_ ?_ _ (fun x _ hx => ?_) (List.mem_range.2 (by omega))
  · rw [e.1, e.2]
    have : markT T i j i j = true := (markT_iff T i j i j).2 (.inr (.inl ⟨rfl, rfl⟩))
    simp [this]
  · rw [e.1, e.2, h]; rfl
  · cases hq : T (x / 24) (x % 24)
    · rfl
    · have : markT T i j (x / 24) (x % 24) = true := (markT_iff _ _ _ _ _).2 (.inr (.inr hq))
      simp [this] at hx

structure PasI (S C : Nat) (nx : Nat → Nat → Nat) (gr : Nat → Bool) (nc : Nat → Nat → Nat) (n : Nat) (again : Bool) (T : Nat → Nat → Bool) (i j : Nat) : Prop where
  apr : AprI S nx gr T
  le : cntT T ≤ n
  lt : again = true → cntT T + 1 ≤ n
  done : again = false → ∀ i' j', j' < i' → (i' < i ∨ (i' = i ∧ j' < j)) → NowT C nc gr T i' j' C → T i' j' = true
section pas
variable {L : List Nat → Prop} {S C : Nat} {nx : Nat → Nat → Nat} {gr : Nat → Bool} {cl : Nat → Nat} {nc : Nat → Nat → Nat} {T : Nat → Nat → Bool} {n : Nat} {again : Bool} {i j : Nat}
theorem PasI.start (h : AprI S nx gr T) : PasI S C nx gr nc (cntT T) false T 0 0 := ⟨h, Nat.le_refl _, (fun h => by cases h), fun _ i' j' h1 h2 => by omega⟩
theorem PasI.keep (h : PasI S C nx gr nc n again T i j) (hk : NowT C nc gr T i j C → T i j = true) : PasI S C nx gr nc n again T i (j + 1) :=
  ⟨h.apr, h.le, h.lt, fun ha i' j' h1 h2 hn => by
    by_cases e : i' = i ∧ j' = j
    · rw [e.1, e.2] at hn ⊢; exact hk hn
    · exact h.done ha i' j' h1 (by omega) hn⟩
theorem PasI.mark (ht : TabOf L S C nx gr cl nc) (h : PasI S C nx gr nc n again T i j) (hS : S ≤ 24) (hi : i < S) (hj : j < S) (hn : NowT C nc gr T i j C) (hT : T i j = false) : PasI S C nx gr nc n true (markT T i j) i (j + 1) := by
  have hc := cnt_mark (show i < 24 by omega) (show j < 24 by omega) hT
  have hl := h.le
  exact ⟨h.apr.mark ht hi hj hn, by omega, fun _ => by omega, fun h => by cases h⟩
theorem PasI.row (h : PasI S C nx gr nc n again T i i) : PasI S C nx gr nc n again T (i + 1) 0 :=
  ⟨h.apr, h.le, h.lt, fun ha i' j' h1 h2 hn => h.done ha i' j' h1 (by omega) hn⟩
end pas

end Go.Proofs.Ytobfpgoepaeknaa
