/-
  What a call leaves as it was: all blocks but some; rows and blocks that outlive it. The cells of a graph.
-/
import Derived.Test.YtohefinejdfhaabWk
namespace Go.Proofs.Ytohefinejdfhaab
open Go.RowKit

structure Fr (S : List Nat) (w w' : World) : Prop where
  os : w'.os = w.os
  tape : w'.tape = w.tape
  output : w'.output = w.output
  size : w.heap.size ≤ w'.heap.size
  block : ∀ k, k < w.heap.size → k ∉ S → w'.heap[k]? = w.heap[k]?
theorem Fr.refl (S : List Nat) (w : World) : Fr S w w := ⟨rfl, rfl, rfl, Nat.le_refl _, fun _ _ _ => rfl⟩
theorem Fr.and {S S' : List Nat} {a b c : World} (h : Fr S a b) (k : Fr S' b c) (hs : ∀ x ∈ S', x ∈ S ∨ a.heap.size ≤ x) : Fr S a c :=
  ⟨k.os.trans h.os, k.tape.trans h.tape, k.output.trans h.output, Nat.le_trans h.size k.size, fun i hi hn => (k.block i (Nat.lt_of_lt_of_le hi h.size) (fun hm => (hs i hm).elim hn (by omega))).trans (h.block i hi hn)⟩
theorem Fr.mono {S S' : List Nat} {w w' : World} (h : Fr S w w') (hs : ∀ x ∈ S, x ∈ S') : Fr S' w w' := ⟨h.os, h.tape, h.output, h.size, fun k hk hn => h.block k hk (fun hm => hn (hs k hm))⟩
theorem Fr.drew {S : List Nat} {w w' : World} (h : Fr S w w') : Fr S w w'.drew := ⟨h.os, h.tape, h.output, h.size, h.block⟩
theorem Fr.ofBelow {w w' : World} (h : Below w.heap.size w w') : Fr [] w w' := ⟨h.os, h.tape, h.output, h.size, fun k hk _ => h.block k hk⟩
theorem Fr.ofGrown {w w' : World} {row : Option Nat} (h : w.grownBy w' row) : Fr row.toList w w' := ⟨h.os, h.tape, h.output, h.size, fun k hk hn => h.block k hk (fun e => hn (by rw [← e]; simp))⟩
theorem Fr.ofAlloc (w : World) (o : Obj) : Fr [] w (w.alloc o) := Fr.ofBelow ((Below.refl _ _).alloc (Nat.le_refl _) _)
theorem Fr.ofSet (w : World) (b o : Nat) (u : Value) : Fr [b] w (w.setCell ⟨b, o, none⟩ u) := ⟨rfl, rfl, rfl, by simp [World.setCell], fun k _ hn => Below.heap_setCell _ _ _ _ (by simpa using hn)⟩
theorem Fr.ofRow (w : World) (b : Nat) (cs : Array Value) : Fr [b] w (w.setRow b cs) := ⟨rfl, rfl, rfl, by simp, fun k _ hn => setRow_other _ _ _ _ (by simpa using hn)⟩
theorem Fr.next {S : List Nat} {w w1 w2 : World} (h : Fr S w w1) (hb : Below w1.heap.size w1 w2) : Fr S w w2 := h.and (Fr.ofBelow hb) (fun x hx => by cases hx)
theorem Fr.alloc {S : List Nat} {w w1 : World} (h : Fr S w w1) (o : Obj) : Fr S w (w1.alloc o) := h.and (Fr.ofAlloc w1 o) (fun x hx => by cases hx)
theorem Fr.set {S : List Nat} {w w1 : World} (h : Fr S w w1) {b : Nat} (hb : b ∈ S ∨ w.heap.size ≤ b) (o : Nat) (u : Value) : Fr S w (w1.setCell ⟨b, o, none⟩ u) := h.and (Fr.ofSet w1 b o u) (fun x hx => by simp at hx; subst hx; exact hb)
theorem Fr.row {S : List Nat} {w w1 : World} (h : Fr S w w1) {b : Nat} (hb : b ∈ S ∨ w.heap.size ≤ b) (cs : Array Value) : Fr S w (w1.setRow b cs) := h.and (Fr.ofRow w1 b cs) (fun x hx => by simp at hx; subst hx; exact hb)
theorem Fr.grown {S : List Nat} {w w1 w2 : World} {row : Option Nat} (h : Fr S w w1) (hg : w1.grownBy w2 row) (hr : ∀ k, row = some k → k ∈ S ∨ w.heap.size ≤ k) : Fr S w w2 := h.and (Fr.ofGrown hg) (fun x hx => hr x (by simpa using hx))
theorem Fr.below {S : List Nat} {w w' : World} (h : Fr S w w') (hs : ∀ x ∈ S, w.heap.size ≤ x) : Below w.heap.size w w' := ⟨h.os, h.tape, h.output, h.size, fun k hk => h.block k hk (fun hm => by have := hs k hm; omega)⟩
theorem Fr.at {S : List Nat} {w w' : World} (h : Fr S w w') {b : Nat} {o : Obj} (hb : w.heap[b]? = some o) (hn : b ∉ S) : w'.heap[b]? = some o := by
  rw [h.block b (Array.getElem?_eq_some_iff.1 hb).1 hn]; exact hb
theorem Fr.own {S : List Nat} {w w' : World} (h : Fr S w w') {B e z : Nat} {v : Value} {n : Nat} {xs : List Value} (ho : w.ownsRow B e z v n xs) (hn : ∀ q, v.ownBlock = some q → q ∉ S) : w'.ownsRow B e z v n xs := by
  refine ⟨ho.1, ?_⟩
  rcases ho.2 with hl | ⟨g, cap, cur, rfl, h1, hg, rest⟩
  · exact .inl hl
  · exact .inr ⟨g, cap, cur, rfl, h1, h.at hg (hn g rfl), rest⟩
theorem Fr.aut {S : List Nat} {w w' : World} (h : Fr S w w') {g : Nat} {p : Part} (ha : AutB w g p) (hg : g ∉ S) (hn : ∀ nv q, w.heap[g]? = some (.cells (autA nv (fitP p) (p.last : Int)) 74 (0, 0)) → nv.ownBlock = some q → q ∉ S) : AutB w' g p := by
  obtain ⟨nv, h1, h2⟩ := ha
  exact ⟨nv, h.at h1 hg, h.own h2 (fun q hq => hn nv q h1 hq)⟩
/-- A row lies not at a block of another kind. -/
theorem own_off {w : World} {B e z : Nat} {v : Value} {n : Nat} {xs : List Value} (h : w.ownsRow B e z v n xs) {b : Nat} {cs : Array Value} {ty : TypeId} {fr : Nat × Nat} (hb : w.heap[b]? = some (.cells cs ty fr)) (hne : e ≠ ty) : ∀ q, v.ownBlock = some q → q ≠ b := fun q hq e => by
  subst e; exact own_not_at h hq hb hne

/-- The cells of a graph. -/
def graphA (lv : Value) (F : Nat → Nat) (gv nv : Value) : Array Value := rowN [lv] F [gv, nv]
def zcG : Array Value := graphA (.slice none 0 0) (fun _ => 0) (.slice none 0 0) (.slice none 0 0)
theorem graphA_size (lv gv nv : Value) (F : Nat → Nat) : (graphA lv F gv nv).size = 259 := rowN_size _ _ _
theorem zcG_size : zcG.size = 259 := graphA_size _ _ _ _
theorem zcG_ne : zcG ≠ #[] := rowN_ne _ _ _
theorem zvG (w : World) : (zeroValue 115).run Try.prog w = .ok (.agg zcG) w := by kernel_rfl
theorem graphA_0 (lv gv nv : Value) (F : Nat → Nat) : (graphA lv F gv nv)[0]? = some lv := rowN_pre _ _ _ (by simp)
theorem graphA_b (lv gv nv : Value) (F : Nat → Nat) {b : Nat} (h : b < 256) : (graphA lv F gv nv)[1 + b]? = some (.int .i64 ((F b : Nat) : Int)) := rowN_mid [lv] _ _ h
theorem graphA_257 (lv gv nv : Value) (F : Nat → Nat) : (graphA lv F gv nv)[257]? = some gv := rowN_post [lv] _ _ 0
theorem graphA_258 (lv gv nv : Value) (F : Nat → Nat) : (graphA lv F gv nv)[258]? = some nv := rowN_post [lv] _ _ 1
theorem graphA_set (lv gv nv : Value) (F : Nat → Nat) {b : Nat} (h : b < 256) (x : Nat) : (graphA lv F gv nv).setIfInBounds (1 + b) (.int .i64 ((x : Nat) : Int)) = graphA lv (fun c => if c = b then x else F c) gv nv := rowN_set [lv] _ _ h x
theorem graphA_set0 (lv gv nv : Value) (F : Nat → Nat) (v : Value) : (graphA lv F gv nv).setIfInBounds 0 v = graphA v F gv nv := rowN_set_pre [lv] _ _ (by simp) v
theorem graphA_set257 (lv gv nv : Value) (F : Nat → Nat) (v : Value) : (graphA lv F gv nv).setIfInBounds 257 v = graphA lv F v nv := rowN_set_post [lv] _ _ 0 v
theorem graphA_set258 (lv gv nv : Value) (F : Nat → Nat) (v : Value) : (graphA lv F gv nv).setIfInBounds 258 v = graphA lv F gv v := rowN_set_post [lv] _ _ 1 v
theorem graphA_one (a b c : Option Addr) (n1 n2 n3 c1 c2 c3 : Nat) (F : Nat → Nat) : (graphA (.slice a n1 c1) F (.slice b n2 c2) (.slice c n3 c3)).all (·.oneCell') = true := rowN_one F rfl rfl

end Go.Proofs.Ytohefinejdfhaab
