/-
  Blocks of cells that hold an array of 256 numbers between other cells.
-/
import Derived.Test.YtohefinejdfhaabWi
import Derived.Test.YtohefinejdfhaabTV
namespace Go.Proofs.Ytohefinejdfhaab
open Go.RowKit

def midN (f : Nat → Nat) : List Value := (List.range 256).map (fun b => Value.int .i64 ((f b : Nat) : Int))
theorem midN_len (f : Nat → Nat) : (midN f).length = 256 := by rw [midN, List.length_map, List.length_range]
theorem midN_get (f : Nat → Nat) {b : Nat} (h : b < 256) : (midN f)[b]? = some (.int .i64 ((f b : Nat) : Int)) := by
  rw [midN, List.getElem?_map, List.getElem?_range h]; rfl
def rowN (pre : List Value) (f : Nat → Nat) (post : List Value) : Array Value := (pre ++ (midN f ++ post)).toArray
theorem rowN_size (pre post : List Value) (f : Nat → Nat) : (rowN pre f post).size = pre.length + 256 + post.length := by
  rw [rowN, List.size_toArray, List.length_append, List.length_append, midN_len, Nat.add_assoc]
theorem rowN_pre (pre post : List Value) (f : Nat → Nat) {i : Nat} (h : i < pre.length) : (rowN pre f post)[i]? = pre[i]? := by
  simp only [rowN, List.getElem?_toArray]; rw [List.getElem?_append_left h]
theorem rowN_mid (pre post : List Value) (f : Nat → Nat) {b : Nat} (h : b < 256) : (rowN pre f post)[pre.length + b]? = some (.int .i64 ((f b : Nat) : Int)) := by
  simp only [rowN, List.getElem?_toArray]
  rw [List.getElem?_append_right (by omega), Nat.add_sub_cancel_left, List.getElem?_append_left (by rw [midN_len]; exact h), midN_get f h]
theorem rowN_post (pre post : List Value) (f : Nat → Nat) (i : Nat) : (rowN pre f post)[pre.length + 256 + i]? = post[i]? := by
  simp only [rowN, List.getElem?_toArray]
  rw [Nat.add_assoc, List.getElem?_append_right (by omega), Nat.add_sub_cancel_left, List.getElem?_append_right (by rw [midN_len]; omega), midN_len, Nat.add_sub_cancel_left]
theorem rowN_congr {pre post : List Value} {f g : Nat → Nat} (h : ∀ b, b < 256 → f b = g b) : rowN pre f post = rowN pre g post := by
  have : midN f = midN g := List.map_congr_left (fun b hb => by rw [h b (List.mem_range.1 hb)])
  rw [rowN, rowN, this]
theorem rowN_set (pre post : List Value) (f : Nat → Nat) {b : Nat} (hb : b < 256) (x : Nat) : (rowN pre f post).setIfInBounds (pre.length + b) (.int .i64 ((x : Nat) : Int)) = rowN pre (fun c => if c = b then x else f c) post := by
  apply Array.ext_getElem?
  intro i
  rw [Array.getElem?_setIfInBounds]
  by_cases h1 : i < pre.length
  · rw [if_neg (by omega), rowN_pre _ _ _ h1, rowN_pre _ _ _ h1]
  · obtain ⟨c, rfl⟩ : ∃ c, i = pre.length + c := ⟨i - pre.length, by omega⟩
    by_cases h2 : c < 256
    · rw [rowN_mid _ _ _ h2, rowN_mid _ _ _ h2]
      by_cases h3 : c = b
      · subst h3; rw [if_pos rfl, if_pos (by rw [rowN_size]; omega), if_pos rfl]
      · rw [if_neg (by omega), if_neg h3]
    · obtain ⟨d, rfl⟩ : ∃ d, c = 256 + d := ⟨c - 256, by omega⟩
      rw [if_neg (by omega), ← Nat.add_assoc, rowN_post, rowN_post]
theorem rowN_set_pre (pre post : List Value) (f : Nat → Nat) {i : Nat} (hi : i < pre.length) (v : Value) : (rowN pre f post).setIfInBounds i v = rowN (pre.set i v) f post := by
  unfold rowN
  rw [List.setIfInBounds_toArray, List.set_append_left _ _ hi]
theorem rowN_set_post (pre post : List Value) (f : Nat → Nat) (i : Nat) (v : Value) : (rowN pre f post).setIfInBounds (pre.length + 256 + i) v = rowN pre f (post.set i v) := by
  unfold rowN
  rw [List.setIfInBounds_toArray, Nat.add_assoc, List.set_append_right _ _ (by omega), Nat.add_sub_cancel_left, List.set_append_right _ _ (by rw [midN_len]; omega), midN_len, Nat.add_sub_cancel_left]
theorem midN_one (f : Nat → Nat) : (midN f).all (·.oneCell') = true := by
  rw [List.all_eq_true]
  intro v hv
  obtain ⟨b, _, rfl⟩ := List.mem_map.1 hv
  rfl
theorem rowN_one {pre post : List Value} (f : Nat → Nat) (h1 : pre.all (·.oneCell') = true) (h2 : post.all (·.oneCell') = true) : (rowN pre f post).all (·.oneCell') = true := by
  unfold rowN
  rw [List.all_toArray, List.all_append, List.all_append, h1, h2, midN_one]; rfl
theorem rowN_ne (pre post : List Value) (f : Nat → Nat) : rowN pre f post ≠ #[] := fun e => by have := rowN_size pre post f; rw [e] at this; simp at this; omega

/-- The cells of an automaton. -/
def autA (nv : Value) (f : Nat → Nat) (last : Int) : Array Value := rowN [nv] f [.int .i64 last]
def zcA : Array Value := autA (.slice none 0 0) (fun _ => 0) 0
theorem autA_size (nv : Value) (f : Nat → Nat) (last : Int) : (autA nv f last).size = 258 := rowN_size _ _ _
theorem zcA_size : zcA.size = 258 := autA_size _ _ _
theorem zcA_ne : zcA ≠ #[] := rowN_ne _ _ _
theorem zvA (w : World) : (zeroValue 74).run Try.prog w = .ok (.agg zcA) w := by kernel_rfl
theorem autA_0 (nv : Value) (f : Nat → Nat) (last : Int) : (autA nv f last)[0]? = some nv := rowN_pre _ _ _ (by simp)
theorem autA_b (nv : Value) (f : Nat → Nat) (last : Int) {b : Nat} (h : b < 256) : (autA nv f last)[1 + b]? = some (.int .i64 ((f b : Nat) : Int)) := rowN_mid [nv] _ _ h
theorem autA_257 (nv : Value) (f : Nat → Nat) (last : Int) : (autA nv f last)[257]? = some (.int .i64 last) := rowN_post [nv] _ _ 0
theorem autA_set (nv : Value) (f : Nat → Nat) (last : Int) {b : Nat} (h : b < 256) (x : Nat) : (autA nv f last).setIfInBounds (1 + b) (.int .i64 ((x : Nat) : Int)) = autA nv (fun c => if c = b then x else f c) last := rowN_set [nv] _ _ h x
theorem autA_one (a : Option Addr) (n c : Nat) (f : Nat → Nat) (last : Int) : (autA (.slice a n c) f last).all (·.oneCell') = true := rowN_one f rfl rfl

/-- An automaton, as a value and in memory. -/
def AutV (w : World) (v : Value) (p : Part) : Prop := ∃ nv, v = .agg (autA nv (fitP p) (p.last : Int)) ∧ NRow w 0 nv p.next
theorem AutV.below {w w' : World} {v : Value} {p : Part} (h : AutV w v p) (hb : Below w.heap.size w w') : AutV w' v p := by
  obtain ⟨nv, h1, h2⟩ := h
  exact ⟨nv, h1, h2.below hb⟩
def AutB (w : World) (g : Nat) (p : Part) : Prop := ∃ nv, w.heap[g]? = some (.cells (autA nv (fitP p) (p.last : Int)) 74 (0, 0)) ∧ NRow w 0 nv p.next
theorem AutB.below {w w' : World} {g : Nat} {p : Part} (h : AutB w g p) (hb : Below w.heap.size w w') : AutB w' g p := by
  obtain ⟨nv, h1, h2⟩ := h
  exact ⟨nv, by rw [hb.block _ (Array.getElem?_eq_some_iff.1 h1).1]; exact h1, h2.below hb⟩
theorem AutB.drew {w : World} {g : Nat} {p : Part} (h : AutB w g p) : AutB w.drew g p := h
theorem fitP_lt {p : Part} (hp : p.Ok) (hl : p.next.length ≤ 50) (b : Nat) : fitP p b < top := Nat.lt_trans (fitN_lt _ _ _) (pow_top (by rw [hp.1]; omega))
theorem reachP_lt {p : Part} (hp : p.Ok) (hl : p.next.length ≤ 50) (x : Nat) : reachP p x < top := Nat.lt_of_lt_of_le (reachN_lt hp.2.2.2 x _) (Nat.pow_le_pow_right (n := 2) (by omega) (show p.next.length ≤ 60 by omega))

end Go.Proofs.Ytohefinejdfhaab
