/-
  A load out of the midst of a row; the bytes of a string.
  The automaton: setAt.
  Blocks of cells that hold an array of 256 numbers between other cells.
-/
import Derived.Test.YtobfpgoepaeknaaT07
import Derived.Test.YtobfpgoepaeknaaWh
import Derived.Test.YtobfpgoepaeknaaT01
namespace Go.Proofs.Ytobfpgoepaeknaa
open Go.RowKit

theorem wpList_load_mid {P : Program} {ops : Array Oper} {rest : List Oper} {o : Oper} {a : Act} {w : World} {Q : Exit → Act → World → Prop} (hgd : o.guard = none) (ty : TypeId) (x : Operand) (ho : o.op = .load ty x)
    (a0 : Addr) (hx : a.eval x = .pointer (some a0)) (cs : Array Value) (hc : ∀ j v, cs.toList[j]? = some v → w.cell? (a0.add j) = some v) (d : TypeDesc)
    (hu : P.underlying ty = some d) (hd : (match d with | .struct _ | .array _ _ => true | _ => false) = true) (hi : (P.info? ty).map (·.size) = some cs.size)
    (h : wpList P ops Q rest (a.put o.dst (.agg cs)) w) : wpList P ops Q (o :: rest) a w := by
  refine wpList_plain hgd fun _ hK => ?_
  have hl := run_loadCells_list (P := P) w a0 cs.toList hc
  simp only [Array.length_toList, Array.toArray_toList] at hl
  cases hq : P.info? ty with
  | none => simp [hq] at hi
  | some i =>
    have hs : i.size = cs.size := by simpa [hq] using hi
    have hagg : (isAgg ty).run P w = .ok true w := by
      unfold isAgg
      rw [Sem.run_bind, run_underlying hu w]
      cases d <;> simp_all
    have hrun : (loadVar ty a0).run P w = .ok (.agg cs) w := by
      simp [loadVar, Sem.run_bind, hagg, sizeOf, typeInfo, hq, hs, hl]
    unfold Oper.wp execOp
    simp only [ho, hx, Instr.loadAt, Instr.sureAddr, Sem.run_bind, Sem.run_pure, Result.andThen_ok, hrun]
    exact hK _ _ h

/-- The bytes of a string. -/
def bytesN (s : ByteArray) : List Nat := s.data.toList.map fun b => b.toNat
theorem bytesN_len (s : ByteArray) : (bytesN s).length = s.size := by unfold bytesN; rw [List.length_map, Array.length_toList]; rfl
theorem bytesN_at (s : ByteArray) (k : Nat) (h : k < s.size) (h' : k < (bytesN s).length) : (bytesN s)[k] = s[k].toNat := by simp [bytesN, ByteArray.getElem_eq_getElem_data]

end Go.Proofs.Ytobfpgoepaeknaa
namespace Go.Proofs.Ytobfpgoepaeknaa
open Go.RowKit
attribute [local go_sem ↓] zvS
attribute [local go_sem] zcS_size zcS_ne
attribute [local go_sem ↓] Go.wp_at_zero Go.wp_at_succ

/-- The sets in memory. -/
def FsRow (w : World) (B : Nat) (v : Value) (fs : List (Nat → Bool)) : Prop := w.ownsRow B 85 256 v fs.length (setsCells fs)
theorem FsRow.below {w w' : World} {B : Nat} {v : Value} {fs : List (Nat → Bool)} (h : FsRow w B v fs) (hb : Below w.heap.size w w') : FsRow w' B v fs := own_below h hb
theorem FsRow.form {w : World} {B : Nat} {v : Value} {fs : List (Nat → Bool)} (h : FsRow w B v fs) : (∃ a c, v = .slice a fs.length c) := by
  rcases h.2 with ⟨rfl, h0⟩ | ⟨g, cap, cur, rfl, _⟩
  · exact ⟨none, 0, by rw [h0]⟩
  · exact ⟨_, _, rfl⟩

theorem set_cells {w : World} {B g cap : Nat} {fs : List (Nat → Bool)} (h : FsRow w B (.slice (some ⟨g, 0, none⟩) fs.length cap) fs) (k : Nat) (f : Nat → Bool) (hk : fs[k]? = some f) :
    ∀ j v, (setA f).toList[j]? = some v → w.cell? ((⟨g, k * 256, none⟩ : Addr).add j) = some v := by
  have key : ∀ (l : List (Nat → Bool)) (k : Nat) (j : Nat) (v : Value), l[k]? = some f → (setA f).toList[j]? = some v → (setsCells l)[k * 256 + j]? = some v := by
    intro l
    induction l with
    | nil => intro k j v h; simp at h
    | cons a l ih =>
      intro k j v h hv
      have e : setsCells (a :: l) = (setA a).toList ++ setsCells l := by simp [setsCells]
      rw [e]
      have hl : (setA a).toList.length = 256 := by rw [Array.length_toList, size_setA]
      have hj : j < 256 := by
        have := (List.getElem?_eq_some_iff.1 hv).1
        rwa [Array.length_toList, size_setA] at this
      cases k with
      | zero =>
        simp only [List.getElem?_cons_zero, Option.some.injEq] at h
        subst h
        rw [List.getElem?_append_left (by rw [hl]; omega), Nat.zero_mul, Nat.zero_add]
        exact hv
      | succ k =>
        rw [List.getElem?_append_right (by rw [hl]; omega), hl]
        have := ih k j v (by simpa using h) hv
        rw [show (k + 1) * 256 + j - 256 = k * 256 + j from by omega]
        exact this
  intro j v hv
  have h1 := key fs k j v hk hv
  have h' : w.ownsRow B 85 256 (.slice (some ⟨g, 0, none⟩) fs.length cap) fs.length (setsCells fs) := h
  have h2 := h'.cells (g := g) rfl _ _ h1
  have hadd : (⟨g, 0, none⟩ : Addr).add (k * 256 + j) = (⟨g, k * 256, none⟩ : Addr).add j := by unfold Addr.add; split <;> split <;> simp_all
  rwa [hadd] at h2

theorem setOf_neg {fs : List (Nat → Bool)} {z : Int} (h : z < 0) : setOf fs z = fun _ => false := by unfold setOf; rw [if_neg (by omega)]
theorem setOf_over {fs : List (Nat → Bool)} {z : Int} (h : (fs.length : Int) ≤ z) : setOf fs z = fun _ => false := by
  unfold setOf; rw [if_pos (by omega), List.getElem?_eq_none (by omega)]; rfl
theorem setOf_at {fs : List (Nat → Bool)} {k : Nat} {f : Nat → Bool} (h : fs[k]? = some f) : setOf fs (k : Int) = f := by
  unfold setOf; rw [if_pos (by omega), Int.toNat_natCast, h]; rfl

set_option maxHeartbeats 400000 in
theorem setAt_any (w : World) (na : Option Addr) (nn nc : Nat) (sv : Value) (fs : List (Nat → Bool)) (z : Int) (B : Nat) (h : FsRow w B sv fs) (hl : fs.length ≤ 1000) :
    Calls Try.prog 41 #[.agg #[.slice na nn nc, sv], .int .i64 z] w fun e w' => e = .returned (.agg (setA (setOf fs z))) ∧ Below w.heap.size w w' := by
  obtain ⟨sa, sc, rfl⟩ := h.form
  have H := hide h
  have HT := hide (heap_alloc2_old w (Obj.cells #[.slice na nn nc, .slice sa fs.length sc] 50) (Obj.cells zcS 85))
  have HZ := hide (heap_alloc2_new w (Obj.cells #[.slice na nn nc, .slice sa fs.length sc] 50) (Obj.cells zcS 85))
  have HB := hide (((Below.refl w.heap.size w).alloc (Nat.le_refl _) (Obj.cells #[.slice na nn nc, .slice sa fs.length sc] 50)).alloc (by simp) (Obj.cells zcS 85))
  have hlI : (fs.length : Int) ≤ 1000 := by omega
  clear h hl
  by_cases hz : z < 0
  · rw [setOf_neg hz]
    go_enter Try.func41, Try.ntmps41
    go_wp2_with (refine wpList_store_row rfl 85 _ _ rfl (w.heap.size + 1) zcS rfl rfl 85 _ (unhide HZ) (by rw [zero84, size_setA]; kernel_rfl) rfl (by rw [zero84]; exact setA_one _) ?_)
    exact bodyPost_ret (v := .agg (setA fun _ => false))
        (by rw [← zero84]; exact results_cell_row (p := 4) (ty := 85) rfl _ _ (w.heap.size + 1) 85 _ (0, 0) _ rfl (setRow_heap _ _ _ _ _ _ (unhide HZ)) Try.underlying85 rfl (by rw [zero84, size_setA]; kernel_rfl))
        rfl ⟨rfl, below_setRow (unhide HB) (by omega) _⟩
  · by_cases hz2 : (fs.length : Int) ≤ z
    · rw [setOf_over hz2]
      have hz0 : 0 ≤ z := by omega
      clear hz
      go_enter Try.func41, Try.ntmps41
      go_wp2_with (refine wpList_store_row rfl 85 _ _ rfl (w.heap.size + 1) zcS rfl rfl 85 _ (unhide HZ) (by rw [zero84, size_setA]; kernel_rfl) rfl (by rw [zero84]; exact setA_one _) ?_)
      exact bodyPost_ret (v := .agg (setA fun _ => false))
        (by rw [← zero84]; exact results_cell_row (p := 4) (ty := 85) rfl _ _ (w.heap.size + 1) 85 _ (0, 0) _ rfl (setRow_heap _ _ _ _ _ _ (unhide HZ)) Try.underlying85 rfl (by rw [zero84, size_setA]; kernel_rfl))
        rfl ⟨rfl, below_setRow (unhide HB) (by omega) _⟩
    · obtain ⟨k, rfl⟩ := Int.eq_ofNat_of_zero_le (show 0 ≤ z by omega)
      have hk : k < fs.length := by omega
      have hkI : (k : Int) < (fs.length : Int) := by omega
      have hf : fs[k]? = some fs[k] := List.getElem?_eq_getElem hk
      rw [setOf_at hf]
      obtain ⟨m, hm⟩ : ∃ m, fs.length = m + 1 := ⟨fs.length - 1, by omega⟩
      obtain ⟨g, cap, he⟩ : ∃ g cap, Value.slice sa fs.length sc = .slice (some ⟨g, 0, none⟩) fs.length cap := by
        have h' : w.ownsRow B 85 256 (.slice sa fs.length sc) fs.length (setsCells fs) := unhide H
        rw [hm] at h' ⊢; exact own_form h'
      simp only [Value.slice.injEq, true_and] at he
      obtain ⟨rfl, rfl⟩ := he
      have HC := hide (set_cells ((unhide H).below (unhide HB)) k _ hf)
      generalize fs[k] = f at *
      clear hz hz2 hf hm hk
      go_enter Try.func41, Try.ntmps41
      go_wp2_with (first
        | refine wpList_load_mid rfl 85 _ rfl ⟨g, k * 256, none⟩ rfl (setA f) (unhide HC) _ Try.underlying85 rfl (by rw [size_setA]; kernel_rfl) ?_
        | refine wpList_store_row rfl 85 _ _ rfl (w.heap.size + 1) _ rfl rfl 85 _ (unhide HZ) (by rw [size_setA]; kernel_rfl) (by rw [zero84, size_setA, size_setA]) (setA_one _) ?_)
      exact bodyPost_ret (v := .agg (setA f))
        (results_cell_row (p := 4) (ty := 85) rfl _ _ (w.heap.size + 1) 85 _ (0, 0) _ rfl (setRow_heap _ _ _ _ _ _ (unhide HZ)) Try.underlying85 rfl (by rw [size_setA]; kernel_rfl))
        rfl ⟨rfl, below_setRow (unhide HB) (by omega) _⟩

end Go.Proofs.Ytobfpgoepaeknaa
namespace Go.Proofs.Ytobfpgoepaeknaa
open Go.RowKit

def midN (f : Nat → Nat) : List Value := (List.range 256).map (fun b => Value.int .i64 ((f b : Nat) : Int))
theorem midN_len (f : Nat → Nat) : (midN f).length = 256 := by rw [midN, List.length_map, List.length_range]
theorem midN_get (f : Nat → Nat) {b : Nat} (h : b < 256) : (midN f)[b]? = some (.int .i64 ((f b : Nat) : Int)) := by
  rw [midN, List.getElem?_map, List.getElem?_range h]; rfl
def rowN (pre : List Value) (f : Nat → Nat) (post : List Value) : Array Value := (pre ++ (midN f ++ post)).toArray
theorem rowN_size (pre post : List Value) (f : Nat → Nat) : (rowN pre f post).size = pre.length + 256 + post.length := by
  rw [rowN, List.size_toArray, List.length_append, List.length_append, midN_len, Nat.add_assoc]
theorem rowN_pre (pre post : List Value) (f : Nat → Nat) {i : Nat} (h : i < pre.length) : (rowN pre f post)[i]? = pre[i]? := by
  simp only [rowN, List.getElem?_toArray]; rw [List.getElem?_append_left h]
theorem rowN_mid (pre post : List Value) (f : Nat → Nat) {b : Nat} (h : b < 256) : (rowN pre f post)[pre.length + b]? = some (.int .i64 ((f b : Nat) : Int)) := by
  simp only [rowN, List.getElem?_toArray]
  rw [List.getElem?_append_right (by omega), Nat.add_sub_cancel_left, List.getElem?_append_left (by rw [midN_len]; exact h), midN_get f h]
theorem rowN_post (pre post : List Value) (f : Nat → Nat) (i : Nat) : (rowN pre f post)[pre.length + 256 + i]? = post[i]? := by
  simp only [rowN, List.getElem?_toArray]
  rw [Nat.add_assoc, List.getElem?_append_right (by omega), Nat.add_sub_cancel_left, List.getElem?_append_right (by rw [midN_len]; omega), midN_len, Nat.add_sub_cancel_left]
theorem rowN_congr {pre post : List Value} {f g : Nat → Nat} (h : ∀ b, b < 256 → f b = g b) : rowN pre f post = rowN pre g post := by
  have : midN f = midN g := List.map_congr_left (fun b hb => by rw [h b (List.mem_range.1 hb)])
  rw [rowN, rowN, this]
theorem rowN_set (pre post : List Value) (f : Nat → Nat) {b : Nat} (hb : b < 256) (x : Nat) : (rowN pre f post).setIfInBounds (pre.length + b) (.int .i64 ((x : Nat) : Int)) = rowN pre (fun c => if c = b then x else f c) post := by
  apply Array.ext_getElem?
  intro i
  rw [Array.getElem?_setIfInBounds]
  by_cases h1 : i < pre.length
  · rw [if_neg (by omega), rowN_pre _ _ _ h1, rowN_pre _ _ _ h1]
  · obtain ⟨c, rfl⟩ : ∃ c, i = pre.length + c := ⟨i - pre.length, by omega⟩
    by_cases h2 : c < 256
    · rw [rowN_mid _ _ _ h2, rowN_mid _ _ _ h2]
      by_cases h3 : c = b
      · subst h3; rw [if_pos rfl, if_pos (by rw [rowN_size]; omega), if_pos rfl]
      · rw [if_neg (by omega), if_neg h3]
    · obtain ⟨d, rfl⟩ : ∃ d, c = 256 + d := ⟨c - 256, by omega⟩
      rw [if_neg (by omega), ← Nat.add_assoc, rowN_post, rowN_post]
theorem rowN_set_pre (pre post : List Value) (f : Nat → Nat) {i : Nat} (hi : i < pre.length) (v : Value) : (rowN pre f post).setIfInBounds i v = rowN (pre.set i v) f post := by
  unfold rowN
  rw [List.setIfInBounds_toArray, List.set_append_left _ _ hi]
theorem rowN_set_post (pre post : List Value) (f : Nat → Nat) (i : Nat) (v : Value) : (rowN pre f post).setIfInBounds (pre.length + 256 + i) v = rowN pre f (post.set i v) := by
  unfold rowN
  rw [List.setIfInBounds_toArray, Nat.add_assoc, List.set_append_right _ _ (by omega), Nat.add_sub_cancel_left, List.set_append_right _ _ (by rw [midN_len]; omega), midN_len, Nat.add_sub_cancel_left]
theorem midN_one (f : Nat → Nat) : (midN f).all (·.oneCell') = true := by
  rw [List.all_eq_true]
  intro v hv
  obtain ⟨b, _, rfl⟩ := List.mem_map.1 hv
  rfl
theorem rowN_one {pre post : List Value} (f : Nat → Nat) (h1 : pre.all (·.oneCell') = true) (h2 : post.all (·.oneCell') = true) : (rowN pre f post).all (·.oneCell') = true := by
  unfold rowN
  rw [List.all_toArray, List.all_append, List.all_append, h1, h2, midN_one]; rfl
theorem rowN_ne (pre post : List Value) (f : Nat → Nat) : rowN pre f post ≠ #[] := fun e => by have := rowN_size pre post f; rw [e] at this; simp at this; omega

/-- The cells of an automaton. -/
def autA (nv : Value) (f : Nat → Nat) (last : Int) : Array Value := rowN [nv] f [.int .i64 last]
def zcA : Array Value := autA (.slice none 0 0) (fun _ => 0) 0
theorem autA_size (nv : Value) (f : Nat → Nat) (last : Int) : (autA nv f last).size = 258 := rowN_size _ _ _
theorem zcA_size : zcA.size = 258 := autA_size _ _ _
theorem zcA_ne : zcA ≠ #[] := rowN_ne _ _ _
theorem zvA (w : World) : (zeroValue 56).run Try.prog w = .ok (.agg zcA) w := by kernel_rfl
theorem autA_0 (nv : Value) (f : Nat → Nat) (last : Int) : (autA nv f last)[0]? = some nv := rowN_pre _ _ _ (by simp)
theorem autA_b (nv : Value) (f : Nat → Nat) (last : Int) {b : Nat} (h : b < 256) : (autA nv f last)[1 + b]? = some (.int .i64 ((f b : Nat) : Int)) := rowN_mid [nv] _ _ h
theorem autA_257 (nv : Value) (f : Nat → Nat) (last : Int) : (autA nv f last)[257]? = some (.int .i64 last) := rowN_post [nv] _ _ 0
theorem autA_set (nv : Value) (f : Nat → Nat) (last : Int) {b : Nat} (h : b < 256) (x : Nat) : (autA nv f last).setIfInBounds (1 + b) (.int .i64 ((x : Nat) : Int)) = autA nv (fun c => if c = b then x else f c) last := rowN_set [nv] _ _ h x
theorem autA_one (a : Option Addr) (n c : Nat) (f : Nat → Nat) (last : Int) : (autA (.slice a n c) f last).all (·.oneCell') = true := rowN_one f rfl rfl

/-- An automaton, as a value and in memory. -/
def AutV (w : World) (v : Value) (p : Part) : Prop := ∃ nv, v = .agg (autA nv (fitP p) (p.last : Int)) ∧ NRow w 0 nv p.next
theorem AutV.below {w w' : World} {v : Value} {p : Part} (h : AutV w v p) (hb : Below w.heap.size w w') : AutV w' v p := by
  obtain ⟨nv, h1, h2⟩ := h
  exact ⟨nv, h1, h2.below hb⟩
def AutB (w : World) (g : Nat) (p : Part) : Prop := ∃ nv, w.heap[g]? = some (.cells (autA nv (fitP p) (p.last : Int)) 56 (0, 0)) ∧ NRow w 0 nv p.next
theorem AutB.below {w w' : World} {g : Nat} {p : Part} (h : AutB w g p) (hb : Below w.heap.size w w') : AutB w' g p := by
  obtain ⟨nv, h1, h2⟩ := h
  exact ⟨nv, by rw [hb.block _ (Array.getElem?_eq_some_iff.1 h1).1]; exact h1, h2.below hb⟩
theorem AutB.drew {w : World} {g : Nat} {p : Part} (h : AutB w g p) : AutB w.drew g p := h
theorem fitP_lt {p : Part} (hp : p.Ok) (hl : p.next.length ≤ 50) (b : Nat) : fitP p b < top := Nat.lt_trans (fitN_lt _ _ _) (pow_top (by rw [hp.1]; omega))
theorem reachP_lt {p : Part} (hp : p.Ok) (hl : p.next.length ≤ 50) (x : Nat) : reachP p x < top := Nat.lt_of_lt_of_le (reachN_lt hp.2.2.2 x _) (Nat.pow_le_pow_right (n := 2) (by omega) (show p.next.length ≤ 60 by omega))

end Go.Proofs.Ytobfpgoepaeknaa
