/-
  tuples.classesOf, next, isLetter, isFound.
  tuples.next; rows of letters and of tuples; isLetter, isFound.
-/
import Derived.Test.YtnkdbcicphnmiaaT17
namespace Go.Proofs.Ytnkdbcicphnmiaa
namespace Mc
open Go.RowKit
attribute [local go_sem ↓] Go.wp_at_zero Go.wp_at_succ

theorem VR.nil (w : World) (B : Nat) : VR w B (.slice none 0 0) [] := World.ownsRow_nil w B _ _
theorem mkV_ne {a b : List Nat} (ha : Byt a) (hb : Byt b) (h : a ≠ b) : ((mkV a).toList == (mkV b).toList) = false := by
  rw [beq_eq_false_iff_ne]
  intro e
  rw [ByteArray.toList_eq, ByteArray.toList_eq] at e
  exact h (mkV_inj ha hb (ByteArray.ext (Array.toList_inj.1 e)))
/-- A row of bytes in the making. -/
structure VrI (w wr : World) (va : Option Addr) (vc : Nat) (xs : List Nat) : Prop where
  below : Below w.heap.size w wr
  row : VR wr w.heap.size (.slice va xs.length vc) xs
section
variable {w wr w2 : World} {va : Option Addr} {vc : Nat} {xs : List Nat}
theorem VrI.start (w : World) : VrI w w none 0 [] := ⟨Below.refl _ _, VR.nil _ _⟩
theorem VrI.alloc (h : VrI w wr va vc xs) (o : Obj) : VrI w (wr.alloc o) va vc xs := ⟨h.below.alloc h.below.size _, (Fr.ofAlloc wr o).own h.row (by simp)⟩
theorem VrI.drewN (h : VrI w wr va vc xs) (n : Nat) : VrI w (wr.drewN n) va vc xs := ⟨⟨h.below.os, h.below.tape, h.below.output, h.below.size, h.below.block⟩, h.row⟩
theorem VrI.push (h : VrI w wr va vc xs) {g cap y : Nat} (hgrow : wr.grownBy w2 (.slice va xs.length vc : Value).ownBlock) (ho : w2.ownsRow w.heap.size 5 1 (.slice (some ⟨g, 0, none⟩) (xs.length + 1) cap) (xs.length + 1) (vcs xs ++ [.int .u8 (y : Int)])) : VrI w w2 (some ⟨g, 0, none⟩) cap (xs ++ [y]) := by
  refine ⟨below_grown h.below hgrow h.below.size (fun q hq => (h.row.lt q hq).1), ?_⟩
  rw [List.length_append]
  exact VR.of ho
theorem VrI.form (h : VrI w wr va vc xs) (hp : 0 < xs.length) : ∃ g, va = some ⟨g, 0, none⟩ := by
  obtain ⟨g0, cap0, he⟩ := own_form (show wr.ownsRow w.heap.size 5 1 (.slice va xs.length vc) xs.length _ from h.row) hp
  simp only [Value.slice.injEq, true_and] at he
  exact ⟨g0, he.1⟩
end

theorem Byt.rmap {m : Nat} {f : Nat → Nat} (h : ∀ i, i < m → f i < 256) : Byt ((List.range m).map f) := fun b hb => by
  obtain ⟨i, hi, rfl⟩ := List.mem_map.1 hb
  exact h i (List.mem_range.1 hi)

set_option maxRecDepth 20000 in
set_option maxHeartbeats 1000000 in
theorem classesOf_any (w : World) (B g m tc : Nat) (ts : Nat → TabN) (ht : Tbs w B g m ts) (hB : B ≤ w.heap.size) (h1 : 1 ≤ m) (h8 : m ≤ 8) (hok : ∀ i, i < m → (ts i).Ok) (b : Nat) (hb : b < 256) :
    Calls Try.prog 120 #[.slice (some ⟨g, 0, none⟩) m tc, .int .u8 (b : Int)] w fun e w' => e = .returned (.string (mkV (clT m ts b))) ∧ Below w.heap.size w w' := by
  have hmI : (m : Int) ≤ 8 := by omega
  have hbI : (b : Int) < 256 := by omega
  have HT := hide ht
  have HB := hide hB
  have H1 := hide h1
  have H8 := hide h8
  have HOK := hide hok
  have HBB := hide hb
  clear ht hB h1 h8 hok hb
  go_enter Try.func120, Try.ntmps120
  go_wp2_with fail
  go_loopw [5, 6] (fun vx ix wr => ∃ (i : Nat) (va : Option Addr) (vc : Nat), vx = .slice va i vc ∧ ix = .int .i64 (i : Int) ∧ Hid (i ≤ m ∧ VrI w wr va vc ((List.range i).map fun j => (ts j).cl b))) (fun _ ix _ => lenLeft m ix)
  case atStart => exact ⟨0, none, 0, rfl, rfl, Nat.zero_le _, VrI.start w⟩
  case round =>
    rename World => wr
    obtain ⟨i, va, vc, rfl, rfl, HH⟩ := hrel
    obtain ⟨hi, hI⟩ := unhide HH
    clear HH
    by_cases hlt : i < m
    · have hiI : (i : Int) < (m : Int) := by omega
      have hi0 : (0 : Int) ≤ (i : Int) := by omega
      have hi1 : ((i : Int)).toNat = i := by omega
      have hgl : g < wr.heap.size := by have := (unhide HT).lt; have := unhide HB; have := hI.below.size; omega
      have HTA := hide (((unhide HT).below (hI.below.mono (unhide HB))).tba hlt)
      have hw := u8_wrap ((ts i).cl b) (by have h1 := (unhide HOK i hlt).cl b (unhide HBB); have := (unhide HOK i hlt).c2; omega)
      have HSN := hide (rmap_snoc i (fun j => (ts j).cl b))
      have HLN := hide (rmap_len i (fun j => (ts j).cl b))
      have HLT := hide hlt
      have HC := hide (Class_at wr B g (i * 259) (ts i) (unhide HTA) b (unhide HBB))
      have HXA := hide (fun y : Nat => hI.alloc (Obj.cells #[.int .u8 (y : Int)] 5))
      have HSZ : Hid (w.heap.size ≤ wr.heap.size) := hI.below.size
      clear hlt hi hI HTA
      generalize (ts i).cl b = y at *
      generalize (List.range i).map (fun j => (ts j).cl b) = xs at *
      have hxl := unhide HLN
      subst hxl
      go_wp2_with fail
      refine (unhide HC).mono ?_
      rintro e w1 ⟨rfl, rfl⟩
      clear HC
      go_wp2_with (at_builtin; refine appV rfl (.tmp 19) (.tmp 22) rfl w.heap.size _ xs rfl (unhide HXA y).row w1.heap.size _ rfl (new_cell rfl) (by have := unhide HLT; have := unhide H8; omega) (by have := unhide HSZ; simp; omega) (w1.heap.size + 1) (by simp) ?_; intro g5 cap5 w8 ho hgrow hlies hlt5; have HP9 := hide ((unhide HXA y).push hgrow ho); clear ho hgrow hlies)
      go_roundw
      case rel => exact ⟨xs.length + 1, some ⟨g5, 0, none⟩, cap5, rfl, by go_num, unhide HLT, by rw [unhide HSN]; exact unhide HP9⟩
      case measure => have := unhide HLT; simp [lenLeft, intOf]; omega
    · have hi2 : i = m := by omega
      subst hi2
      have hiI : ¬ (i : Int) < (i : Int) := by omega
      have hln := rmap_len i (fun j => (ts j).cl b)
      obtain ⟨g0, rfl⟩ := hI.form (by rw [hln]; exact unhide H1)
      have hby : Byt ((List.range i).map fun j => (ts j).cl b) := Byt.rmap fun j hj => by have h1 := (unhide HOK j hj).cl b (unhide HBB); have := (unhide HOK j hj).c2; omega
      have hcv := conv_mv hI.row hby
      rw [hln] at hcv
      have HBW := hide hI.below
      clear hlt hi hI hln hby
      go_wp2_with fail
      go_ret
      exact ⟨rfl, unhide HBW⟩

end Mc
end Go.Proofs.Ytnkdbcicphnmiaa
namespace Go.Proofs.Ytnkdbcicphnmiaa
namespace Mc
open Go.RowKit
attribute [local go_sem ↓] Go.wp_at_zero Go.wp_at_succ

theorem TbA.drewN {w : World} {B g o : Nat} {t : TabN} (h : TbA w B g o t) (n : Nat) : TbA (w.drewN n) B g o t := by
  obtain ⟨gv, nv, h1, h2⟩ := h
  exact ⟨gv, nv, h1, h2.ok, h2.ex⟩
theorem drewN_size (w : World) (n : Nat) : (w.drewN n).heap.size = w.heap.size := rfl

set_option maxRecDepth 20000 in
set_option maxHeartbeats 1000000 in
theorem tnext_any (w : World) (B g m tc : Nat) (ts : Nat → TabN) (ht : Tbs w B g m ts) (hB : B ≤ w.heap.size) (h1 : 1 ≤ m) (h8 : m ≤ 8) (hok : ∀ i, i < m → (ts i).Ok) (σ c : List Nat) (hσ : Byt σ) (hc : Byt c) (hσl : σ.length = m) (hcl : c.length = m) (hσs : ∀ i, i < m → σ.getD i 0 < (ts i).S) (hcs : ∀ i, i < m → c.getD i 0 < (ts i).C) :
    Calls Try.prog 100 #[.slice (some ⟨g, 0, none⟩) m tc, .string (mkV σ), .string (mkV c)] w fun e w' => e = .returned (.string (mkV (nxT m ts σ c))) ∧ Below w.heap.size w w' := by
  have hmI : (m : Int) ≤ 8 := by omega
  have HT := hide ht
  have HB := hide hB
  have H1 := hide h1
  have H8 := hide h8
  have HOK := hide hok
  have HSS := hide hσs
  have HCS := hide hcs
  have HBS := hide (fun i => mkV_bt hσ i)
  have HBC := hide (fun i => mkV_bt hc i)
  have hz1 : (mkV σ).size = m := by rw [mkV_size, hσl]
  have hz2 : (mkV c).size = m := by rw [mkV_size, hcl]
  clear ht hB h1 h8 hok hσ hc hσl hcl hσs hcs
  generalize mkV σ = sa at *
  generalize mkV c = sb at *
  go_enter Try.func100, Try.ntmps100
  go_wp2_with fail
  go_loopw [7, 8] (fun vx ix wr => ∃ (i : Nat) (va : Option Addr) (vc : Nat), vx = .slice va i vc ∧ ix = .int .i64 (i : Int) ∧ Hid (i ≤ m ∧ VrI w wr va vc ((List.range i).map fun j => (ts j).nx (σ.getD j 0) (c.getD j 0)))) (fun _ ix _ => lenLeft m ix)
  case atStart => exact ⟨0, none, 0, rfl, rfl, Nat.zero_le _, VrI.start w⟩
  case round =>
    rename World => wr
    obtain ⟨i, va, vc, rfl, rfl, HH⟩ := hrel
    obtain ⟨hi, hI⟩ := unhide HH
    clear HH
    by_cases hlt : i < m
    · have hiI : (i : Int) < (m : Int) := by omega
      have hi0 : (0 : Int) ≤ (i : Int) := by omega
      have hi1 : ((i : Int)).toNat = i := by omega
      have hgl : g < wr.heap.size := by have := (unhide HT).lt; have := unhide HB; have := hI.below.size; omega
      have HTA := hide (((unhide HT).below (hI.below.mono (unhide HB))).tba hlt)
      have hb1 := bt_at sa i
      have hb2 := bt_at sb i
      rw [unhide HBS i] at hb1
      rw [unhide HBC i] at hb2
      have hqs := unhide HSS i hlt
      have hqc := unhide HCS i hlt
      have hw := u8_wrap ((ts i).nx (σ.getD i 0) (c.getD i 0)) (by have h1 := (unhide HOK i hlt).nx _ _ hqs hqc; have := (unhide HOK i hlt).s2; omega)
      have HSN := hide (rmap_snoc i (fun j => (ts j).nx (σ.getD j 0) (c.getD j 0)))
      have HLN := hide (rmap_len i (fun j => (ts j).nx (σ.getD j 0) (c.getD j 0)))
      have HLT := hide hlt
      have HC := hide (fun n => Next_at (wr.drewN n) B g (i * 259) (ts i) ((unhide HTA).drewN n) (σ.getD i 0) (c.getD i 0) hqs hqc)
      have HI := hide hI
      have HSZ : Hid (w.heap.size ≤ wr.heap.size) := hI.below.size
      have hq1 : ((σ.getD i 0 : Nat) : Int) < 256 := by have := (unhide HOK i hlt).s2; omega
      have hq2 : ((c.getD i 0 : Nat) : Int) < 256 := by have := (unhide HOK i hlt).c2; omega
      clear hlt hi hI HTA hqs hqc
      generalize (ts i).nx (σ.getD i 0) (c.getD i 0) = y at *
      generalize σ.getD i 0 = q at *
      generalize c.getD i 0 = k at *
      generalize (List.range i).map (fun j => (ts j).nx (σ.getD j 0) (c.getD j 0)) = xs at *
      have hxl := unhide HLN
      subst hxl
      have hxs : xs.length < sa.size := by rw [hz1]; exact unhide HLT
      have hxs2 : xs.length < sb.size := by rw [hz2]; exact unhide HLT
      have hb3 := hb1 hxs
      have hb4 := hb2 hxs2
      go_wp2_with fail
      go_quiet ((go_at_call 110; exact Calls.quiet_of (unhide HC _)))
      have HXA := hide (((unhide HI).drewN nq).alloc (Obj.cells #[.int .u8 (y : Int)] 5))
      go_wp2_with (at_builtin; refine appV rfl (.tmp 40) (.tmp 43) rfl w.heap.size _ xs rfl (unhide HXA).row (wr.drewN nq).heap.size _ rfl (new_cell rfl) (by have := unhide HLT; have := unhide H8; omega) (by have := unhide HSZ; simp; omega) (wr.heap.size + 1) (by simp) ?_; intro g5 cap5 w8 ho hgrow hlies hlt5; have HP9 := hide ((unhide HXA).push hgrow ho); clear ho hgrow hlies)
      go_roundw
      case rel => exact ⟨xs.length + 1, some ⟨g5, 0, none⟩, cap5, rfl, by go_num, unhide HLT, by rw [unhide HSN]; exact unhide HP9⟩
      case measure => have := unhide HLT; simp [lenLeft, intOf]; omega
    · have hi2 : i = m := by omega
      subst hi2
      have hiI : ¬ (i : Int) < (i : Int) := by omega
      have hln := rmap_len i (fun j => (ts j).nx (σ.getD j 0) (c.getD j 0))
      obtain ⟨g0, rfl⟩ := hI.form (by rw [hln]; exact unhide H1)
      have hby : Byt ((List.range i).map fun j => (ts j).nx (σ.getD j 0) (c.getD j 0)) := Byt.rmap fun j hj => by have h1 := (unhide HOK j hj).nx _ _ (unhide HSS j hj) (unhide HCS j hj); have := (unhide HOK j hj).s2; omega
      have hcv := conv_mv hI.row hby
      rw [hln] at hcv
      have HBW := hide hI.below
      clear hlt hi hI hln hby
      go_wp2_with fail
      go_ret
      exact ⟨rfl, unhide HBW⟩

/-- Rows of pairs. -/
theorem flat2 {α : Type} (f : α → List Value) (h2 : ∀ a, (f a).length = 2) : ∀ (L : List α) (k j : Nat) (a : α), L[k]? = some a → j < 2 → (L.flatMap f)[k * 2 + j]? = (f a)[j]?
  | [], k, j, a, h, _ => by simp at h
  | x :: L, 0, j, a, h, hj => by
    simp only [List.getElem?_cons_zero, Option.some.injEq] at h
    subst h
    rw [List.flatMap_cons, Nat.zero_mul, Nat.zero_add, List.getElem?_append_left (by rw [h2]; exact hj)]
  | x :: L, k + 1, j, a, h, hj => by
    rw [List.getElem?_cons_succ] at h
    rw [List.flatMap_cons, List.getElem?_append_right (by rw [h2]; omega), h2, show (k + 1) * 2 + j - 2 = k * 2 + j by omega]
    exact flat2 f h2 L k j a h hj
theorem flat2_len {α : Type} (f : α → List Value) (h2 : ∀ a, (f a).length = 2) : ∀ (L : List α), (L.flatMap f).length = L.length * 2
  | [] => rfl
  | x :: L => by rw [List.flatMap_cons, List.length_append, h2, flat2_len f h2 L, List.length_cons]; omega
/-- A letter's cells, a tuple's cells. -/
def leC (p : List Nat × Nat) : List Value := [.string (mkV p.1), .int .u8 (p.2 : Int)]
def tuC (p : List Nat × List Nat) : List Value := [.string (mkV p.1), .string (mkV p.2)]
def LR (w : World) (B : Nat) (v : Value) (L : List (List Nat × Nat)) : Prop := w.ownsRow B 167 2 v L.length (L.flatMap leC)
def TuR (w : World) (B : Nat) (v : Value) (F : List (List Nat × List Nat)) : Prop := w.ownsRow B 126 2 v F.length (F.flatMap tuC)
theorem LR.form {w : World} {B : Nat} {v : Value} {L : List (List Nat × Nat)} (h : LR w B v L) : (∃ a c, v = .slice a L.length c) := by
  rcases h.2 with ⟨rfl, h0⟩ | ⟨g, cap, cur, rfl, _⟩
  · exact ⟨none, 0, by rw [h0]⟩
  · exact ⟨_, _, rfl⟩
theorem TuR.form {w : World} {B : Nat} {v : Value} {L : List (List Nat × List Nat)} (h : TuR w B v L) : (∃ a c, v = .slice a L.length c) := by
  rcases h.2 with ⟨rfl, h0⟩ | ⟨g, cap, cur, rfl, _⟩
  · exact ⟨none, 0, by rw [h0]⟩
  · exact ⟨_, _, rfl⟩
theorem LR.at {w : World} {B : Nat} {v : Value} {L : List (List Nat × Nat)} (h : LR w B v L) {k : Nat} {p : List Nat × Nat} (hk : L[k]? = some p) : ∃ g cap, v = .slice (some ⟨g, 0, none⟩) L.length cap ∧ g < w.heap.size ∧ w.cell? ⟨g, k * 2, none⟩ = some (.string (mkV p.1)) ∧ w.cell? ⟨g, k * 2 + 1, none⟩ = some (.int .u8 (p.2 : Int)) := by
  have h' : w.ownsRow B 167 2 v L.length (L.flatMap leC) := h
  have hl := (List.getElem?_eq_some_iff.1 hk).1
  obtain ⟨g, cap, rfl⟩ := own_form h' (by omega)
  have e0 := h'.cells (g := g) rfl (k * 2 + 0) (.string (mkV p.1)) (by rw [flat2 leC (fun _ => rfl) L k 0 p hk (by decide)]; rfl)
  have e1 := h'.cells (g := g) rfl (k * 2 + 1) (.int .u8 (p.2 : Int)) (by rw [flat2 leC (fun _ => rfl) L k 1 p hk (by decide)]; rfl)
  rw [add0] at e0 e1
  exact ⟨g, cap, rfl, (h'.lt g rfl).2, e0, e1⟩
theorem TuR.at {w : World} {B : Nat} {v : Value} {L : List (List Nat × List Nat)} (h : TuR w B v L) {k : Nat} {p : List Nat × List Nat} (hk : L[k]? = some p) : ∃ g cap, v = .slice (some ⟨g, 0, none⟩) L.length cap ∧ g < w.heap.size ∧ w.cell? ⟨g, k * 2, none⟩ = some (.string (mkV p.1)) ∧ w.cell? ⟨g, k * 2 + 1, none⟩ = some (.string (mkV p.2)) := by
  have h' : w.ownsRow B 126 2 v L.length (L.flatMap tuC) := h
  have hl := (List.getElem?_eq_some_iff.1 hk).1
  obtain ⟨g, cap, rfl⟩ := own_form h' (by omega)
  have e0 := h'.cells (g := g) rfl (k * 2 + 0) (.string (mkV p.1)) (by rw [flat2 tuC (fun _ => rfl) L k 0 p hk (by decide)]; rfl)
  have e1 := h'.cells (g := g) rfl (k * 2 + 1) (.string (mkV p.2)) (by rw [flat2 tuC (fun _ => rfl) L k 1 p hk (by decide)]; rfl)
  rw [add0] at e0 e1
  exact ⟨g, cap, rfl, (h'.lt g rfl).2, e0, e1⟩

/-- Is there such a letter, such a tuple? -/
def hasL {β : Type} (L : List (List Nat × β)) (c : List Nat) : Bool := L.any fun p => decide (p.1 = c)
theorem hasL_false {β : Type} {L : List (List Nat × β)} {c : List Nat} : hasL L c = false ↔ ∀ (k : Nat) p, L[k]? = some p → p.1 ≠ c := by
  unfold hasL
  rw [List.any_eq_false]
  constructor
  · intro h k p hk e
    have := h p (List.mem_of_getElem? hk)
    simp [e] at this
  · intro h p hp
    obtain ⟨k, hk⟩ := List.getElem?_of_mem hp
    simpa using h k p hk
theorem hasL_true {β : Type} {L : List (List Nat × β)} {c : List Nat} (h : hasL L c = true) : ∃ (k : Nat) (b : β), L[k]? = some (c, b) := by
  unfold hasL at h
  obtain ⟨p, hp, he⟩ := List.any_eq_true.1 h
  obtain ⟨k, hk⟩ := List.getElem?_of_mem hp
  have he := of_decide_eq_true he
  subst he
  exact ⟨k, p.2, hk⟩
theorem hasL_of {β : Type} {L : List (List Nat × β)} {c : List Nat} {k : Nat} {p : List Nat × β} (h : L[k]? = some p) (e : p.1 = c) : hasL L c = true := List.any_eq_true.2 ⟨p, List.mem_of_getElem? h, decide_eq_true e⟩

set_option maxRecDepth 20000 in
set_option maxHeartbeats 1000000 in
theorem isLetter_any (w : World) (B : Nat) (v : Value) (L : List (List Nat × Nat)) (c : List Nat) (h : LR w B v L) (hL : ∀ p ∈ L, Byt p.1) (hc : Byt c) (hl : L.length ≤ 1000) :
    Calls Try.prog 121 #[v, .string (mkV c)] w fun e w' => e = .returned (.bool (hasL L c)) ∧ w' = w := by
  obtain ⟨va, vc, rfl⟩ := h.form
  have hlI : (L.length : Int) ≤ 1000 := by omega
  have HR := hide h
  have HL := hide hL
  have HC := hide hc
  clear h hL hc hl
  go_enter Try.func121, Try.ntmps121
  go_wp2_with fail
  go_loopw [5] (fun ix wr => ∃ (i : Nat), ix = .int .i64 (i : Int) ∧ Hid (i ≤ L.length ∧ wr = w ∧ ∀ (k : Nat) p, k < i → L[k]? = some p → p.1 ≠ c)) (fun ix _ => lenLeft L.length ix)
  case atStart => exact ⟨0, rfl, Nat.zero_le _, rfl, fun k p hk => by omega⟩
  case round =>
    rename World => wr
    obtain ⟨i, rfl, HH⟩ := hrel
    obtain ⟨hi, rfl, hno⟩ := unhide HH
    clear HH
    by_cases hlt : i < L.length
    · have hiI : (i : Int) < (L.length : Int) := by omega
      have hi0 : (0 : Int) ≤ (i : Int) := by omega
      have hi1 : ((i : Int)).toNat = i := by omega
      obtain ⟨p, hp⟩ : ∃ p, L[i]? = some p := ⟨_, List.getElem?_eq_getElem hlt⟩
      obtain ⟨g, cap, he, hg, c0, c1⟩ := (unhide HR).at hp
      simp only [Value.slice.injEq, true_and] at he
      obtain ⟨rfl, rfl⟩ := he
      by_cases hs : p.1 = c
      · have hs2 : ((mkV p.1).toList == (mkV c).toList) = true := by rw [hs]; simp
        have HT := hide (hasL_of hp hs)
        clear hlt hi hno hp hs c1
        generalize mkV p.1 = sa at *
        generalize mkV c = sb at *
        go_wp2_with fail
        go_ret
        exact ⟨by rw [unhide HT]; rfl, rfl⟩
      · have hs2 : ((mkV p.1).toList == (mkV c).toList) = false := mkV_ne (unhide HL p (List.mem_of_getElem? hp)) (unhide HC) hs
        have HLT := hide hlt
        have HNO : Hid (∀ (k : Nat) p, k < i + 1 → L[k]? = some p → p.1 ≠ c) := fun k q hk hq => by
          by_cases e : k = i
          · subst e; rw [hp] at hq; cases hq; exact hs
          · exact hno k q (by omega) hq
        clear hlt hi hno hp hs c1
        generalize mkV p.1 = sa at *
        generalize mkV c = sb at *
        go_wp2_with fail
        go_roundw
        case rel => exact ⟨i + 1, by go_num, unhide HLT, by first | rfl | trivial, unhide HNO⟩
        case measure => have := unhide HLT; simp [lenLeft, intOf]; omega
    · have hiI : ¬ (i : Int) < (L.length : Int) := by omega
      have HF : Hid (hasL L c = false) := hasL_false.2 fun k p hk => hno k p (by have := (List.getElem?_eq_some_iff.1 hk).1; omega) hk
      clear hlt hi hno
      go_wp2_with fail
      go_ret
      exact ⟨by rw [unhide HF]; rfl, rfl⟩

set_option maxRecDepth 20000 in
set_option maxHeartbeats 1000000 in
theorem isFound_any (w : World) (B : Nat) (v : Value) (L : List (List Nat × List Nat)) (c : List Nat) (h : TuR w B v L) (hL : ∀ p ∈ L, Byt p.1) (hc : Byt c) (hl : L.length ≤ 1000) :
    Calls Try.prog 101 #[v, .string (mkV c)] w fun e w' => e = .returned (.bool (hasL L c)) ∧ w' = w := by
  obtain ⟨va, vc, rfl⟩ := h.form
  have hlI : (L.length : Int) ≤ 1000 := by omega
  have HR := hide h
  have HL := hide hL
  have HC := hide hc
  clear h hL hc hl
  go_enter Try.func101, Try.ntmps101
  go_wp2_with fail
  go_loopw [5] (fun ix wr => ∃ (i : Nat), ix = .int .i64 (i : Int) ∧ Hid (i ≤ L.length ∧ wr = w ∧ ∀ (k : Nat) p, k < i → L[k]? = some p → p.1 ≠ c)) (fun ix _ => lenLeft L.length ix)
  case atStart => exact ⟨0, rfl, Nat.zero_le _, rfl, fun k p hk => by omega⟩
  case round =>
    rename World => wr
    obtain ⟨i, rfl, HH⟩ := hrel
    obtain ⟨hi, rfl, hno⟩ := unhide HH
    clear HH
    by_cases hlt : i < L.length
    · have hiI : (i : Int) < (L.length : Int) := by omega
      have hi0 : (0 : Int) ≤ (i : Int) := by omega
      have hi1 : ((i : Int)).toNat = i := by omega
      obtain ⟨p, hp⟩ : ∃ p, L[i]? = some p := ⟨_, List.getElem?_eq_getElem hlt⟩
      obtain ⟨g, cap, he, hg, c0, c1⟩ := (unhide HR).at hp
      simp only [Value.slice.injEq, true_and] at he
      obtain ⟨rfl, rfl⟩ := he
      by_cases hs : p.1 = c
      · have hs2 : ((mkV p.1).toList == (mkV c).toList) = true := by rw [hs]; simp
        have HT := hide (hasL_of hp hs)
        clear hlt hi hno hp hs c1
        generalize mkV p.1 = sa at *
        generalize mkV c = sb at *
        go_wp2_with fail
        go_ret
        exact ⟨by rw [unhide HT]; rfl, rfl⟩
      · have hs2 : ((mkV p.1).toList == (mkV c).toList) = false := mkV_ne (unhide HL p (List.mem_of_getElem? hp)) (unhide HC) hs
        have HLT := hide hlt
        have HNO : Hid (∀ (k : Nat) p, k < i + 1 → L[k]? = some p → p.1 ≠ c) := fun k q hk hq => by
          by_cases e : k = i
          · subst e; rw [hp] at hq; cases hq; exact hs
          · exact hno k q (by omega) hq
        clear hlt hi hno hp hs c1
        generalize mkV p.1 = sa at *
        generalize mkV c = sb at *
        go_wp2_with fail
        go_roundw
        case rel => exact ⟨i + 1, by go_num, unhide HLT, by first | rfl | trivial, unhide HNO⟩
        case measure => have := unhide HLT; simp [lenLeft, intOf]; omega
    · have hiI : ¬ (i : Int) < (L.length : Int) := by omega
      have HF : Hid (hasL L c = false) := hasL_false.2 fun k p hk => hno k p (by have := (List.getElem?_eq_some_iff.1 hk).1; omega) hk
      clear hlt hi hno
      go_wp2_with fail
      go_ret
      exact ⟨by rw [unhide HF]; rfl, rfl⟩

end Mc
end Go.Proofs.Ytnkdbcicphnmiaa
