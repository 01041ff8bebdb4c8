/-
  judge.writer: operations are written one behind the other.
-/
import Derived.Test.YtohefinejdfhaabNk
import Derived.Test.YtohefinejdfhaabNs0
import Derived.Test.YtohefinejdfhaabOd
namespace Go.Proofs.Ytohefinejdfhaab
namespace Mc
open Go.RowKit
attribute [local go_sem ↓] Go.wp_at_zero Go.wp_at_succ

/-- A row of operations. -/
def OR (w : World) (B : Nat) (v : Value) (os : List OpI) : Prop := w.ownsRow B 61 4 v os.length (oCells os)
theorem OR.form {w : World} {B : Nat} {v : Value} {os : List OpI} (h : OR w B v os) : (∃ a c, v = .slice a os.length c) := by
  rcases h.2 with ⟨rfl, h0⟩ | ⟨g, cap, cur, rfl, _⟩
  · exact ⟨none, 0, by rw [h0]⟩
  · exact ⟨_, _, rfl⟩
theorem oCells_snoc (os : List OpI) (o : OpI) : oCells (os ++ [o]) = oCells os ++ ocs o := by simp [oCells]
/-- An operation is appended to a row. -/
theorem app4 {ops : Array Oper} {rest : List Oper} {o : Oper} {a : Act} {W : World} {Q : Exit → Act → World → Prop} (hgd : o.guard = none) (s x : Operand)
    (ho : o.op = .call { callee := .builtin .append, args := #[s, x], argTypes := #[53, 53] }) (B : Nat) (v : Value) (os : List OpI) (hs : a.eval s = v) (hown : OR W B v os) (g0 : Nat) (y : OpI)
    (hx : a.eval x = .slice (some ⟨g0, 0, none⟩) 1 1) (hc : W.heap[g0]? = some (.cells #[.int .i64 y.k, .int .i64 y.a, .int .i64 y.b, .int .i64 y.c] 61 (0, 0))) (hlen : os.length ≤ 100000) (hB : B ≤ W.heap.size) (H : Nat) (hH : W.heap.size = H)
    (h : ∀ g cap w', OR w' B (.slice (some ⟨g, 0, none⟩) (os.length + 1) cap) (os ++ [y]) → W.grownBy w' v.ownBlock → (v.ownBlock = some g ∨ g = H) → g < w'.heap.size → wpList Try.prog ops Q rest (a.put o.dst (.slice (some ⟨g, 0, none⟩) (os.length + 1) cap)) w') : wpList Try.prog ops Q (o :: rest) a W := by
  obtain ⟨i, i0, i1, i2, i3⟩ := info_of infoO
  refine wpList_append_lies W hgd s x 53 ho B 61 i (.agg #[.int .i64 0, .int .i64 0, .int .i64 0, .int .i64 0]) 4 32 Try.underlying53 i0 i1 i2 i3 rfl (by decide) v os.length (oCells os) hs hown ⟨g0, 0, none⟩ 1 1 (ocs y) hx rfl ?_ (by intro u hu; simp [ocs] at hu; rcases hu with rfl | rfl | rfl | rfl <;> rfl) (by decide) (by unfold maxLen; omega) (by omega) hB H hH ?_
  · intro j u hj
    rw [add0, cell_of_row _ _ _ _ _ _ hc]
    simpa [ocs] using hj
  · intro g cap w' h1 h2 h3 h4
    refine h g cap w' ?_ h2 h3 h4
    unfold OR
    rw [List.length_append, oCells_snoc]
    exact h1

/-- What a writer leaves as it was. -/
structure PresW (B : Nat) (w w' : World) : Prop where
  below : Below B w w'
  keep : ∀ (k : Nat) (cs : Array Value) (ty : TypeId) (fr : Nat × Nat), w.heap[k]? = some (.cells cs ty fr) → ty ≠ 127 → ty ≠ 61 → w'.heap[k]? = some (.cells cs ty fr)
theorem PresW.refl (B : Nat) (w : World) : PresW B w w := ⟨Below.refl _ _, fun _ _ _ _ h _ _ => h⟩
theorem PresW.trans {B : Nat} {a b c : World} (h : PresW B a b) (k : PresW B b c) : PresW B a c := ⟨h.below.trans k.below, fun q cs ty fr h1 h2 h3 => k.keep q cs ty fr (h.keep q cs ty fr h1 h2 h3) h2 h3⟩
theorem PresW.alloc (B : Nat) (w : World) (o : Obj) (h : B ≤ w.heap.size) : PresW B w (w.alloc o) := ⟨(Below.refl _ _).alloc h _, fun k cs ty fr h1 _ _ => (Fr.ofAlloc w o).at h1 (by simp)⟩
/-- A writer in memory. -/
structure WB (w : World) (B gw : Nat) (os : List OpI) : Prop where
  hB : B ≤ gw
  ex : ∃ v, w.heap[gw]? = some (.cells #[v] 127 (0, 0)) ∧ OR w B v os
theorem WB.lt {w : World} {B gw : Nat} {os : List OpI} (h : WB w B gw os) : gw < w.heap.size := by obtain ⟨v, h1, _⟩ := h.ex; exact (Array.getElem?_eq_some_iff.1 h1).1
theorem WB.alloc {w : World} {B gw : Nat} {os : List OpI} (h : WB w B gw os) (o : Obj) : WB (w.alloc o) B gw os := by
  obtain ⟨v, h1, h2⟩ := h.ex
  exact ⟨h.hB, v, (Fr.ofAlloc w o).at h1 (by simp), (Fr.ofAlloc w o).own h2 (by simp)⟩
theorem WB.drew {w : World} {B gw : Nat} {os : List OpI} (h : WB w B gw os) : WB w.drew B gw os := by
  obtain ⟨v, h1, h2⟩ := h.ex
  exact ⟨h.hB, v, h1, h2⟩

set_option maxRecDepth 20000 in
set_option maxHeartbeats 1000000 in
theorem write_any (w : World) (B gw : Nat) (os : List OpI) (k a b c : Int) (h : WB w B gw os) (hl : os.length ≤ 100000) :
    Calls Try.prog 78 #[.pointer (some ⟨gw, 0, none⟩), .int .i64 k, .int .i64 a, .int .i64 b, .int .i64 c] w fun e w' => e = .returned (.tuple #[]) ∧ PresW B w w' ∧ WB w' B gw (os ++ [⟨k, a, b, c⟩]) := by
  obtain ⟨v, h1, h2⟩ := h.ex
  have hgw := h.lt
  obtain ⟨va, vc, rfl⟩ := h2.form
  have c0 : w.cell? ⟨gw, 0, none⟩ = some (.slice va os.length vc) := by rw [cell_of_row _ _ _ _ _ _ h1]; rfl
  have H1 := hide h1
  have H2 := hide h2
  have HB := hide h.hB
  have HL := hide hl
  have HO : Hid (OR (w.alloc (Obj.cells #[.int .i64 k, .int .i64 a, .int .i64 b, .int .i64 c] 61)) B (.slice va os.length vc) os) := (Fr.ofAlloc w _).own h2 (by simp)
  have HNE : Hid (∀ q, (Value.slice va os.length vc).ownBlock = some q → q ≠ gw) := own_off h2 h1 (by decide)
  have HRL : Hid (∀ q, (Value.slice va os.length vc).ownBlock = some q → B ≤ q ∧ q < w.heap.size) := h2.lt
  have HRT : Hid (∀ q, (Value.slice va os.length vc).ownBlock = some q → ∃ cs, w.heap[q]? = some (.cells cs 61 (0, 0))) := fun q hq => by
    rcases h2.2 with ⟨he, _⟩ | ⟨g, cap, cur, he, _, hg, _⟩
    · rw [he] at hq; cases hq
    · rw [he] at hq
      have : g = q := by simpa [Value.ownBlock] using hq
      subst this
      exact ⟨cur, hg⟩
  clear h h1 h2 hl
  go_enter Try.func78, Try.ntmps78
  go_wp2_with (at_builtin; refine app4 rfl (.tmp 14) (.tmp 20) rfl B _ _ rfl (unhide HO) w.heap.size ⟨k, a, b, c⟩ rfl (heap_alloc_new _ _) (unhide HL) (by have := unhide HB; simp; omega) (w.heap.size + 1) (by simp) ?_; intro g5 cap5 w8 ho hgrow hlies hlt5; have hgb : w8.heap[gw]? = _ := (Fr.ofGrown hgrow).at ((Fr.ofAlloc w _).at (unhide H1) (by simp)) (fun hm => unhide HNE _ (Option.mem_toList.1 hm) rfl); have c9 : w8.cell? ⟨gw, 0, none⟩ = some (.slice va os.length vc) := (by rw [cell_of_row _ _ _ _ _ _ hgb]; rfl); have f9 : w8.frozen? ⟨gw, 0, none⟩ = false := frozen_of_row _ _ _ _ _ hgb; have HGB := hide hgb; have HOR := hide ho; have HGR : Hid ((w.alloc (Obj.cells #[.int .i64 k, .int .i64 a, .int .i64 b, .int .i64 c] 61)).grownBy w8 (Value.slice va os.length vc).ownBlock) := hgrow; have HLI : Hid ((Value.slice va os.length vc).ownBlock = some g5 ∨ g5 = w.heap.size + 1) := hlies; clear ho hgrow hlies hgb)
  go_end0
  have hB := unhide HB
  have hg5 : g5 ≠ gw := by
    rcases unhide HLI with e | e
    · exact unhide HNE _ e
    · omega
  refine ⟨rfl, ⟨?_, fun q cs ty fr hq n1 n2 => ?_⟩, hB, .slice (some ⟨g5, 0, none⟩) (os.length + 1) cap5, ?_, ?_⟩
  · exact below_set (below_grown ((Below.refl B w).alloc (by omega) _) (unhide HGR) (by simp; omega) (fun q hq => (unhide HRL q hq).1)) hB
  · have hne1 : q ≠ gw := by rintro rfl; rw [unhide H1] at hq; simp at hq; exact n1 hq.2.1.symm
    have hne2 : q ∉ (Value.slice va os.length vc).ownBlock.toList := fun hm => by
      obtain ⟨cs2, h2⟩ := unhide HRT q (Option.mem_toList.1 hm)
      rw [h2] at hq; simp at hq; exact n2 hq.2.1.symm
    exact (Fr.ofSet _ _ _ _).at ((Fr.ofGrown (unhide HGR)).at ((Fr.ofAlloc w _).at hq (by simp)) hne2) (by simpa using hne1)
  · rw [heap_setCell_same _ _ _ _ _ _ (unhide HGB)]; rfl
  · exact (Fr.ofSet _ _ _ _).own (unhide HOR) (fun q hq => by
      have : g5 = q := by simpa [Value.ownBlock] using hq
      rw [← this]; simpa using hg5)

end Mc
end Go.Proofs.Ytohefinejdfhaab
