/-
  judge.writer: operations are written one behind the other.
  judge.writer: set, load, store, look, readByte, addMark.
-/
import Derived.Test.YtnkdbcicphnmiaaNk
import Derived.Test.YtnkdbcicphnmiaaT00
import Derived.Test.YtnkdbcicphnmiaaT03
namespace Go.Proofs.Ytnkdbcicphnmiaa
namespace Mc
open Go.RowKit
attribute [local go_sem ↓] Go.wp_at_zero Go.wp_at_succ

/-- A row of operations. -/
def OR (w : World) (B : Nat) (v : Value) (os : List OpI) : Prop := w.ownsRow B 62 4 v os.length (oCells os)
theorem OR.form {w : World} {B : Nat} {v : Value} {os : List OpI} (h : OR w B v os) : (∃ a c, v = .slice a os.length c) := by
  rcases h.2 with ⟨rfl, h0⟩ | ⟨g, cap, cur, rfl, _⟩
  · exact ⟨none, 0, by rw [h0]⟩
  · exact ⟨_, _, rfl⟩
theorem oCells_snoc (os : List OpI) (o : OpI) : oCells (os ++ [o]) = oCells os ++ ocs o := by simp [oCells]
/-- An operation is appended to a row. -/
theorem app4 {ops : Array Oper} {rest : List Oper} {o : Oper} {a : Act} {W : World} {Q : Exit → Act → World → Prop} (hgd : o.guard = none) (s x : Operand)
    (ho : o.op = .call { callee := .builtin .append, args := #[s, x], argTypes := #[22, 22] }) (B : Nat) (v : Value) (os : List OpI) (hs : a.eval s = v) (hown : OR W B v os) (g0 : Nat) (y : OpI)
    (hx : a.eval x = .slice (some ⟨g0, 0, none⟩) 1 1) (hc : W.heap[g0]? = some (.cells #[.int .i64 y.k, .int .i64 y.a, .int .i64 y.b, .int .i64 y.c] 62 (0, 0))) (hlen : os.length ≤ 100000) (hB : B ≤ W.heap.size) (H : Nat) (hH : W.heap.size = H)
    (h : ∀ g cap w', OR w' B (.slice (some ⟨g, 0, none⟩) (os.length + 1) cap) (os ++ [y]) → W.grownBy w' v.ownBlock → (v.ownBlock = some g ∨ g = H) → g < w'.heap.size → wpList Try.prog ops Q rest (a.put o.dst (.slice (some ⟨g, 0, none⟩) (os.length + 1) cap)) w') : wpList Try.prog ops Q (o :: rest) a W := by
  obtain ⟨i, i0, i1, i2, i3⟩ := info_of infoO
  refine wpList_append_lies W hgd s x 22 ho B 62 i (.agg #[.int .i64 0, .int .i64 0, .int .i64 0, .int .i64 0]) 4 32 Try.underlying22 i0 i1 i2 i3 rfl (by decide) v os.length (oCells os) hs hown ⟨g0, 0, none⟩ 1 1 (ocs y) hx rfl ?_ (by intro u hu; simp [ocs] at hu; rcases hu with rfl | rfl | rfl | rfl <;> rfl) (by decide) (by unfold maxLen; omega) (by omega) hB H hH ?_
  · intro j u hj
    rw [add0, cell_of_row _ _ _ _ _ _ hc]
    simpa [ocs] using hj
  · intro g cap w' h1 h2 h3 h4
    refine h g cap w' ?_ h2 h3 h4
    unfold OR
    rw [List.length_append, oCells_snoc]
    exact h1

/-- What a writer leaves as it was. -/
structure PresW (B : Nat) (w w' : World) : Prop where
  below : Below B w w'
  keep : ∀ (k : Nat) (cs : Array Value) (ty : TypeId) (fr : Nat × Nat), w.heap[k]? = some (.cells cs ty fr) → ty ≠ 134 → ty ≠ 62 → w'.heap[k]? = some (.cells cs ty fr)
theorem PresW.refl (B : Nat) (w : World) : PresW B w w := ⟨Below.refl _ _, fun _ _ _ _ h _ _ => h⟩
theorem PresW.trans {B : Nat} {a b c : World} (h : PresW B a b) (k : PresW B b c) : PresW B a c := ⟨h.below.trans k.below, fun q cs ty fr h1 h2 h3 => k.keep q cs ty fr (h.keep q cs ty fr h1 h2 h3) h2 h3⟩
theorem PresW.alloc (B : Nat) (w : World) (o : Obj) (h : B ≤ w.heap.size) : PresW B w (w.alloc o) := ⟨(Below.refl _ _).alloc h _, fun k cs ty fr h1 _ _ => (Fr.ofAlloc w o).at h1 (by simp)⟩
/-- A writer in memory. -/
structure WB (w : World) (B gw : Nat) (os : List OpI) : Prop where
  hB : B ≤ gw
  ex : ∃ v, w.heap[gw]? = some (.cells #[v] 134 (0, 0)) ∧ OR w B v os
theorem WB.lt {w : World} {B gw : Nat} {os : List OpI} (h : WB w B gw os) : gw < w.heap.size := by obtain ⟨v, h1, _⟩ := h.ex; exact (Array.getElem?_eq_some_iff.1 h1).1
theorem WB.alloc {w : World} {B gw : Nat} {os : List OpI} (h : WB w B gw os) (o : Obj) : WB (w.alloc o) B gw os := by
  obtain ⟨v, h1, h2⟩ := h.ex
  exact ⟨h.hB, v, (Fr.ofAlloc w o).at h1 (by simp), (Fr.ofAlloc w o).own h2 (by simp)⟩
theorem WB.drew {w : World} {B gw : Nat} {os : List OpI} (h : WB w B gw os) : WB w.drew B gw os := by
  obtain ⟨v, h1, h2⟩ := h.ex
  exact ⟨h.hB, v, h1, h2⟩

set_option maxRecDepth 20000 in
set_option maxHeartbeats 1000000 in
theorem write_any (w : World) (B gw : Nat) (os : List OpI) (k a b c : Int) (h : WB w B gw os) (hl : os.length ≤ 100000) :
    Calls Try.prog 88 #[.pointer (some ⟨gw, 0, none⟩), .int .i64 k, .int .i64 a, .int .i64 b, .int .i64 c] w fun e w' => e = .returned (.tuple #[]) ∧ PresW B w w' ∧ WB w' B gw (os ++ [⟨k, a, b, c⟩]) := by
  obtain ⟨v, h1, h2⟩ := h.ex
  have hgw := h.lt
  obtain ⟨va, vc, rfl⟩ := h2.form
  have c0 : w.cell? ⟨gw, 0, none⟩ = some (.slice va os.length vc) := by rw [cell_of_row _ _ _ _ _ _ h1]; rfl
  have H1 := hide h1
  have H2 := hide h2
  have HB := hide h.hB
  have HL := hide hl
  have HO : Hid (OR (w.alloc (Obj.cells #[.int .i64 k, .int .i64 a, .int .i64 b, .int .i64 c] 62)) B (.slice va os.length vc) os) := (Fr.ofAlloc w _).own h2 (by simp)
  have HNE : Hid (∀ q, (Value.slice va os.length vc).ownBlock = some q → q ≠ gw) := own_off h2 h1 (by decide)
  have HRL : Hid (∀ q, (Value.slice va os.length vc).ownBlock = some q → B ≤ q ∧ q < w.heap.size) := h2.lt
  have HRT : Hid (∀ q, (Value.slice va os.length vc).ownBlock = some q → ∃ cs, w.heap[q]? = some (.cells cs 62 (0, 0))) := fun q hq => by
    rcases h2.2 with ⟨he, _⟩ | ⟨g, cap, cur, he, _, hg, _⟩
    · rw [he] at hq; cases hq
    · rw [he] at hq
      have : g = q := by simpa [Value.ownBlock] using hq
      subst this
      exact ⟨cur, hg⟩
  clear h h1 h2 hl
  go_enter Try.func88, Try.ntmps88
  go_wp2_with (at_builtin; refine app4 rfl (.tmp 14) (.tmp 20) rfl B _ _ rfl (unhide HO) w.heap.size ⟨k, a, b, c⟩ rfl (heap_alloc_new _ _) (unhide HL) (by have := unhide HB; simp; omega) (w.heap.size + 1) (by simp) ?_; intro g5 cap5 w8 ho hgrow hlies hlt5; have hgb : w8.heap[gw]? = _ := (Fr.ofGrown hgrow).at ((Fr.ofAlloc w _).at (unhide H1) (by simp)) (fun hm => unhide HNE _ (Option.mem_toList.1 hm) rfl); have c9 : w8.cell? ⟨gw, 0, none⟩ = some (.slice va os.length vc) := (by rw [cell_of_row _ _ _ _ _ _ hgb]; rfl); have f9 : w8.frozen? ⟨gw, 0, none⟩ = false := frozen_of_row _ _ _ _ _ hgb; have HGB := hide hgb; have HOR := hide ho; have HGR : Hid ((w.alloc (Obj.cells #[.int .i64 k, .int .i64 a, .int .i64 b, .int .i64 c] 62)).grownBy w8 (Value.slice va os.length vc).ownBlock) := hgrow; have HLI : Hid ((Value.slice va os.length vc).ownBlock = some g5 ∨ g5 = w.heap.size + 1) := hlies; clear ho hgrow hlies hgb)
  go_end0
  have hB := unhide HB
  have hg5 : g5 ≠ gw := by
    rcases unhide HLI with e | e
    · exact unhide HNE _ e
    · omega
  refine ⟨rfl, ⟨?_, fun q cs ty fr hq n1 n2 => ?_⟩, hB, .slice (some ⟨g5, 0, none⟩) (os.length + 1) cap5, ?_, ?_⟩
  · exact below_set (below_grown ((Below.refl B w).alloc (by omega) _) (unhide HGR) (by simp; omega) (fun q hq => (unhide HRL q hq).1)) hB
  · have hne1 : q ≠ gw := by rintro rfl; rw [unhide H1] at hq; simp at hq; exact n1 hq.2.1.symm
    have hne2 : q ∉ (Value.slice va os.length vc).ownBlock.toList := fun hm => by
      obtain ⟨cs2, h2⟩ := unhide HRT q (Option.mem_toList.1 hm)
      rw [h2] at hq; simp at hq; exact n2 hq.2.1.symm
    exact (Fr.ofSet _ _ _ _).at ((Fr.ofGrown (unhide HGR)).at ((Fr.ofAlloc w _).at hq (by simp)) hne2) (by simpa using hne1)
  · rw [heap_setCell_same _ _ _ _ _ _ (unhide HGB)]; rfl
  · exact (Fr.ofSet _ _ _ _).own (unhide HOR) (fun q hq => by
      have : g5 = q := by simpa [Value.ownBlock] using hq
      rw [← this]; simpa using hg5)

end Mc
end Go.Proofs.Ytnkdbcicphnmiaa
namespace Go.Proofs.Ytnkdbcicphnmiaa
namespace Mc
open Go.RowKit
attribute [local go_sem ↓] Go.wp_at_zero Go.wp_at_succ

theorem boxA {w : World} {g : Nat} {x y : Int} (h : w.heap[g]? = some (.cells #[.int .i64 x, .int .i64 y] 138 (0, 0))) : w.cell? ⟨g, 0, none⟩ = some (.int .i64 x) ∧ w.cell? ⟨g, 1, none⟩ = some (.int .i64 y) :=
  ⟨by rw [cell_of_row _ _ _ _ _ _ h]; rfl, by rw [cell_of_row _ _ _ _ _ _ h]; rfl⟩
theorem WB.code {w : World} {B gw : Nat} {os : List OpI} (h : WB w B gw os) : ∃ a c, w.cell? ⟨gw, 0, none⟩ = some (.slice a os.length c) := by
  obtain ⟨v, h1, h2⟩ := h.ex
  obtain ⟨a, c, rfl⟩ := h2.form
  exact ⟨a, c, by rw [cell_of_row _ _ _ _ _ _ h1]; rfl⟩
theorem WB.to {w : World} {B gw : Nat} {os os' : List OpI} (h : WB w B gw os) (e : os = os') : WB w B gw os' := e ▸ h
theorem lookOps_len (b e p : Nat) : (lookOps b e p).length = 10 := rfl
def arV (x y : Nat) : Value := .agg #[.int .i64 (x : Int), .int .i64 (y : Int)]

set_option maxRecDepth 20000 in
set_option maxHeartbeats 1000000 in
theorem set_any (w : World) (B gw : Nat) (os : List OpI) (a b : Int) (h : WB w B gw os) (hl : os.length ≤ 99999) :
    Calls Try.prog 81 #[.pointer (some ⟨gw, 0, none⟩), .int .i64 a, .int .i64 b] w fun e w' => e = .returned (.tuple #[]) ∧ PresW B w w' ∧ WB w' B gw (os ++ [⟨0, a, b, 0⟩]) := by
  have hgw := h.lt
  have HSZ : Hid (B ≤ w.heap.size) := by have := h.hB; show _ ≤ _; omega
  have HP0 : Hid (PresW B w w) := PresW.refl B w
  have HW0 := hide h
  have HL := hide hl
  clear h hl
  go_enter Try.func81, Try.ntmps81
  go_wp2_with fail
  refine (write_any w B gw _ _ _ _ _ (unhide HW0) (by have := unhide HL; omega)).mono ?_
  rintro e w1 ⟨rfl, hp, hw⟩
  have HP1 := hide ((unhide HP0).trans hp)
  have HW1 := hide hw
  clear hp hw
  go_wp2_with fail
  go_end0
  exact ⟨rfl, unhide HP1, (unhide HW1).to rfl⟩

set_option maxRecDepth 20000 in
set_option maxHeartbeats 1000000 in
theorem load_any (w : World) (B gw : Nat) (os : List OpI) (a b : Int) (h : WB w B gw os) (hl : os.length ≤ 99990) :
    Calls Try.prog 82 #[.pointer (some ⟨gw, 0, none⟩), .int .i64 a, .int .i64 b] w fun e w' => e = .returned (.tuple #[]) ∧ PresW B w w' ∧ WB w' B gw (os ++ [⟨0, 10, b, 0⟩, ⟨6, a, 10, 0⟩]) := by
  have hgw := h.lt
  have HSZ : Hid (B ≤ w.heap.size) := by have := h.hB; show _ ≤ _; omega
  have HP0 : Hid (PresW B w w) := PresW.refl B w
  have HW0 := hide h
  have HL := hide hl
  clear h hl
  go_enter Try.func82, Try.ntmps82
  go_wp2_with fail
  refine (set_any w B gw _ _ _ (unhide HW0) (by have := unhide HL; omega)).mono ?_
  rintro e w1 ⟨rfl, hp, hw⟩
  have HP1 := hide ((unhide HP0).trans hp)
  have HW1 := hide hw
  clear hp hw
  go_wp2_with fail
  refine (write_any w1 B gw _ _ _ _ _ (unhide HW1) (by have := unhide HL; simp; omega)).mono ?_
  rintro e w2 ⟨rfl, hp, hw⟩
  have HP2 := hide ((unhide HP1).trans hp)
  have HW2 := hide hw
  clear hp hw
  go_wp2_with fail
  go_end0
  exact ⟨rfl, unhide HP2, (unhide HW2).to (by simp)⟩

set_option maxRecDepth 20000 in
set_option maxHeartbeats 1000000 in
theorem store_any (w : World) (B gw : Nat) (os : List OpI) (a b : Int) (h : WB w B gw os) (hl : os.length ≤ 99990) :
    Calls Try.prog 90 #[.pointer (some ⟨gw, 0, none⟩), .int .i64 a, .int .i64 b] w fun e w' => e = .returned (.tuple #[]) ∧ PresW B w w' ∧ WB w' B gw (os ++ [⟨0, 10, b, 0⟩, ⟨7, a, 10, 0⟩]) := by
  have hgw := h.lt
  have HSZ : Hid (B ≤ w.heap.size) := by have := h.hB; show _ ≤ _; omega
  have HP0 : Hid (PresW B w w) := PresW.refl B w
  have HW0 := hide h
  have HL := hide hl
  clear h hl
  go_enter Try.func90, Try.ntmps90
  go_wp2_with fail
  refine (set_any w B gw _ _ _ (unhide HW0) (by have := unhide HL; omega)).mono ?_
  rintro e w1 ⟨rfl, hp, hw⟩
  have HP1 := hide ((unhide HP0).trans hp)
  have HW1 := hide hw
  clear hp hw
  go_wp2_with fail
  refine (write_any w1 B gw _ _ _ _ _ (unhide HW1) (by have := unhide HL; simp; omega)).mono ?_
  rintro e w2 ⟨rfl, hp, hw⟩
  have HP2 := hide ((unhide HP1).trans hp)
  have HW2 := hide hw
  clear hp hw
  go_wp2_with fail
  go_end0
  exact ⟨rfl, unhide HP2, (unhide HW2).to (by simp)⟩

set_option maxRecDepth 20000 in
set_option maxHeartbeats 1000000 in
theorem look_w (w : World) (B gw : Nat) (os : List OpI) (x y : Nat) (h : WB w B gw os) (hl : os.length ≤ 99900) :
    Calls Try.prog 89 #[.pointer (some ⟨gw, 0, none⟩), arV x y] w fun e w' => e = .returned (.tuple #[]) ∧ PresW B w w' ∧ WB w' B gw (os ++ lookOps x y os.length) := by
  have hgw := h.lt
  have HSZ : Hid (B ≤ w.heap.size) := by have := h.hB; show _ ≤ _; omega
  have hb0 := h.alloc (Obj.cells #[.int .i64 (x : Int), .int .i64 (y : Int)] 138)
  have HP0 : Hid (PresW B w (w.alloc (Obj.cells #[.int .i64 (x : Int), .int .i64 (y : Int)] 138))) := PresW.alloc B w _ (unhide HSZ)
  have HX0 : Hid ((w.alloc (Obj.cells #[.int .i64 (x : Int), .int .i64 (y : Int)] 138)).heap[w.heap.size]? = some (Obj.cells #[.int .i64 (x : Int), .int .i64 (y : Int)] 138 (0, 0))) := heap_alloc_new _ _
  have HW0 := hide hb0
  have HL := hide hl
  clear h hl hb0
  unfold arV
  go_enter Try.func89, Try.ntmps89
  go_wp2_with fail
  refine (set_any (w.alloc (Obj.cells #[.int .i64 (x : Int), .int .i64 (y : Int)] 138)) B gw _ _ _ (unhide HW0) (by have := unhide HL; omega)).mono ?_
  rintro e w1 ⟨rfl, hp, hw⟩
  have HP1 := hide ((unhide HP0).trans hp)
  have HW1 := hide hw
  have HX0 := hide (hp.keep _ _ _ _ (unhide HX0) (by decide) (by decide))
  clear hp hw
  obtain ⟨x10, y10⟩ := boxA (unhide HX0)
  go_wp2_with fail
  refine (set_any w1 B gw _ _ _ (unhide HW1) (by have := unhide HL; simp; omega)).mono ?_
  rintro e w2 ⟨rfl, hp, hw⟩
  have HP2 := hide ((unhide HP1).trans hp)
  have HW2 := hide hw
  have HX0 := hide (hp.keep _ _ _ _ (unhide HX0) (by decide) (by decide))
  clear hp hw x10 y10
  obtain ⟨x20, y20⟩ := boxA (unhide HX0)
  go_wp2_with fail
  refine (set_any w2 B gw _ _ _ (unhide HW2) (by have := unhide HL; simp; omega)).mono ?_
  rintro e w3 ⟨rfl, hp, hw⟩
  have HP3 := hide ((unhide HP2).trans hp)
  have HW3 := hide hw
  have HX0 := hide (hp.keep _ _ _ _ (unhide HX0) (by decide) (by decide))
  clear hp hw x20 y20
  obtain ⟨x30, y30⟩ := boxA (unhide HX0)
  obtain ⟨ca, cc, hcode⟩ := (unhide HW3).code
  go_wp2_with fail
  refine (write_any w3 B gw _ _ _ _ _ (unhide HW3) (by have := unhide HL; simp; omega)).mono ?_
  rintro e w4 ⟨rfl, hp, hw⟩
  have HP4 := hide ((unhide HP3).trans hp)
  have HW4 := hide hw
  have HX0 := hide (hp.keep _ _ _ _ (unhide HX0) (by decide) (by decide))
  clear hp hw x30 y30
  obtain ⟨x40, y40⟩ := boxA (unhide HX0)
  go_wp2_with fail
  refine (write_any w4 B gw _ _ _ _ _ (unhide HW4) (by have := unhide HL; simp; omega)).mono ?_
  rintro e w5 ⟨rfl, hp, hw⟩
  have HP5 := hide ((unhide HP4).trans hp)
  have HW5 := hide hw
  have HX0 := hide (hp.keep _ _ _ _ (unhide HX0) (by decide) (by decide))
  clear hp hw x40 y40
  obtain ⟨x50, y50⟩ := boxA (unhide HX0)
  go_wp2_with fail
  refine (write_any w5 B gw _ _ _ _ _ (unhide HW5) (by have := unhide HL; simp; omega)).mono ?_
  rintro e w6 ⟨rfl, hp, hw⟩
  have HP6 := hide ((unhide HP5).trans hp)
  have HW6 := hide hw
  have HX0 := hide (hp.keep _ _ _ _ (unhide HX0) (by decide) (by decide))
  clear hp hw x50 y50
  obtain ⟨x60, y60⟩ := boxA (unhide HX0)
  go_wp2_with fail
  refine (write_any w6 B gw _ _ _ _ _ (unhide HW6) (by have := unhide HL; simp; omega)).mono ?_
  rintro e w7 ⟨rfl, hp, hw⟩
  have HP7 := hide ((unhide HP6).trans hp)
  have HW7 := hide hw
  have HX0 := hide (hp.keep _ _ _ _ (unhide HX0) (by decide) (by decide))
  clear hp hw x60 y60
  obtain ⟨x70, y70⟩ := boxA (unhide HX0)
  go_wp2_with fail
  refine (write_any w7 B gw _ _ _ _ _ (unhide HW7) (by have := unhide HL; simp; omega)).mono ?_
  rintro e w8 ⟨rfl, hp, hw⟩
  have HP8 := hide ((unhide HP7).trans hp)
  have HW8 := hide hw
  have HX0 := hide (hp.keep _ _ _ _ (unhide HX0) (by decide) (by decide))
  clear hp hw x70 y70
  obtain ⟨x80, y80⟩ := boxA (unhide HX0)
  go_wp2_with fail
  refine (write_any w8 B gw _ _ _ _ _ (unhide HW8) (by have := unhide HL; simp; omega)).mono ?_
  rintro e w9 ⟨rfl, hp, hw⟩
  have HP9 := hide ((unhide HP8).trans hp)
  have HW9 := hide hw
  have HX0 := hide (hp.keep _ _ _ _ (unhide HX0) (by decide) (by decide))
  clear hp hw x80 y80
  obtain ⟨x90, y90⟩ := boxA (unhide HX0)
  go_wp2_with fail
  refine (write_any w9 B gw _ _ _ _ _ (unhide HW9) (by have := unhide HL; simp; omega)).mono ?_
  rintro e w10 ⟨rfl, hp, hw⟩
  have HP10 := hide ((unhide HP9).trans hp)
  have HW10 := hide hw
  have HX0 := hide (hp.keep _ _ _ _ (unhide HX0) (by decide) (by decide))
  clear hp hw x90 y90
  go_wp2_with fail
  go_end0
  exact ⟨rfl, unhide HP10, (unhide HW10).to (by simp [lookOps, opN])⟩

set_option maxRecDepth 20000 in
set_option maxHeartbeats 1000000 in
theorem readByte_w (w : World) (B gw : Nat) (os : List OpI) (i x y u v : Nat) (hi : (i : Int) ≤ 100) (h : WB w B gw os) (hl : os.length ≤ 99000) :
    Calls Try.prog 111 #[.pointer (some ⟨gw, 0, none⟩), .int .i64 (i : Int), arV x y, arV u v] w fun e w' => e = .returned (.tuple #[]) ∧ PresW B w w' ∧ WB w' B gw (os ++ readByteOps i x y u v os.length) := by
  have hgw := h.lt
  have HSZ : Hid (B ≤ w.heap.size) := by have := h.hB; show _ ≤ _; omega
  have hb0 := h.alloc (Obj.cells #[.int .i64 (x : Int), .int .i64 (y : Int)] 138)
  have hb1 := hb0.alloc (Obj.cells #[.int .i64 (u : Int), .int .i64 (v : Int)] 138)
  have HP0 : Hid (PresW B w ((w.alloc (Obj.cells #[.int .i64 (x : Int), .int .i64 (y : Int)] 138)).alloc (Obj.cells #[.int .i64 (u : Int), .int .i64 (v : Int)] 138))) := (PresW.alloc B w _ (unhide HSZ)).trans (PresW.alloc B _ _ (by have := unhide HSZ; simp; omega))
  have HX0 : Hid (((w.alloc (Obj.cells #[.int .i64 (x : Int), .int .i64 (y : Int)] 138)).alloc (Obj.cells #[.int .i64 (u : Int), .int .i64 (v : Int)] 138)).heap[w.heap.size]? = some (Obj.cells #[.int .i64 (x : Int), .int .i64 (y : Int)] 138 (0, 0))) := heap_alloc2_old _ _ _
  have HX1 : Hid (((w.alloc (Obj.cells #[.int .i64 (x : Int), .int .i64 (y : Int)] 138)).alloc (Obj.cells #[.int .i64 (u : Int), .int .i64 (v : Int)] 138)).heap[w.heap.size + 1]? = some (Obj.cells #[.int .i64 (u : Int), .int .i64 (v : Int)] 138 (0, 0))) := heap_alloc2_new _ _ _
  have HW0 := hide hb1
  have HL := hide hl
  clear h hl hb0 hb1
  unfold arV
  go_enter Try.func111, Try.ntmps111
  go_wp2_with fail
  refine (set_any ((w.alloc (Obj.cells #[.int .i64 (x : Int), .int .i64 (y : Int)] 138)).alloc (Obj.cells #[.int .i64 (u : Int), .int .i64 (v : Int)] 138)) B gw _ _ _ (unhide HW0) (by have := unhide HL; omega)).mono ?_
  rintro e w1 ⟨rfl, hp, hw⟩
  have HP1 := hide ((unhide HP0).trans hp)
  have HW1 := hide hw
  have HX0 := hide (hp.keep _ _ _ _ (unhide HX0) (by decide) (by decide))
  have HX1 := hide (hp.keep _ _ _ _ (unhide HX1) (by decide) (by decide))
  clear hp hw
  obtain ⟨x10, y10⟩ := boxA (unhide HX0)
  obtain ⟨x11, y11⟩ := boxA (unhide HX1)
  go_wp2_with fail
  refine (write_any w1 B gw _ _ _ _ _ (unhide HW1) (by have := unhide HL; simp; omega)).mono ?_
  rintro e w2 ⟨rfl, hp, hw⟩
  have HP2 := hide ((unhide HP1).trans hp)
  have HW2 := hide hw
  have HX0 := hide (hp.keep _ _ _ _ (unhide HX0) (by decide) (by decide))
  have HX1 := hide (hp.keep _ _ _ _ (unhide HX1) (by decide) (by decide))
  clear hp hw x10 y10 x11 y11
  obtain ⟨x20, y20⟩ := boxA (unhide HX0)
  obtain ⟨x21, y21⟩ := boxA (unhide HX1)
  go_wp2_with fail
  refine (write_any w2 B gw _ _ _ _ _ (unhide HW2) (by have := unhide HL; simp; omega)).mono ?_
  rintro e w3 ⟨rfl, hp, hw⟩
  have HP3 := hide ((unhide HP2).trans hp)
  have HW3 := hide hw
  have HX0 := hide (hp.keep _ _ _ _ (unhide HX0) (by decide) (by decide))
  have HX1 := hide (hp.keep _ _ _ _ (unhide HX1) (by decide) (by decide))
  clear hp hw x20 y20 x21 y21
  obtain ⟨x30, y30⟩ := boxA (unhide HX0)
  obtain ⟨x31, y31⟩ := boxA (unhide HX1)
  go_wp2_with fail
  refine (load_any w3 B gw _ _ _ (unhide HW3) (by have := unhide HL; simp; omega)).mono ?_
  rintro e w4 ⟨rfl, hp, hw⟩
  have HP4 := hide ((unhide HP3).trans hp)
  have HW4 := hide hw
  have HX0 := hide (hp.keep _ _ _ _ (unhide HX0) (by decide) (by decide))
  have HX1 := hide (hp.keep _ _ _ _ (unhide HX1) (by decide) (by decide))
  clear hp hw x30 y30 x31 y31
  obtain ⟨x40, y40⟩ := boxA (unhide HX0)
  obtain ⟨x41, y41⟩ := boxA (unhide HX1)
  go_wp2_with fail
  refine (set_any w4 B gw _ _ _ (unhide HW4) (by have := unhide HL; simp; omega)).mono ?_
  rintro e w5 ⟨rfl, hp, hw⟩
  have HP5 := hide ((unhide HP4).trans hp)
  have HW5 := hide hw
  have HX0 := hide (hp.keep _ _ _ _ (unhide HX0) (by decide) (by decide))
  have HX1 := hide (hp.keep _ _ _ _ (unhide HX1) (by decide) (by decide))
  clear hp hw x40 y40 x41 y41
  obtain ⟨x50, y50⟩ := boxA (unhide HX0)
  obtain ⟨x51, y51⟩ := boxA (unhide HX1)
  go_wp2_with fail
  refine (write_any w5 B gw _ _ _ _ _ (unhide HW5) (by have := unhide HL; simp; omega)).mono ?_
  rintro e w6 ⟨rfl, hp, hw⟩
  have HP6 := hide ((unhide HP5).trans hp)
  have HW6 := hide hw
  have HX0 := hide (hp.keep _ _ _ _ (unhide HX0) (by decide) (by decide))
  have HX1 := hide (hp.keep _ _ _ _ (unhide HX1) (by decide) (by decide))
  clear hp hw x50 y50 x51 y51
  obtain ⟨x60, y60⟩ := boxA (unhide HX0)
  obtain ⟨x61, y61⟩ := boxA (unhide HX1)
  go_wp2_with fail
  refine (look_w w6 B gw _ _ _ (unhide HW6) (by have := unhide HL; simp; omega)).mono ?_
  rintro e w7 ⟨rfl, hp, hw⟩
  have HP7 := hide ((unhide HP6).trans hp)
  have HW7 := hide hw
  have HX0 := hide (hp.keep _ _ _ _ (unhide HX0) (by decide) (by decide))
  have HX1 := hide (hp.keep _ _ _ _ (unhide HX1) (by decide) (by decide))
  clear hp hw x60 y60 x61 y61
  obtain ⟨x70, y70⟩ := boxA (unhide HX0)
  obtain ⟨x71, y71⟩ := boxA (unhide HX1)
  go_wp2_with fail
  refine (write_any w7 B gw _ _ _ _ _ (unhide HW7) (by have := unhide HL; simp [lookOps_len]; omega)).mono ?_
  rintro e w8 ⟨rfl, hp, hw⟩
  have HP8 := hide ((unhide HP7).trans hp)
  have HW8 := hide hw
  have HX0 := hide (hp.keep _ _ _ _ (unhide HX0) (by decide) (by decide))
  have HX1 := hide (hp.keep _ _ _ _ (unhide HX1) (by decide) (by decide))
  clear hp hw x70 y70 x71 y71
  obtain ⟨x80, y80⟩ := boxA (unhide HX0)
  obtain ⟨x81, y81⟩ := boxA (unhide HX1)
  go_wp2_with fail
  refine (look_w w8 B gw _ _ _ (unhide HW8) (by have := unhide HL; simp [lookOps_len]; omega)).mono ?_
  rintro e w9 ⟨rfl, hp, hw⟩
  have HP9 := hide ((unhide HP8).trans hp)
  have HW9 := hide hw
  have HX0 := hide (hp.keep _ _ _ _ (unhide HX0) (by decide) (by decide))
  have HX1 := hide (hp.keep _ _ _ _ (unhide HX1) (by decide) (by decide))
  clear hp hw x80 y80 x81 y81
  obtain ⟨x90, y90⟩ := boxA (unhide HX0)
  obtain ⟨x91, y91⟩ := boxA (unhide HX1)
  go_wp2_with fail
  refine (write_any w9 B gw _ _ _ _ _ (unhide HW9) (by have := unhide HL; simp [lookOps_len]; omega)).mono ?_
  rintro e w10 ⟨rfl, hp, hw⟩
  have HP10 := hide ((unhide HP9).trans hp)
  have HW10 := hide hw
  have HX0 := hide (hp.keep _ _ _ _ (unhide HX0) (by decide) (by decide))
  have HX1 := hide (hp.keep _ _ _ _ (unhide HX1) (by decide) (by decide))
  clear hp hw x90 y90 x91 y91
  obtain ⟨x100, y100⟩ := boxA (unhide HX0)
  obtain ⟨x101, y101⟩ := boxA (unhide HX1)
  go_wp2_with fail
  refine (write_any w10 B gw _ _ _ _ _ (unhide HW10) (by have := unhide HL; simp [lookOps_len]; omega)).mono ?_
  rintro e w11 ⟨rfl, hp, hw⟩
  have HP11 := hide ((unhide HP10).trans hp)
  have HW11 := hide hw
  have HX0 := hide (hp.keep _ _ _ _ (unhide HX0) (by decide) (by decide))
  have HX1 := hide (hp.keep _ _ _ _ (unhide HX1) (by decide) (by decide))
  clear hp hw x100 y100 x101 y101
  obtain ⟨x110, y110⟩ := boxA (unhide HX0)
  obtain ⟨x111, y111⟩ := boxA (unhide HX1)
  go_wp2_with fail
  refine (write_any w11 B gw _ _ _ _ _ (unhide HW11) (by have := unhide HL; simp [lookOps_len]; omega)).mono ?_
  rintro e w12 ⟨rfl, hp, hw⟩
  have HP12 := hide ((unhide HP11).trans hp)
  have HW12 := hide hw
  have HX0 := hide (hp.keep _ _ _ _ (unhide HX0) (by decide) (by decide))
  have HX1 := hide (hp.keep _ _ _ _ (unhide HX1) (by decide) (by decide))
  clear hp hw x110 y110 x111 y111
  go_wp2_with fail
  go_end0
  exact ⟨rfl, unhide HP12, (unhide HW12).to (by simp [readByteOps, opN, lookOps_len])⟩

set_option maxRecDepth 20000 in
set_option maxHeartbeats 1000000 in
theorem addMark_w (w : World) (B gw : Nat) (os : List OpI) (x y : Nat) (h : WB w B gw os) (hl : os.length ≤ 99000) :
    Calls Try.prog 87 #[.pointer (some ⟨gw, 0, none⟩), arV x y] w fun e w' => e = .returned (.tuple #[]) ∧ PresW B w w' ∧ WB w' B gw (os ++ addMarkOps x y os.length) := by
  have hgw := h.lt
  have HSZ : Hid (B ≤ w.heap.size) := by have := h.hB; show _ ≤ _; omega
  have hb0 := h.alloc (Obj.cells #[.int .i64 (x : Int), .int .i64 (y : Int)] 138)
  have HP0 : Hid (PresW B w (w.alloc (Obj.cells #[.int .i64 (x : Int), .int .i64 (y : Int)] 138))) := PresW.alloc B w _ (unhide HSZ)
  have HX0 : Hid ((w.alloc (Obj.cells #[.int .i64 (x : Int), .int .i64 (y : Int)] 138)).heap[w.heap.size]? = some (Obj.cells #[.int .i64 (x : Int), .int .i64 (y : Int)] 138 (0, 0))) := heap_alloc_new _ _
  have HW0 := hide hb0
  have HL := hide hl
  clear h hl hb0
  unfold arV
  go_enter Try.func87, Try.ntmps87
  go_wp2_with fail
  refine (write_any (w.alloc (Obj.cells #[.int .i64 (x : Int), .int .i64 (y : Int)] 138)) B gw _ _ _ _ _ (unhide HW0) (by have := unhide HL; omega)).mono ?_
  rintro e w1 ⟨rfl, hp, hw⟩
  have HP1 := hide ((unhide HP0).trans hp)
  have HW1 := hide hw
  have HX0 := hide (hp.keep _ _ _ _ (unhide HX0) (by decide) (by decide))
  clear hp hw
  obtain ⟨x10, y10⟩ := boxA (unhide HX0)
  go_wp2_with fail
  refine (look_w w1 B gw _ _ _ (unhide HW1) (by have := unhide HL; simp; omega)).mono ?_
  rintro e w2 ⟨rfl, hp, hw⟩
  have HP2 := hide ((unhide HP1).trans hp)
  have HW2 := hide hw
  have HX0 := hide (hp.keep _ _ _ _ (unhide HX0) (by decide) (by decide))
  clear hp hw x10 y10
  obtain ⟨x20, y20⟩ := boxA (unhide HX0)
  go_wp2_with fail
  refine (write_any w2 B gw _ _ _ _ _ (unhide HW2) (by have := unhide HL; simp [lookOps_len]; omega)).mono ?_
  rintro e w3 ⟨rfl, hp, hw⟩
  have HP3 := hide ((unhide HP2).trans hp)
  have HW3 := hide hw
  have HX0 := hide (hp.keep _ _ _ _ (unhide HX0) (by decide) (by decide))
  clear hp hw x20 y20
  go_wp2_with fail
  go_end0
  exact ⟨rfl, unhide HP3, (unhide HW3).to (by simp [addMarkOps, opN])⟩

end Mc
end Go.Proofs.Ytnkdbcicphnmiaa
