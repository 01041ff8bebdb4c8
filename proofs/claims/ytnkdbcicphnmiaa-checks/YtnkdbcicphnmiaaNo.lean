/-
  veilref.Machine.does: one step of the document's machine.
-/
import Derived.Test.YtnkdbcicphnmiaaNm
namespace Go.Proofs.Ytnkdbcicphnmiaa
namespace Mc
open Go.RowKit
attribute [local go_sem ↓] Go.wp_at_zero Go.wp_at_succ

set_option maxRecDepth 20000 in
set_option maxHeartbeats 1000000 in
theorem does_plain (w : World) (B gm : Nat) (s s2 : MS) (o : OpI) (hk : o.k < 6) (h : RM w B gm s)
    (hp : ∀ W, RM W B gm s → Calls Try.prog 95 #[.pointer (some ⟨gm, 0, none⟩), opV o] W fun e w' => e = .returned (.tuple #[]) ∧ Below B W w' ∧ RM w' B gm s2) :
    Calls Try.prog 60 #[.pointer (some ⟨gm, 0, none⟩), opV o] w fun e w' => e = .returned (.bool true) ∧ Below B w w' ∧ RM w' B gm s2 := by
  obtain ⟨tv, hx⟩ := h
  have HB : Hid (B ≤ w.heap.size) := by have := hx.hB; have := hx.lt; show _ ≤ _; omega
  obtain ⟨k, a, b, c⟩ := o
  simp only at hk
  have HP := hide (hp _ ⟨tv, hx.alloc (Obj.cells #[.int .i64 k, .int .i64 a, .int .i64 b, .int .i64 c] 62)⟩)
  unfold opV at HP
  unfold opV
  clear hx hp
  go_enter Try.func60, Try.ntmps60
  go_wp2_with fail
  refine (unhide HP).mono ?_
  rintro e w1 ⟨rfl, hb1, hp1⟩
  have HB1 := hide hb1
  have HP1 := hide hp1
  clear hb1 hp1
  go_wp2_with fail
  go_ret
  exact ⟨rfl, ((Below.refl _ _).alloc (unhide HB) _).trans (unhide HB1), unhide HP1⟩

set_option maxRecDepth 20000 in
set_option maxHeartbeats 1000000 in
theorem does_jump_no (w : World) (B gm : Nat) (s : MS) (n : Nat) (A : Nat) (b c : Int) (hA : A < 16) (h : RM w B gm s) (hs : s.Ok n) (hn : n ≤ 4096) (hT : s.T.length ≤ 3000000) (h0 : s.R.getD A 0 = 0) :
    Calls Try.prog 60 #[.pointer (some ⟨gm, 0, none⟩), opV ⟨8, (A : Int), b, c⟩] w fun e w' => e = .returned (.bool true) ∧ Below B w w' ∧ RM w' B gm ⟨s.R, s.M, s.p + 1, s.T ++ [20000]⟩ := by
  obtain ⟨tv, hx⟩ := h
  obtain ⟨ta, tc, rfl⟩ := hx.tr.form
  have hgm := hx.lt
  have ct := hx.ct hs.lr hs.lm
  have cp := hx.cp hs.lr hs.lm
  have cA := hx.cr hs.lr hA
  rw [h0] at cA
  have fT := hx.free 4113
  have fp := hx.free 4112
  have hpI : (s.p : Int) ≤ 4096 := by have := hs.p; omega
  have hAI : (A : Int) < 16 := by omega
  have HX := hide hx
  have HS := hide hs
  have HT := hide hT
  unfold opV
  clear hx hs hA hT h0
  have HP2 := hide (((unhide HX).alloc (Obj.cells #[.int .i64 8, .int .i64 (A : Int), .int .i64 b, .int .i64 c] 62)).alloc (Obj.cells #[.int .i64 20000] 3)).drew
  have HBL : Hid (Below B w (((w.alloc (Obj.cells #[.int .i64 8, .int .i64 (A : Int), .int .i64 b, .int .i64 c] 62)).alloc (Obj.cells #[.int .i64 20000] 3)).drew)) := by
    have hB := (unhide HX).hB
    exact (((Below.refl _ _).alloc (by omega) _).alloc (by simp; omega) _).drew
  have HSZ : Hid (B ≤ w.heap.size) := by have := (unhide HX).hB; show _ ≤ _; omega
  have HC : Hid (((((w.alloc (Obj.cells #[.int .i64 8, .int .i64 (A : Int), .int .i64 b, .int .i64 c] 62)).alloc (Obj.cells #[.int .i64 20000] 3)).drew)).cell? ⟨w.heap.size + 1, 0, none⟩ = some (.int .i64 ((20000 : Nat) : Int))) := by show _ = _; rw [cell_drew, new_cell (by simp)]; rfl
  go_enter Try.func60, Try.ntmps60
  go_wp2_with fail
  go_region
  go_wp2_with (at_builtin; refine app1 rfl (.tmp 27) (.tmp 28) rfl B _ _ rfl (unhide HP2).tr (w.heap.size + 1) 20000 rfl (unhide HC) (unhide HT) (by have := unhide HSZ; simp; omega) (w.heap.size + 2) (by simp) ?_; intro g5 cap5 w8 ho hgrow hlies hlt5; obtain ⟨c17, f17, c12, f12⟩ := (unhide HP2).grownT (unhide HS).lr (unhide HS).lm hgrow; have HN := hide ((unhide HP2).push (unhide HS).lr (unhide HS).lm hgrow ho (hlies.elim Or.inl (fun e => Or.inr (by rw [e]; simp)))); have HB2 := hide ((unhide HP2).below (unhide HBL) hgrow (.slice (some ⟨g5, 0, none⟩) (s.T.length + 1) cap5)); clear ho hgrow hlies)
  go_ret
  exact ⟨rfl, below_set (unhide HB2) (unhide HX).hB, _, (unhide HN).setP (unhide HS).lr (unhide HS).lm (s.p + 1)⟩

set_option maxRecDepth 20000 in
set_option maxHeartbeats 1000000 in
theorem does_jump_yes (w : World) (B gm : Nat) (s : MS) (n : Nat) (A q : Nat) (c : Int) (hA : A < 16) (h : RM w B gm s) (hs : s.Ok n) (hT : s.T.length ≤ 3000000) (h0 : s.R.getD A 0 ≠ 0) :
    Calls Try.prog 60 #[.pointer (some ⟨gm, 0, none⟩), opV ⟨8, (A : Int), (q : Int), c⟩] w fun e w' => e = .returned (.bool true) ∧ Below B w w' ∧ RM w' B gm ⟨s.R, s.M, q, s.T ++ [20001]⟩ := by
  obtain ⟨tv, hx⟩ := h
  obtain ⟨ta, tc, rfl⟩ := hx.tr.form
  have hgm := hx.lt
  have ct := hx.ct hs.lr hs.lm
  have cp := hx.cp hs.lr hs.lm
  have cA := hx.cr hs.lr hA
  have h0I : ¬ ((s.R.getD A 0 : Nat) : Int) = 0 := by omega
  have fT := hx.free 4113
  have fp := hx.free 4112
  have hAI : (A : Int) < 16 := by omega
  have HX := hide hx
  have HS := hide hs
  have HT := hide hT
  unfold opV
  clear hx hs hA hT h0
  generalize s.R.getD A 0 = r at *
  have HP2 := hide (((unhide HX).alloc (Obj.cells #[.int .i64 8, .int .i64 (A : Int), .int .i64 (q : Int), .int .i64 c] 62)).alloc (Obj.cells #[.int .i64 20001] 3)).drew
  have HBL : Hid (Below B w (((w.alloc (Obj.cells #[.int .i64 8, .int .i64 (A : Int), .int .i64 (q : Int), .int .i64 c] 62)).alloc (Obj.cells #[.int .i64 20001] 3)).drew)) := by
    have hB := (unhide HX).hB
    exact (((Below.refl _ _).alloc (by omega) _).alloc (by simp; omega) _).drew
  have HSZ : Hid (B ≤ w.heap.size) := by have := (unhide HX).hB; show _ ≤ _; omega
  have HC : Hid (((((w.alloc (Obj.cells #[.int .i64 8, .int .i64 (A : Int), .int .i64 (q : Int), .int .i64 c] 62)).alloc (Obj.cells #[.int .i64 20001] 3)).drew)).cell? ⟨w.heap.size + 1, 0, none⟩ = some (.int .i64 ((20001 : Nat) : Int))) := by show _ = _; rw [cell_drew, new_cell (by simp)]; rfl
  have HBX : Hid (((((w.alloc (Obj.cells #[.int .i64 8, .int .i64 (A : Int), .int .i64 (q : Int), .int .i64 c] 62)).alloc (Obj.cells #[.int .i64 20001] 3)).drew)).heap[w.heap.size]? = some (Obj.cells #[.int .i64 8, .int .i64 (A : Int), .int .i64 (q : Int), .int .i64 c] 62)) := heap_alloc2_old _ _ _
  have HNE : Hid (∀ g, (Value.slice ta s.T.length tc).ownBlock = some g → g ≠ w.heap.size) := fun g hg => by have := ((unhide HX).tr.lt g hg).2; omega
  go_enter Try.func60, Try.ntmps60
  go_wp2_with fail
  go_region
  go_wp2_with (at_builtin; refine app1 rfl (.tmp 43) (.tmp 44) rfl B _ _ rfl (unhide HP2).tr (w.heap.size + 1) 20001 rfl (unhide HC) (unhide HT) (by have := unhide HSZ; simp; omega) (w.heap.size + 2) (by simp) ?_; intro g5 cap5 w8 ho hgrow hlies hlt5; obtain ⟨c17, f17, c12, f12⟩ := (unhide HP2).grownT (unhide HS).lr (unhide HS).lm hgrow; have hbx : w8.heap[w.heap.size]? = _ := (Fr.ofGrown hgrow).at (unhide HBX) (fun hm => unhide HNE _ (Option.mem_toList.1 hm) rfl); have e2 : w8.cell? ⟨w.heap.size, 2, none⟩ = some (.int .i64 (q : Int)) := (by rw [cell_of_row _ _ _ _ _ _ hbx]; rfl); have HN := hide ((unhide HP2).push (unhide HS).lr (unhide HS).lm hgrow ho (hlies.elim Or.inl (fun e => Or.inr (by rw [e]; simp)))); have HB2 := hide ((unhide HP2).below (unhide HBL) hgrow (.slice (some ⟨g5, 0, none⟩) (s.T.length + 1) cap5)); have hnw : ¬ w.heap.size = gm := (by omega); clear ho hgrow hlies hbx)
  go_ret
  exact ⟨rfl, below_set (unhide HB2) (unhide HX).hB, _, (unhide HN).setP (unhide HS).lr (unhide HS).lm q⟩

set_option maxRecDepth 20000 in
set_option maxHeartbeats 1000000 in
theorem does_out (w : World) (B gm : Nat) (s : MS) (n : Nat) (k a c : Int) (hk : k = 6 ∨ k = 7) (X : Nat) (hX : X < 16) (h : RM w B gm s) (hs : s.Ok n) (ho : ¬ s.R.getD X 0 < 4096) :
    Calls Try.prog 60 #[.pointer (some ⟨gm, 0, none⟩), opV ⟨k, a, (X : Int), c⟩] w fun e w' => e = .returned (.bool false) ∧ Below B w w' := by
  obtain ⟨tv, hx⟩ := h
  have hgm := hx.lt
  have cX := hx.cr hs.lr hX
  have hXI : (X : Int) < 16 := by omega
  have hoI : (4096 : Int) ≤ ((s.R.getD X 0 : Nat) : Int) := by omega
  have HB : Hid (B ≤ w.heap.size) := by have := hx.hB; show _ ≤ _; omega
  unfold opV
  clear hx hs hX ho
  generalize s.R.getD X 0 = x at *
  rcases hk with rfl | rfl
  all_goals
    go_enter Try.func60, Try.ntmps60
    go_wp2_with fail
    go_region
    go_wp2_with fail
    go_ret
    exact ⟨rfl, ((Below.refl _ _).alloc (unhide HB) _).drew⟩

set_option maxRecDepth 20000 in
set_option maxHeartbeats 1000000 in
theorem does_load (w : World) (B gm : Nat) (s : MS) (n : Nat) (A X : Nat) (hA : A < 16) (hX : X < 16) (c : Int) (ha : s.R.getD X 0 < 4096) (h : RM w B gm s) (hs : s.Ok n) (hn : n ≤ 4096) (hT : s.T.length ≤ 3000000) :
    Calls Try.prog 60 #[.pointer (some ⟨gm, 0, none⟩), opV ⟨6, (A : Int), (X : Int), c⟩] w fun e w' => e = .returned (.bool true) ∧ Below B w w' ∧ RM w' B gm ⟨s.R.set A (s.M.getD (s.R.getD X 0) 0), s.M, s.p + 1, s.T ++ [s.R.getD X 0]⟩ := by
  obtain ⟨tv, hx⟩ := h
  obtain ⟨ta, tc, rfl⟩ := hx.tr.form
  have hgm := hx.lt
  have ct := hx.ct hs.lr hs.lm
  have cp := hx.cp hs.lr hs.lm
  have cA := hx.cr hs.lr hA
  have cX := hx.cr hs.lr hX
  have cM := hx.cw hs.lr hs.lm ha
  have fT := hx.free 4113
  have fp := hx.free 4112
  have fA := hx.free A
  have hpI : (s.p : Int) ≤ 4096 := by have := hs.p; omega
  have hAI : (A : Int) < 16 := by omega
  have hXI : (X : Int) < 16 := by omega
  have haI : ((s.R.getD X 0 : Nat) : Int) < 4096 := by omega
  have hA2 : ¬ A = 4112 := by omega
  have hA3 : ¬ 4112 = A := by omega
  have hA4 : ¬ A = 4113 := by omega
  have hA5 : ¬ 4113 = A := by omega
  have HX := hide hx
  have HS := hide hs
  have HA := hide hA
  have HT := hide hT
  generalize s.M.getD (s.R.getD X 0) 0 = z at *
  generalize s.R.getD X 0 = x at *
  unfold opV
  clear hx hs hA hX ha hT
  have HP2 := hide ((((unhide HX).setR (unhide HS).lr (unhide HA) z).alloc (Obj.cells #[.int .i64 6, .int .i64 (A : Int), .int .i64 (X : Int), .int .i64 c] 62)).alloc (Obj.cells #[.int .i64 (x : Int)] 3)).drew.drew
  have HBL : Hid (Below B w ((((w.setCell ⟨gm, A, none⟩ (.int .i64 (z : Int))).alloc (Obj.cells #[.int .i64 6, .int .i64 (A : Int), .int .i64 (X : Int), .int .i64 c] 62)).alloc (Obj.cells #[.int .i64 (x : Int)] 3)).drew.drew)) := by
    have hB := (unhide HX).hB
    exact (((below_set (Below.refl _ _) hB).alloc (by simp; omega) _).alloc (by simp; omega) _).drew.drew
  have HSZ : Hid (B ≤ w.heap.size) := by have := (unhide HX).hB; show _ ≤ _; omega
  have HC : Hid (((((w.setCell ⟨gm, A, none⟩ (.int .i64 (z : Int))).alloc (Obj.cells #[.int .i64 6, .int .i64 (A : Int), .int .i64 (X : Int), .int .i64 c] 62)).alloc (Obj.cells #[.int .i64 (x : Int)] 3)).drew.drew).cell? ⟨w.heap.size + 1, 0, none⟩ = some (.int .i64 (x : Int))) := by show _ = _; rw [cell_drew, cell_drew]; exact new_cell (by simp)
  have HR : Hid ((s.R.set A z).length = 16) := by show _ = _; simpa using (unhide HS).lr
  go_enter Try.func60, Try.ntmps60
  go_wp2_with fail
  go_region
  go_wp2_with fail
  go_region
  go_wp2_with (at_builtin; refine app1 rfl (.tmp 81) (.tmp 83) rfl B _ _ rfl (unhide HP2).tr (w.heap.size + 1) x rfl (unhide HC) (unhide HT) (by have := unhide HSZ; simp; omega) (w.heap.size + 2) (by simp) ?_; intro g5 cap5 w8 ho hgrow hlies hlt5; obtain ⟨c17, f17, c12, f12⟩ := (unhide HP2).grownT (unhide HR) (unhide HS).lm hgrow; have HN := hide ((unhide HP2).push (unhide HR) (unhide HS).lm hgrow ho (hlies.elim Or.inl (fun e => Or.inr (by rw [e]; simp)))); have HB2 := hide ((unhide HP2).below (unhide HBL) hgrow (.slice (some ⟨g5, 0, none⟩) (s.T.length + 1) cap5)); clear ho hgrow hlies)
  go_ret
  exact ⟨rfl, below_set (unhide HB2) (unhide HX).hB, _, (unhide HN).setP (unhide HR) (unhide HS).lm (s.p + 1)⟩

set_option maxRecDepth 20000 in
set_option maxHeartbeats 1000000 in
theorem does_store (w : World) (B gm : Nat) (s : MS) (n : Nat) (A X : Nat) (hA : A < 16) (hX : X < 16) (c : Int) (ha : s.R.getD X 0 < 4096) (h : RM w B gm s) (hs : s.Ok n) (hn : n ≤ 4096) (hT : s.T.length ≤ 3000000) :
    Calls Try.prog 60 #[.pointer (some ⟨gm, 0, none⟩), opV ⟨7, (A : Int), (X : Int), c⟩] w fun e w' => e = .returned (.bool true) ∧ Below B w w' ∧ RM w' B gm ⟨s.R, s.M.set (s.R.getD X 0) (s.R.getD A 0), s.p + 1, s.T ++ [10000 + s.R.getD X 0]⟩ := by
  obtain ⟨tv, hx⟩ := h
  obtain ⟨ta, tc, rfl⟩ := hx.tr.form
  have hgm := hx.lt
  have ct := hx.ct hs.lr hs.lm
  have cp := hx.cp hs.lr hs.lm
  have cA := hx.cr hs.lr hA
  have cX := hx.cr hs.lr hX
  have cM := hx.cw hs.lr hs.lm ha
  have fT := hx.free 4113
  have fp := hx.free 4112
  have fM := hx.free (16 + s.R.getD X 0)
  have hpI : (s.p : Int) ≤ 4096 := by have := hs.p; omega
  have hAI : (A : Int) < 16 := by omega
  have hXI : (X : Int) < 16 := by omega
  have haI : ((s.R.getD X 0 : Nat) : Int) < 4096 := by omega
  have hA2 : ¬ 16 + s.R.getD X 0 = 4112 := by omega
  have hA3 : ¬ 4112 = 16 + s.R.getD X 0 := by omega
  have hA4 : ¬ 16 + s.R.getD X 0 = 4113 := by omega
  have hA5 : ¬ 4113 = 16 + s.R.getD X 0 := by omega
  have HX := hide hx
  have HS := hide hs
  have HT := hide hT
  have HAX := hide ha
  generalize s.R.getD X 0 = x at *
  generalize s.R.getD A 0 = y at *
  unfold opV
  clear hx hs hA hX ha hT
  have HP2 := hide ((((unhide HX).setM (unhide HS).lr (unhide HS).lm (unhide HAX) y).alloc (Obj.cells #[.int .i64 7, .int .i64 (A : Int), .int .i64 (X : Int), .int .i64 c] 62)).alloc (Obj.cells #[.int .i64 (10000 + (x : Int))] 3)).drew.drew
  have HBL : Hid (Below B w ((((w.setCell ⟨gm, 16 + x, none⟩ (.int .i64 (y : Int))).alloc (Obj.cells #[.int .i64 7, .int .i64 (A : Int), .int .i64 (X : Int), .int .i64 c] 62)).alloc (Obj.cells #[.int .i64 (10000 + (x : Int))] 3)).drew.drew)) := by
    have hB := (unhide HX).hB
    exact (((below_set (Below.refl _ _) hB).alloc (by simp; omega) _).alloc (by simp; omega) _).drew.drew
  have HSZ : Hid (B ≤ w.heap.size) := by have := (unhide HX).hB; show _ ≤ _; omega
  have HC : Hid (((((w.setCell ⟨gm, 16 + x, none⟩ (.int .i64 (y : Int))).alloc (Obj.cells #[.int .i64 7, .int .i64 (A : Int), .int .i64 (X : Int), .int .i64 c] 62)).alloc (Obj.cells #[.int .i64 (10000 + (x : Int))] 3)).drew.drew).cell? ⟨w.heap.size + 1, 0, none⟩ = some (.int .i64 ((10000 + x : Nat) : Int))) := by show _ = _; rw [cell_drew, cell_drew, new_cell (by simp), Int.natCast_add]; rfl
  have HM : Hid ((s.M.set x y).length = 4096) := by show _ = _; rw [List.length_set]; exact (unhide HS).lm
  go_enter Try.func60, Try.ntmps60
  go_wp2_with fail
  go_region
  go_wp2_with fail
  go_region
  go_wp2_with (at_builtin; refine app1 rfl (.tmp 103) (.tmp 106) rfl B _ _ rfl (unhide HP2).tr (w.heap.size + 1) (10000 + x) rfl (unhide HC) (unhide HT) (by have := unhide HSZ; simp; omega) (w.heap.size + 2) (by simp) ?_; intro g5 cap5 w8 ho hgrow hlies hlt5; obtain ⟨c17, f17, c12, f12⟩ := (unhide HP2).grownT (unhide HS).lr (unhide HM) hgrow; have HN := hide ((unhide HP2).push (unhide HS).lr (unhide HM) hgrow ho (hlies.elim Or.inl (fun e => Or.inr (by rw [e]; simp)))); have HB2 := hide ((unhide HP2).below (unhide HBL) hgrow (.slice (some ⟨g5, 0, none⟩) (s.T.length + 1) cap5)); clear ho hgrow hlies)
  go_ret
  exact ⟨rfl, below_set (unhide HB2) (unhide HX).hB, _, (unhide HN).setP (unhide HS).lr (unhide HM) (s.p + 1)⟩

def DoesPost (w : World) (B gm : Nat) (r : Option MS) (e : Ending) (w' : World) : Prop :=
  Below B w w' ∧ match r with
    | none => e = .returned (.bool false)
    | some s' => e = .returned (.bool true) ∧ RM w' B gm s'
theorem DoesPost.ok {w : World} {B gm : Nat} {s' : MS} {e : Ending} {w' : World} (h : e = .returned (.bool true) ∧ Below B w w' ∧ RM w' B gm s') : DoesPost w B gm (some s') e w' := ⟨h.2.1, h.1, h.2.2⟩

theorem does_any (w : World) (B gm : Nat) (s : MS) (n : Nat) (o : OpI) (h : RM w B gm s) (hs : s.Ok n) (hn : n ≤ 4096) (hT : s.T.length ≤ 3000000) (ho : opOk o n = true) :
    Calls Try.prog 60 #[.pointer (some ⟨gm, 0, none⟩), opV o] w (DoesPost w B gm (stepN o s)) := by
  rcases op_kind ho with hk | hk | hk | hk | hk
  · rw [opOk0 hk] at ho
    obtain ⟨ha, hb⟩ := andT ho
    obtain ⟨k, a, b, c⟩ := o
    simp only at hk ha hb
    subst hk
    obtain ⟨A, rfl, hA⟩ := regA ha
    obtain ⟨x, rfl, hx⟩ := wordA hb
    have e : stepN ⟨0, (A : Int), (x : Int), c⟩ s = some ⟨s.R.set A x, s.M, s.p + 1, s.T⟩ := by simp [stepN]
    rw [e]
    exact (does_plain w B gm s _ ⟨0, _, _, c⟩ (by simp) h (fun W hW => plain_set W B gm s n A x hA c hW hs hn)).mono fun _ _ q => DoesPost.ok q
  · rw [opOk1 hk] at ho
    obtain ⟨hab, hc⟩ := andT ho
    obtain ⟨ha, hb⟩ := andT hab
    obtain ⟨k, a, b, c⟩ := o
    simp only at hk ha hb hc
    obtain ⟨A, rfl, hA⟩ := regA ha
    obtain ⟨X, rfl, hX⟩ := regA hb
    obtain ⟨Y, rfl, hY⟩ := regA hc
    have e : stepN ⟨k, (A : Int), (X : Int), (Y : Int)⟩ s = some ⟨s.R.set A (joinN k (s.R.getD X 0) (s.R.getD Y 0)), s.M, s.p + 1, s.T⟩ := by
      rw [stepN, if_neg (by simp only; omega), if_neg (by simp only; omega), if_neg (by simp only; omega), if_neg (by simp only; omega)]
      rfl
    rw [e]
    exact (does_plain w B gm s _ ⟨k, _, _, _⟩ (by simp only; omega) h (fun W hW => plain_join W B gm s n k hk A X Y hA hX hY hW hs hn)).mono fun _ _ q => DoesPost.ok q
  · rw [opOk6 (.inl hk)] at ho
    obtain ⟨ha, hb⟩ := andT ho
    obtain ⟨k, a, b, c⟩ := o
    simp only at hk ha hb
    subst hk
    obtain ⟨A, rfl, hA⟩ := regA ha
    obtain ⟨X, rfl, hX⟩ := regA hb
    rw [stepN, if_neg (by simp), if_pos rfl]
    split
    · next hx => exact (does_load w B gm s n A X hA hX c hx h hs hn hT).mono fun _ _ q => DoesPost.ok q
    · next hx => exact (does_out w B gm s n 6 _ c (.inl rfl) X hX h hs hx).mono fun _ _ q => ⟨q.2, q.1⟩
  · rw [opOk6 (.inr hk)] at ho
    obtain ⟨ha, hb⟩ := andT ho
    obtain ⟨k, a, b, c⟩ := o
    simp only at hk ha hb
    subst hk
    obtain ⟨A, rfl, hA⟩ := regA ha
    obtain ⟨X, rfl, hX⟩ := regA hb
    rw [stepN, if_neg (by simp), if_neg (by simp), if_pos rfl]
    split
    · next hx => exact (does_store w B gm s n A X hA hX c hx h hs hn hT).mono fun _ _ q => DoesPost.ok q
    · next hx => exact (does_out w B gm s n 7 _ c (.inr rfl) X hX h hs hx).mono fun _ _ q => ⟨q.2, q.1⟩
  · rw [opOk8 hk] at ho
    obtain ⟨ha, hb⟩ := andT ho
    obtain ⟨k, a, b, c⟩ := o
    simp only at hk ha hb
    subst hk
    obtain ⟨A, rfl, hA⟩ := regA ha
    obtain ⟨q, rfl⟩ : ∃ q : Nat, b = (q : Int) := ⟨b.toNat, by simp at hb; omega⟩
    rw [stepN, if_neg (by simp), if_neg (by simp), if_neg (by simp), if_pos rfl]
    split
    · next hx => exact (does_jump_no w B gm s n A _ c hA h hs hn hT hx).mono fun _ _ q => DoesPost.ok q
    · next hx => exact (does_jump_yes w B gm s n A q c hA h hs hT hx).mono fun _ _ q => DoesPost.ok q

end Mc
end Go.Proofs.Ytnkdbcicphnmiaa
