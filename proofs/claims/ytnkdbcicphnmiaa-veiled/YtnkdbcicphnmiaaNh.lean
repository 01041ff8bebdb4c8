/-
  machine.machine.jump, hasAddress; do at a jump.
-/
import Derived.Test.YtnkdbcicphnmiaaNf
namespace Go.Proofs.Ytnkdbcicphnmiaa
namespace Mc
open Go.RowKit
attribute [local go_sem ↓] Go.wp_at_zero Go.wp_at_succ

set_option maxRecDepth 20000 in
set_option maxHeartbeats 1000000 in
theorem jump_no (w : World) (B gm : Nat) (s : MS) (n : Nat) (A : Nat) (b c : Int) (hA : A < 16) (h : PM w B gm s) (hs : s.Ok n) (hT : s.T.length ≤ 3000000) (h0 : s.R.getD A 0 = 0) :
    Calls Try.prog 125 #[.pointer (some ⟨gm, 0, none⟩), opV ⟨8, (A : Int), b, c⟩] w fun e w' => e = .returned (.tuple #[]) ∧ Below B w w' ∧ PM w' B gm ⟨s.R, s.M, s.p, s.T ++ [20000]⟩ := by
  obtain ⟨gmem, tv, hx⟩ := h
  obtain ⟨ta, tc, rfl⟩ := hx.tr.form
  have hgm := hx.lt
  have ct := hx.ct hs.lr
  have cA := hx.cr hs.lr hA
  rw [h0] at cA
  have fT := hx.free 17
  have hAI : (A : Int) < 16 := by omega
  have HX := hide hx
  have HS := hide hs
  have HT := hide hT
  unfold opV
  clear hx hs hA hT h0
  have HP := hide ((unhide HX).alloc (Obj.cells #[.int .i64 8, .int .i64 (A : Int), .int .i64 b, .int .i64 c] 62))
  have HP2 := hide (((unhide HP).alloc (Obj.cells #[.int .i64 20000] 3)).drew)
  have HBL : Hid (Below B w (((w.alloc (Obj.cells #[.int .i64 8, .int .i64 (A : Int), .int .i64 b, .int .i64 c] 62)).alloc (Obj.cells #[.int .i64 20000] 3)).drew)) := by
    have hB := (unhide HX).hB
    exact (((Below.refl _ _).alloc (by omega) _).alloc (by simp; omega) _).drew
  have HSZ : Hid (B ≤ w.heap.size) := by have := (unhide HX).hB; show _ ≤ _; omega
  have HC : Hid (((((w.alloc (Obj.cells #[.int .i64 8, .int .i64 (A : Int), .int .i64 b, .int .i64 c] 62)).alloc (Obj.cells #[.int .i64 20000] 3)).drew)).cell? ⟨w.heap.size + 1, 0, none⟩ = some (.int .i64 ((20000 : Nat) : Int))) := by show _ = _; rw [cell_drew, new_cell (by simp)]; rfl
  go_enter Try.func125, Try.ntmps125
  go_wp2_with fail
  go_region
  go_wp2_with (at_builtin; refine app1 rfl (.tmp 22) (.tmp 25) rfl B _ _ rfl (unhide HP2).tr (w.heap.size + 1) 20000 rfl (unhide HC) (unhide HT) (by have := unhide HSZ; simp; omega) (w.heap.size + 2) (by simp) ?_; intro g5 cap5 w8 ho hgrow hlies hlt5; obtain ⟨c17, f17⟩ := (unhide HP2).grown17 (unhide HS).lr hgrow; have HN := hide ((unhide HP2).push (unhide HS).lr hgrow ho (hlies.elim Or.inl (fun e => Or.inr (by rw [e]; simp)))); have HB2 := hide ((unhide HP2).below (unhide HBL) hgrow (.slice (some ⟨g5, 0, none⟩) (s.T.length + 1) cap5)); clear ho hgrow hlies)
  go_end0
  exact ⟨rfl, unhide HB2, gmem, _, unhide HN⟩

set_option maxRecDepth 20000 in
set_option maxHeartbeats 1000000 in
theorem jump_yes (w : World) (B gm : Nat) (s : MS) (n : Nat) (A q : Nat) (c : Int) (hA : A < 16) (h : PM w B gm s) (hs : s.Ok n) (hT : s.T.length ≤ 3000000) (h0 : s.R.getD A 0 ≠ 0) :
    Calls Try.prog 125 #[.pointer (some ⟨gm, 0, none⟩), opV ⟨8, (A : Int), (q : Int), c⟩] w fun e w' => e = .returned (.tuple #[]) ∧ Below B w w' ∧ PM w' B gm ⟨s.R, s.M, q, s.T ++ [20001]⟩ := by
  obtain ⟨gmem, tv, hx⟩ := h
  obtain ⟨ta, tc, rfl⟩ := hx.tr.form
  have hgm := hx.lt
  have ct := hx.ct hs.lr
  have cp := hx.cp hs.lr
  have cA := hx.cr hs.lr hA
  have h0I : ¬ ((s.R.getD A 0 : Nat) : Int) = 0 := by omega
  have fT := hx.free 17
  have fp := hx.free 18
  have hAI : (A : Int) < 16 := by omega
  have HX := hide hx
  have HS := hide hs
  have HT := hide hT
  unfold opV
  clear hx hs hA hT h0
  generalize s.R.getD A 0 = r at *
  have HP := hide (((unhide HX).setP (unhide HS).lr q).alloc (Obj.cells #[.int .i64 8, .int .i64 (A : Int), .int .i64 (q : Int), .int .i64 c] 62))
  have HP2 := hide (((unhide HP).alloc (Obj.cells #[.int .i64 20001] 3)).drew)
  have HBL : Hid (Below B w ((((w.setCell ⟨gm, 18, none⟩ (.int .i64 (q : Int))).alloc (Obj.cells #[.int .i64 8, .int .i64 (A : Int), .int .i64 (q : Int), .int .i64 c] 62)).alloc (Obj.cells #[.int .i64 20001] 3)).drew)) := by
    have hB := (unhide HX).hB
    exact ((((below_set (Below.refl _ _) hB).alloc (by simp; omega) _).alloc (by simp; omega) _)).drew
  have HSZ : Hid (B ≤ w.heap.size) := by have := (unhide HX).hB; show _ ≤ _; omega
  have HC : Hid ((((((w.setCell ⟨gm, 18, none⟩ (.int .i64 (q : Int))).alloc (Obj.cells #[.int .i64 8, .int .i64 (A : Int), .int .i64 (q : Int), .int .i64 c] 62)).alloc (Obj.cells #[.int .i64 20001] 3)).drew)).cell? ⟨w.heap.size + 1, 0, none⟩ = some (.int .i64 ((20001 : Nat) : Int))) := by show _ = _; rw [cell_drew, new_cell (by simp)]; rfl
  go_enter Try.func125, Try.ntmps125
  go_wp2_with fail
  go_region
  go_wp2_with (at_builtin; refine app1 rfl (.tmp 22) (.tmp 25) rfl B _ _ rfl (unhide HP2).tr (w.heap.size + 1) 20001 rfl (unhide HC) (unhide HT) (by have := unhide HSZ; simp; omega) (w.heap.size + 2) (by simp) ?_; intro g5 cap5 w8 ho hgrow hlies hlt5; obtain ⟨c17, f17⟩ := (unhide HP2).grown17 (by simpa using (unhide HS).lr) hgrow; have HN := hide ((unhide HP2).push (by simpa using (unhide HS).lr) hgrow ho (hlies.elim Or.inl (fun e => Or.inr (by rw [e]; simp)))); have HB2 := hide ((unhide HP2).below (unhide HBL) hgrow (.slice (some ⟨g5, 0, none⟩) (s.T.length + 1) cap5)); clear ho hgrow hlies)
  go_end0
  exact ⟨rfl, unhide HB2, gmem, _, unhide HN⟩

set_option maxRecDepth 20000 in
set_option maxHeartbeats 1000000 in
theorem do_jump (w : World) (B gm : Nat) (s s2 : MS) (n : Nat) (A : Nat) (b c : Int) (h : PM w B gm s) (hs : s.Ok n) (hn : n ≤ 4096)
    (hj : ∀ W, PM W B gm ⟨s.R, s.M, s.p + 1, s.T⟩ → Calls Try.prog 125 #[.pointer (some ⟨gm, 0, none⟩), opV ⟨8, (A : Int), b, c⟩] W fun e w' => e = .returned (.tuple #[]) ∧ Below B W w' ∧ PM w' B gm s2) :
    Calls Try.prog 115 #[.pointer (some ⟨gm, 0, none⟩), opV ⟨8, (A : Int), b, c⟩] w fun e w' => e = .returned (.tuple #[]) ∧ Below B w w' ∧ PM w' B gm s2 := by
  obtain ⟨gmem, tv, hx⟩ := h
  have hgm := hx.lt
  have cp := hx.cp hs.lr
  have fp := hx.free 18
  have hpI : (s.p : Int) ≤ 4096 := by have := hs.p; omega
  have HX := hide hx
  have HS := hide hs
  have HJ := hide (hj _ ⟨gmem, tv, (hx.setP hs.lr (s.p + 1)).alloc (Obj.cells #[.int .i64 8, .int .i64 (A : Int), .int .i64 b, .int .i64 c] 62)⟩)
  unfold opV at HJ
  unfold opV
  clear hx hs hj
  go_enter Try.func115, Try.ntmps115
  go_wp2_with fail
  refine (unhide HJ).mono ?_
  rintro e w1 ⟨rfl, hb1, hp1⟩
  have HB1 := hide hb1
  have HP1 := hide hp1
  clear hb1 hp1
  go_wp2_with fail
  go_end0
  refine ⟨rfl, Below.trans ?_ (unhide HB1), unhide HP1⟩
  have hB := (unhide HX).hB
  exact (below_set (Below.refl _ _) hB).alloc (by simp; omega) _

set_option maxRecDepth 20000 in
set_option maxHeartbeats 1000000 in
theorem has_other (w : World) (gm : Nat) (o : OpI) (h6 : ¬ o.k = 6) (h7 : ¬ o.k = 7) :
    Calls Try.prog 114 #[.pointer (some ⟨gm, 0, none⟩), opV o] w fun e w' => e = .returned (.bool true) ∧ Below w.heap.size w w' := by
  obtain ⟨k, a, b, c⟩ := o
  unfold opV
  simp only at h6 h7
  have hb6 : (k != 6) = true := by simpa using h6
  have hb7 : (k != 7) = true := by simpa using h7
  clear h6 h7
  go_enter Try.func114, Try.ntmps114
  go_wp2_with fail
  go_ret
  exact ⟨rfl, (Below.refl _ _).alloc (Nat.le_refl _) _⟩

set_option maxRecDepth 20000 in
set_option maxHeartbeats 1000000 in
theorem has_mem (w : World) (B gm : Nat) (s : MS) (n : Nat) (k a c : Int) (hk : k = 6 ∨ k = 7) (X : Nat) (hX : X < 16) (h : PM w B gm s) (hs : s.Ok n) :
    Calls Try.prog 114 #[.pointer (some ⟨gm, 0, none⟩), opV ⟨k, a, (X : Int), c⟩] w fun e w' => e = .returned (.bool (decide (s.R.getD X 0 < 4096))) ∧ Below w.heap.size w w' := by
  obtain ⟨gmem, tv, hx⟩ := h
  have hgm := hx.lt
  have cm := hx.cm hs.lr
  have cX := hx.cr hs.lr hX
  have hXI : (X : Int) < 16 := by omega
  unfold opV
  clear hx hs hX
  generalize s.R.getD X 0 = x at *
  rcases hk with rfl | rfl
  all_goals
    go_enter Try.func114, Try.ntmps114
    go_wp2_with fail
    go_region
    go_wp2_with fail
    go_ret
    exact ⟨ret_bool (by rw [decide_eq_decide]; omega), ((Below.refl _ _).alloc (Nat.le_refl _) _).drew⟩

end Mc
end Go.Proofs.Ytnkdbcicphnmiaa
