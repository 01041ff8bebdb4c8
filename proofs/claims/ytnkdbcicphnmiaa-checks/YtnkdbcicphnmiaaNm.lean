/-
  veilref.Takes; veilref.Machine.plain: the document's machine at operations on registers.
-/
import Derived.Test.YtnkdbcicphnmiaaT01
namespace Go.Proofs.Ytnkdbcicphnmiaa
namespace Mc
open Go.RowKit
attribute [local go_sem ↓] Go.wp_at_zero Go.wp_at_succ

section
variable {w : World} {B gm : Nat} {tv : Value} {s : MS}
theorem RMx.cr (h : RMx w B gm tv s) (hr : s.R.length = 16) {k : Nat} (hk : k < 16) : w.cell? ⟨gm, k, none⟩ = some (.int .i64 ((s.R.getD k 0 : Nat) : Int)) := by rw [cell_of_row _ _ _ _ _ _ h.heap]; exact rmC_r hr hk
theorem RMx.cw (h : RMx w B gm tv s) (hr : s.R.length = 16) (hm : s.M.length = 4096) {k : Nat} (hk : k < 4096) : w.cell? ⟨gm, 16 + k, none⟩ = some (.int .i64 ((s.M.getD k 0 : Nat) : Int)) := by rw [cell_of_row _ _ _ _ _ _ h.heap]; exact rmC_m hr hm hk
theorem RMx.cp (h : RMx w B gm tv s) (hr : s.R.length = 16) (hm : s.M.length = 4096) : w.cell? ⟨gm, 4112, none⟩ = some (.int .i64 (s.p : Int)) := by rw [cell_of_row _ _ _ _ _ _ h.heap]; exact rmC_tail hr hm 0
theorem RMx.ct (h : RMx w B gm tv s) (hr : s.R.length = 16) (hm : s.M.length = 4096) : w.cell? ⟨gm, 4113, none⟩ = some tv := by rw [cell_of_row _ _ _ _ _ _ h.heap]; exact rmC_tail hr hm 1
theorem RMx.free (h : RMx w B gm tv s) (k : Nat) : w.frozen? ⟨gm, k, none⟩ = false := frozen_of_row _ _ _ _ _ h.heap
theorem RMx.drewN (h : RMx w B gm tv s) (n : Nat) : RMx (w.drewN n) B gm tv s := ⟨h.hB, h.heap, h.tr⟩
theorem RMx.grownT {w' : World} (h : RMx w B gm tv s) (hr : s.R.length = 16) (hm : s.M.length = 4096) (hgrow : w.grownBy w' tv.ownBlock) : w'.cell? ⟨gm, 4113, none⟩ = some tv ∧ w'.frozen? ⟨gm, 4113, none⟩ = false ∧ w'.cell? ⟨gm, 4112, none⟩ = some (.int .i64 (s.p : Int)) ∧ w'.frozen? ⟨gm, 4112, none⟩ = false := by
  have a1 : w'.heap[gm]? = _ := (Fr.ofGrown hgrow).at h.heap (fun hm => by rw [Option.mem_toList] at hm; exact h.neT _ hm rfl)
  exact ⟨by rw [cell_of_row _ _ _ _ _ _ a1]; exact rmC_tail hr hm 1, frozen_of_row _ _ _ _ _ a1, by rw [cell_of_row _ _ _ _ _ _ a1]; exact rmC_tail hr hm 0, frozen_of_row _ _ _ _ _ a1⟩
theorem RMx.below (h : RMx w B gm tv s) {w0 w' : World} (hb : Below B w0 w) (hgrow : w.grownBy w' tv.ownBlock) (v : Value) : Below B w0 (w'.setCell ⟨gm, 4113, none⟩ v) :=
  below_set (below_grown hb hgrow (Nat.le_trans h.hB (Nat.le_of_lt h.lt)) (fun k hk => (h.tr.lt k hk).1)) h.hB
end

set_option maxRecDepth 20000 in
set_option maxHeartbeats 1000000 in
theorem plain_set (w : World) (B gm : Nat) (s : MS) (n : Nat) (A x : Nat) (hA : A < 16) (c : Int) (h : RM w B gm s) (hs : s.Ok n) (hn : n ≤ 4096) :
    Calls Try.prog 95 #[.pointer (some ⟨gm, 0, none⟩), opV ⟨0, (A : Int), (x : Int), c⟩] w fun e w' => e = .returned (.tuple #[]) ∧ Below B w w' ∧ RM w' B gm ⟨s.R.set A x, s.M, s.p + 1, s.T⟩ := by
  obtain ⟨tv, hx⟩ := h
  have hgm := hx.lt
  have cp := hx.cp hs.lr hs.lm
  have cA := hx.cr hs.lr hA
  have fp := hx.free 4112
  have fA := hx.free A
  have hpI : (s.p : Int) ≤ 4096 := by have := hs.p; omega
  have hAI : (A : Int) < 16 := by omega
  have hA2 : ¬ A = 4112 := by omega
  have hA3 : ¬ 4112 = A := by omega
  have HX := hide hx
  have HS := hide hs
  have HA := hide hA
  unfold opV
  clear hx hs hA
  go_enter Try.func95, Try.ntmps95
  go_wp2_with fail
  go_region
  all_goals
    go_wp2_with fail
    go_end0
    exact ⟨rfl, ((below_set (below_set (Below.refl _ _) (unhide HX).hB) (unhide HX).hB).alloc (by have := (unhide HX).hB; simp; omega) _).drew, tv, ((((unhide HX).setR (unhide HS).lr (unhide HA) x).setP (by simpa using (unhide HS).lr) (unhide HS).lm (s.p + 1)).alloc _).drew⟩

set_option maxRecDepth 20000 in
set_option maxHeartbeats 1000000 in
theorem plain_add (w : World) (B gm : Nat) (s : MS) (n : Nat) (A X Y : Nat) (hA : A < 16) (hX : X < 16) (hY : Y < 16) (h : RM w B gm s) (hs : s.Ok n) (hn : n ≤ 4096) :
    Calls Try.prog 95 #[.pointer (some ⟨gm, 0, none⟩), opV ⟨1, (A : Int), (X : Int), (Y : Int)⟩] w fun e w' => e = .returned (.tuple #[]) ∧ Below B w w' ∧ RM w' B gm ⟨s.R.set A (joinN 1 (s.R.getD X 0) (s.R.getD Y 0)), s.M, s.p + 1, s.T⟩ := by
  obtain ⟨tv, hx⟩ := h
  have hgm := hx.lt
  have cp := hx.cp hs.lr hs.lm
  have cA := hx.cr hs.lr hA
  have cX := hx.cr hs.lr hX
  have cY := hx.cr hs.lr hY
  have fp := hx.free 4112
  have fA := hx.free A
  have hpI : (s.p : Int) ≤ 4096 := by have := hs.p; omega
  have hAI : (A : Int) < 16 := by omega
  have hXI : (X : Int) < 16 := by omega
  have hYI : (Y : Int) < 16 := by omega
  have hA2 : ¬ A = 4112 := by omega
  have hA3 : ¬ 4112 = A := by omega
  have hxb := hs.r X
  have hyb := hs.r Y
  have hxI : ((s.R.getD X 0 : Nat) : Int) ≤ 65535 := by omega
  have hyI : ((s.R.getD Y 0 : Nat) : Int) ≤ 65535 := by omega
  have HX := hide hx
  have HS := hide hs
  have HA := hide hA
  obtain ⟨z, hz, hz2⟩ : ∃ z : Nat, joinN 1 (s.R.getD X 0) (s.R.getD Y 0) = z ∧ (((s.R.getD X 0 : Nat) : Int) + ((s.R.getD Y 0 : Nat) : Int)) % 65536 = (z : Int) := ⟨_, rfl, by unfold joinN; rw [if_pos rfl]; omega⟩
  rw [hz]
  clear hz
  generalize s.R.getD X 0 = x at *
  generalize s.R.getD Y 0 = y at *
  unfold opV
  clear hx hs hA hX hY hxb hyb
  go_enter Try.func95, Try.ntmps95
  go_wp2_with fail
  go_region
  all_goals
    go_wp2_with fail
    go_end0
    exact ⟨rfl, ((below_set (below_set (Below.refl _ _) (unhide HX).hB) (unhide HX).hB).alloc (by have := (unhide HX).hB; simp; omega) _).drew, tv, ((((unhide HX).setR (unhide HS).lr (unhide HA) z).setP (by simpa using (unhide HS).lr) (unhide HS).lm (s.p + 1)).alloc _).drew⟩

set_option maxRecDepth 20000 in
set_option maxHeartbeats 1000000 in
theorem plain_and (w : World) (B gm : Nat) (s : MS) (n : Nat) (A X Y : Nat) (hA : A < 16) (hX : X < 16) (hY : Y < 16) (h : RM w B gm s) (hs : s.Ok n) (hn : n ≤ 4096) :
    Calls Try.prog 95 #[.pointer (some ⟨gm, 0, none⟩), opV ⟨2, (A : Int), (X : Int), (Y : Int)⟩] w fun e w' => e = .returned (.tuple #[]) ∧ Below B w w' ∧ RM w' B gm ⟨s.R.set A (joinN 2 (s.R.getD X 0) (s.R.getD Y 0)), s.M, s.p + 1, s.T⟩ := by
  obtain ⟨tv, hx⟩ := h
  have hgm := hx.lt
  have cp := hx.cp hs.lr hs.lm
  have cA := hx.cr hs.lr hA
  have cX := hx.cr hs.lr hX
  have cY := hx.cr hs.lr hY
  have fp := hx.free 4112
  have fA := hx.free A
  have hpI : (s.p : Int) ≤ 4096 := by have := hs.p; omega
  have hAI : (A : Int) < 16 := by omega
  have hXI : (X : Int) < 16 := by omega
  have hYI : (Y : Int) < 16 := by omega
  have hA2 : ¬ A = 4112 := by omega
  have hA3 : ¬ 4112 = A := by omega
  have hxb := hs.r X
  have hyb := hs.r Y
  have hxI : ((s.R.getD X 0 : Nat) : Int) ≤ 65535 := by omega
  have hyI : ((s.R.getD Y 0 : Nat) : Int) ≤ 65535 := by omega
  have HX := hide hx
  have HS := hide hs
  have HA := hide hA
  rw [join_and]
  have hz2 := and_nat _ _ hxb hyb
  generalize s.R.getD X 0 &&& s.R.getD Y 0 = z at *
  generalize s.R.getD X 0 = x at *
  generalize s.R.getD Y 0 = y at *
  unfold opV
  clear hx hs hA hX hY hxb hyb
  go_enter Try.func95, Try.ntmps95
  go_wp2_with fail
  go_region
  all_goals
    go_wp2_with fail
    go_end0
    exact ⟨rfl, ((below_set (below_set (Below.refl _ _) (unhide HX).hB) (unhide HX).hB).alloc (by have := (unhide HX).hB; simp; omega) _).drew, tv, ((((unhide HX).setR (unhide HS).lr (unhide HA) z).setP (by simpa using (unhide HS).lr) (unhide HS).lm (s.p + 1)).alloc _).drew⟩

set_option maxRecDepth 20000 in
set_option maxHeartbeats 1000000 in
theorem plain_or (w : World) (B gm : Nat) (s : MS) (n : Nat) (A X Y : Nat) (hA : A < 16) (hX : X < 16) (hY : Y < 16) (h : RM w B gm s) (hs : s.Ok n) (hn : n ≤ 4096) :
    Calls Try.prog 95 #[.pointer (some ⟨gm, 0, none⟩), opV ⟨3, (A : Int), (X : Int), (Y : Int)⟩] w fun e w' => e = .returned (.tuple #[]) ∧ Below B w w' ∧ RM w' B gm ⟨s.R.set A (joinN 3 (s.R.getD X 0) (s.R.getD Y 0)), s.M, s.p + 1, s.T⟩ := by
  obtain ⟨tv, hx⟩ := h
  have hgm := hx.lt
  have cp := hx.cp hs.lr hs.lm
  have cA := hx.cr hs.lr hA
  have cX := hx.cr hs.lr hX
  have cY := hx.cr hs.lr hY
  have fp := hx.free 4112
  have fA := hx.free A
  have hpI : (s.p : Int) ≤ 4096 := by have := hs.p; omega
  have hAI : (A : Int) < 16 := by omega
  have hXI : (X : Int) < 16 := by omega
  have hYI : (Y : Int) < 16 := by omega
  have hA2 : ¬ A = 4112 := by omega
  have hA3 : ¬ 4112 = A := by omega
  have hxb := hs.r X
  have hyb := hs.r Y
  have hxI : ((s.R.getD X 0 : Nat) : Int) ≤ 65535 := by omega
  have hyI : ((s.R.getD Y 0 : Nat) : Int) ≤ 65535 := by omega
  have HX := hide hx
  have HS := hide hs
  have HA := hide hA
  rw [join_or]
  have hz2 := or_nat _ _ hxb hyb
  generalize s.R.getD X 0 ||| s.R.getD Y 0 = z at *
  generalize s.R.getD X 0 = x at *
  generalize s.R.getD Y 0 = y at *
  unfold opV
  clear hx hs hA hX hY hxb hyb
  go_enter Try.func95, Try.ntmps95
  go_wp2_with fail
  go_region
  all_goals
    go_wp2_with fail
    go_end0
    exact ⟨rfl, ((below_set (below_set (Below.refl _ _) (unhide HX).hB) (unhide HX).hB).alloc (by have := (unhide HX).hB; simp; omega) _).drew, tv, ((((unhide HX).setR (unhide HS).lr (unhide HA) z).setP (by simpa using (unhide HS).lr) (unhide HS).lm (s.p + 1)).alloc _).drew⟩

set_option maxRecDepth 20000 in
set_option maxHeartbeats 1000000 in
theorem plain_xor (w : World) (B gm : Nat) (s : MS) (n : Nat) (A X Y : Nat) (hA : A < 16) (hX : X < 16) (hY : Y < 16) (h : RM w B gm s) (hs : s.Ok n) (hn : n ≤ 4096) :
    Calls Try.prog 95 #[.pointer (some ⟨gm, 0, none⟩), opV ⟨4, (A : Int), (X : Int), (Y : Int)⟩] w fun e w' => e = .returned (.tuple #[]) ∧ Below B w w' ∧ RM w' B gm ⟨s.R.set A (joinN 4 (s.R.getD X 0) (s.R.getD Y 0)), s.M, s.p + 1, s.T⟩ := by
  obtain ⟨tv, hx⟩ := h
  have hgm := hx.lt
  have cp := hx.cp hs.lr hs.lm
  have cA := hx.cr hs.lr hA
  have cX := hx.cr hs.lr hX
  have cY := hx.cr hs.lr hY
  have fp := hx.free 4112
  have fA := hx.free A
  have hpI : (s.p : Int) ≤ 4096 := by have := hs.p; omega
  have hAI : (A : Int) < 16 := by omega
  have hXI : (X : Int) < 16 := by omega
  have hYI : (Y : Int) < 16 := by omega
  have hA2 : ¬ A = 4112 := by omega
  have hA3 : ¬ 4112 = A := by omega
  have hxb := hs.r X
  have hyb := hs.r Y
  have hxI : ((s.R.getD X 0 : Nat) : Int) ≤ 65535 := by omega
  have hyI : ((s.R.getD Y 0 : Nat) : Int) ≤ 65535 := by omega
  have HX := hide hx
  have HS := hide hs
  have HA := hide hA
  rw [join_xor]
  have hz2 := xor_nat _ _ hxb hyb
  generalize s.R.getD X 0 ^^^ s.R.getD Y 0 = z at *
  generalize s.R.getD X 0 = x at *
  generalize s.R.getD Y 0 = y at *
  unfold opV
  clear hx hs hA hX hY hxb hyb
  go_enter Try.func95, Try.ntmps95
  go_wp2_with fail
  go_region
  all_goals
    go_wp2_with fail
    go_end0
    exact ⟨rfl, ((below_set (below_set (Below.refl _ _) (unhide HX).hB) (unhide HX).hB).alloc (by have := (unhide HX).hB; simp; omega) _).drew, tv, ((((unhide HX).setR (unhide HS).lr (unhide HA) z).setP (by simpa using (unhide HS).lr) (unhide HS).lm (s.p + 1)).alloc _).drew⟩

set_option maxRecDepth 20000 in
set_option maxHeartbeats 1000000 in
theorem plain_eq (w : World) (B gm : Nat) (s : MS) (n : Nat) (A X Y : Nat) (hA : A < 16) (hX : X < 16) (hY : Y < 16) (h : RM w B gm s) (hs : s.Ok n) (hn : n ≤ 4096) :
    Calls Try.prog 95 #[.pointer (some ⟨gm, 0, none⟩), opV ⟨5, (A : Int), (X : Int), (Y : Int)⟩] w fun e w' => e = .returned (.tuple #[]) ∧ Below B w w' ∧ RM w' B gm ⟨s.R.set A (joinN 5 (s.R.getD X 0) (s.R.getD Y 0)), s.M, s.p + 1, s.T⟩ := by
  obtain ⟨tv, hx⟩ := h
  have hgm := hx.lt
  have cp := hx.cp hs.lr hs.lm
  have cA := hx.cr hs.lr hA
  have cX := hx.cr hs.lr hX
  have cY := hx.cr hs.lr hY
  have fp := hx.free 4112
  have fA := hx.free A
  have hpI : (s.p : Int) ≤ 4096 := by have := hs.p; omega
  have hAI : (A : Int) < 16 := by omega
  have hXI : (X : Int) < 16 := by omega
  have hYI : (Y : Int) < 16 := by omega
  have hA2 : ¬ A = 4112 := by omega
  have hA3 : ¬ 4112 = A := by omega
  have hxb := hs.r X
  have hyb := hs.r Y
  have hxI : ((s.R.getD X 0 : Nat) : Int) ≤ 65535 := by omega
  have hyI : ((s.R.getD Y 0 : Nat) : Int) ≤ 65535 := by omega
  have HX := hide hx
  have HS := hide hs
  have HA := hide hA
  rw [join_eq]
  generalize s.R.getD X 0 = x at *
  generalize s.R.getD Y 0 = y at *
  unfold opV
  clear hx hs hA hX hY hxb hyb
  have HX2 := hide ((unhide HX).setR (unhide HS).lr (unhide HA) 0)
  have cA2 := (unhide HX2).cr (k := A) (by simpa using (unhide HS).lr) (unhide HA)
  by_cases hxy : x = y
  · subst hxy
    rw [if_pos rfl]
    go_enter Try.func95, Try.ntmps95
    go_wp2_with fail
    go_region
    go_wp2_with fail
    go_region
    go_wp2_with fail
    go_region
    go_wp2_with fail
    go_end0
    refine ⟨rfl, ((below_set (below_set (below_set (Below.refl _ _) (unhide HX).hB) (unhide HX).hB) (unhide HX).hB).alloc (by have := (unhide HX).hB; simp; omega) _).drew.drew.drew, tv, ?_⟩
    have hR : (s.R.set A 0).length = 16 := by simpa using (unhide HS).lr
    have := (((unhide HX2).setR hR (unhide HA) 65535).setP (by simpa using hR) (unhide HS).lm (s.p + 1)).alloc (Obj.cells #[.int .i64 5, .int .i64 (A : Int), .int .i64 (X : Int), .int .i64 (Y : Int)] 62)
    simp only [List.set_set] at this
    exact this.drew.drew.drew
  · have hne : ¬ (x : Int) = (y : Int) := by omega
    rw [if_neg hxy]
    clear hxy
    go_enter Try.func95, Try.ntmps95
    go_wp2_with fail
    go_region
    go_wp2_with fail
    go_region
    go_wp2_with fail
    go_end0
    exact ⟨rfl, ((below_set (below_set (Below.refl _ _) (unhide HX).hB) (unhide HX).hB).alloc (by have := (unhide HX).hB; simp; omega) _).drew.drew, tv, (((unhide HX2).setP (by simpa using (unhide HS).lr) (unhide HS).lm (s.p + 1)).alloc _).drew.drew⟩

theorem plain_join (w : World) (B gm : Nat) (s : MS) (n : Nat) (k : Int) (hk : 1 ≤ k ∧ k ≤ 5) (A X Y : Nat) (hA : A < 16) (hX : X < 16) (hY : Y < 16) (h : RM w B gm s) (hs : s.Ok n) (hn : n ≤ 4096) :
    Calls Try.prog 95 #[.pointer (some ⟨gm, 0, none⟩), opV ⟨k, (A : Int), (X : Int), (Y : Int)⟩] w fun e w' => e = .returned (.tuple #[]) ∧ Below B w w' ∧ RM w' B gm ⟨s.R.set A (joinN k (s.R.getD X 0) (s.R.getD Y 0)), s.M, s.p + 1, s.T⟩ := by
  rcases k15 hk with rfl | rfl | rfl | rfl | rfl
  · exact plain_add w B gm s n A X Y hA hX hY h hs hn
  · exact plain_and w B gm s n A X Y hA hX hY h hs hn
  · exact plain_or w B gm s n A X Y hA hX hY h hs hn
  · exact plain_xor w B gm s n A X Y hA hX hY h hs hn
  · exact plain_eq w B gm s n A X Y hA hX hY h hs hn

end Mc
end Go.Proofs.Ytnkdbcicphnmiaa
