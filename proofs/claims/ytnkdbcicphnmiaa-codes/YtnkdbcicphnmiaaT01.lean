/-
  machine.machine.do at operations that join two registers.
  machine.machine.do and hasAddress at whatever operation.
-/
import Derived.Test.YtnkdbcicphnmiaaNf
import Derived.Test.YtnkdbcicphnmiaaT00
import Derived.Test.YtnkdbcicphnmiaaNh
namespace Go.Proofs.Ytnkdbcicphnmiaa
namespace Mc
open Go.RowKit
attribute [local go_sem ↓] Go.wp_at_zero Go.wp_at_succ

theorem below_drewN {B : Nat} {w w1 : World} (h : Below B w w1) (n : Nat) : Below B w (w1.drewN n) := ⟨h.os, h.tape, h.output, h.size, h.block⟩
theorem PMx.drewN {w : World} {B gm gmem : Nat} {tv : Value} {s : MS} (h : PMx w B gm gmem tv s) (n : Nat) : PMx (w.drewN n) B gm gmem tv s := ⟨h.hB, h.heap, h.mem, h.tr, h.ne⟩
set_option maxRecDepth 20000 in
set_option maxHeartbeats 1000000 in
theorem do_join (w : World) (B gm : Nat) (s : MS) (n : Nat) (k : Int) (hk : 1 ≤ k ∧ k ≤ 5) (A X Y : Nat) (hA : A < 16) (hX : X < 16) (hY : Y < 16) (h : PM w B gm s) (hs : s.Ok n) (hn : n ≤ 4096) :
    Calls Try.prog 115 #[.pointer (some ⟨gm, 0, none⟩), opV ⟨k, (A : Int), (X : Int), (Y : Int)⟩] w fun e w' => e = .returned (.tuple #[]) ∧ Below B w w' ∧ PM w' B gm ⟨s.R.set A (joinN k (s.R.getD X 0) (s.R.getD Y 0)), s.M, s.p + 1, s.T⟩ := by
  obtain ⟨gmem, tv, hx⟩ := h
  have hgm := hx.lt
  have cp := hx.cp hs.lr
  have cA := hx.cr hs.lr hA
  have cX := hx.cr hs.lr hX
  have cY := hx.cr hs.lr hY
  have fp := hx.free 18
  have fA := hx.free A
  have hpI : (s.p : Int) ≤ 4096 := by have := hs.p; omega
  have hAI : (A : Int) < 16 := by omega
  have hXI : (X : Int) < 16 := by omega
  have hYI : (Y : Int) < 16 := by omega
  have h0 : ¬ k = 0 := by omega
  have h6 : ¬ k = 6 := by omega
  have h7 : ¬ k = 7 := by omega
  have h8 : ¬ k = 8 := by omega
  have HJ := hide (fun w => joined_any k hk _ _ (hs.r X) (hs.r Y) w)
  have HX := hide hx
  have HS := hide hs
  have HA := hide hA
  have HCX : Hid (∀ W, PMx W B gm gmem tv ⟨s.R, s.M, s.p + 1, s.T⟩ → W.cell? ⟨gm, X, none⟩ = some (.int .i64 ((s.R.getD X 0 : Nat) : Int))) := fun W h => h.cr hs.lr hX
  have HCY : Hid (∀ W, PMx W B gm gmem tv ⟨s.R, s.M, s.p + 1, s.T⟩ → W.cell? ⟨gm, Y, none⟩ = some (.int .i64 ((s.R.getD Y 0 : Nat) : Int))) := fun W h => h.cr hs.lr hY
  have HCA : Hid (∀ W, PMx W B gm gmem tv ⟨s.R, s.M, s.p + 1, s.T⟩ → W.cell? ⟨gm, A, none⟩ = some (.int .i64 ((s.R.getD A 0 : Nat) : Int))) := fun W h => h.cr hs.lr hA
  generalize joinN k (s.R.getD X 0) (s.R.getD Y 0) = z at *
  generalize s.R.getD X 0 = x at *
  generalize s.R.getD Y 0 = y at *
  unfold opV
  clear hx hs hA hX hY hk
  go_enter Try.func115, Try.ntmps115
  go_wp2_with fail
  obtain ⟨W, hW⟩ : ∃ W, W = ((w.setCell ⟨gm, 18, none⟩ (.int .i64 ((s.p : Int) + 1))).alloc (Obj.cells #[.int .i64 k, .int .i64 (A : Int), .int .i64 (X : Int), .int .i64 (Y : Int)] 62)) := ⟨_, rfl⟩
  have hPW : PMx W B gm gmem tv ⟨s.R, s.M, s.p + 1, s.T⟩ := by rw [hW]; exact ((unhide HX).setP (unhide HS).lr (s.p + 1)).alloc _
  have hBW : Below B w W := by
    have hB := (unhide HX).hB
    rw [hW]; exact (below_set (Below.refl _ _) hB).alloc (by simp; omega) _
  have hbox : W.heap[w.heap.size]? = some (.cells #[.int .i64 k, .int .i64 (A : Int), .int .i64 (X : Int), .int .i64 (Y : Int)] 62 (0, 0)) := by
    rw [hW]
    have := heap_alloc_new (w.setCell ⟨gm, 18, none⟩ (.int .i64 ((s.p : Int) + 1))) (Obj.cells #[.int .i64 k, .int .i64 (A : Int), .int .i64 (X : Int), .int .i64 (Y : Int)] 62)
    simpa using this
  rw [← hW]
  have HPW := hide hPW
  have HBW := hide hBW
  have b0 : W.cell? ⟨w.heap.size, 0, none⟩ = some (.int .i64 k) := by rw [cell_of_row _ _ _ _ _ _ hbox]; rfl
  have b1 : W.cell? ⟨w.heap.size, 1, none⟩ = some (.int .i64 (A : Int)) := by rw [cell_of_row _ _ _ _ _ _ hbox]; rfl
  have b2 : W.cell? ⟨w.heap.size, 2, none⟩ = some (.int .i64 (X : Int)) := by rw [cell_of_row _ _ _ _ _ _ hbox]; rfl
  have b3 : W.cell? ⟨w.heap.size, 3, none⟩ = some (.int .i64 (Y : Int)) := by rw [cell_of_row _ _ _ _ _ _ hbox]; rfl
  have d1 := unhide HCX W hPW
  have d2 := unhide HCY W hPW
  have d3 := unhide HCA W hPW
  have d4 := hPW.free A
  clear hW hPW hBW hbox cp cA cX cY fp fA
  generalize w.heap.size = N at *
  refine wp_region_last rfl (by kernel_rfl) rfl rfl (by kernel_rfl) (by kernel_rfl) (by kernel_rfl) ?_
  simp only [List.dropLast, List.cons_append, List.nil_append, nopOf]
  repeat (quiet_step ((go_at_call 126; exact Calls.quiet_of_same (unhide HJ _))))
  refine wpQuiet_nil ?_
  rintro w' ⟨nq, rfl⟩
  go_simp
  go_end0
  exact ⟨rfl, below_set (below_drewN (unhide HBW) nq) (unhide HPW).hB, gmem, tv, ((unhide HPW).drewN nq).setR (unhide HS).lr (unhide HA) z⟩

end Mc
end Go.Proofs.Ytnkdbcicphnmiaa
namespace Go.Proofs.Ytnkdbcicphnmiaa
namespace Mc
open Go.RowKit

theorem andT {a b : Bool} (h : (a && b) = true) : a = true ∧ b = true := by cases a <;> cases b <;> simp_all
theorem wordA {x : Int} (h : wordOk x = true) : ∃ A : Nat, x = (A : Int) ∧ A ≤ 65535 := by
  simp [wordOk] at h
  exact ⟨x.toNat, by omega, by omega⟩
theorem op_kind {o : OpI} {n : Int} (h : opOk o n = true) : o.k = 0 ∨ (1 ≤ o.k ∧ o.k ≤ 5) ∨ o.k = 6 ∨ o.k = 7 ∨ o.k = 8 := by
  by_cases h9 : o.k < 0 ∨ 8 < o.k
  · rw [opOk9 h9] at h; cases h
  · omega

theorem do_any (w : World) (B gm : Nat) (s s' : MS) (n : Nat) (o : OpI) (h : PM w B gm s) (hs : s.Ok n) (hn : n ≤ 4096) (hT : s.T.length ≤ 3000000) (ho : opOk o n = true) (hst : stepN o s = some s') :
    Calls Try.prog 115 #[.pointer (some ⟨gm, 0, none⟩), opV o] w fun e w' => e = .returned (.tuple #[]) ∧ Below B w w' ∧ PM w' B gm s' := by
  rcases op_kind ho with hk | hk | hk | hk | hk
  · rw [opOk0 hk] at ho
    obtain ⟨ha, hb⟩ := andT ho
    obtain ⟨k, a, b, c⟩ := o
    simp only at hk ha hb
    subst hk
    obtain ⟨A, rfl, hA⟩ := regA ha
    obtain ⟨x, rfl, hx⟩ := wordA hb
    simp [stepN] at hst
    subst hst
    exact do_set w B gm s n A x hA c h hs hn
  · rw [opOk1 hk] at ho
    obtain ⟨hab, hc⟩ := andT ho
    obtain ⟨ha, hb⟩ := andT hab
    obtain ⟨k, a, b, c⟩ := o
    simp only at hk ha hb hc
    obtain ⟨A, rfl, hA⟩ := regA ha
    obtain ⟨X, rfl, hX⟩ := regA hb
    obtain ⟨Y, rfl, hY⟩ := regA hc
    rw [stepN, if_neg (by simp only; omega), if_neg (by simp only; omega), if_neg (by simp only; omega), if_neg (by simp only; omega)] at hst
    simp [MS.r] at hst
    subst hst
    have := do_join w B gm s n k hk A X Y hA hX hY h hs hn
    simpa [List.getD_eq_getElem?_getD] using this
  · rw [opOk6 (.inl hk)] at ho
    obtain ⟨ha, hb⟩ := andT ho
    obtain ⟨k, a, b, c⟩ := o
    simp only at hk ha hb
    subst hk
    obtain ⟨A, rfl, hA⟩ := regA ha
    obtain ⟨X, rfl, hX⟩ := regA hb
    rw [stepN, if_neg (by simp), if_pos rfl] at hst
    split at hst
    · next hx =>
      simp only [Option.some.injEq] at hst
      subst hst
      exact do_load w B gm s n A X hA hX c hx h hs hn hT
    · cases hst
  · rw [opOk6 (.inr hk)] at ho
    obtain ⟨ha, hb⟩ := andT ho
    obtain ⟨k, a, b, c⟩ := o
    simp only at hk ha hb
    subst hk
    obtain ⟨A, rfl, hA⟩ := regA ha
    obtain ⟨X, rfl, hX⟩ := regA hb
    rw [stepN, if_neg (by simp), if_neg (by simp), if_pos rfl] at hst
    split at hst
    · next hx =>
      simp only [Option.some.injEq] at hst
      subst hst
      exact do_store w B gm s n A X hA hX c hx h hs hn hT
    · cases hst
  · rw [opOk8 hk] at ho
    obtain ⟨ha, hb⟩ := andT ho
    obtain ⟨k, a, b, c⟩ := o
    simp only at hk ha hb
    subst hk
    obtain ⟨A, rfl, hA⟩ := regA ha
    obtain ⟨q, rfl⟩ : ∃ q : Nat, b = (q : Int) := ⟨b.toNat, by simp at hb; omega⟩
    have hs1 : MS.Ok ⟨s.R, s.M, s.p + 1, s.T⟩ (n + 1) := ⟨hs.lr, hs.lm, hs.r, hs.m, Nat.succ_le_succ hs.p⟩
    rw [stepN, if_neg (by simp), if_neg (by simp), if_neg (by simp), if_pos rfl] at hst
    split at hst
    · next hx =>
      simp only [Option.some.injEq] at hst
      subst hst
      exact do_jump w B gm s _ n A _ c h hs hn (fun W hW => jump_no W B gm ⟨s.R, s.M, s.p + 1, s.T⟩ (n + 1) A _ c hA hW hs1 hT hx)
    · next hx =>
      simp only [Option.some.injEq] at hst
      subst hst
      exact do_jump w B gm s _ n A _ c h hs hn (fun W hW => jump_yes W B gm ⟨s.R, s.M, s.p + 1, s.T⟩ (n + 1) A q c hA hW hs1 hT hx)

theorem has_any (w : World) (B gm : Nat) (s : MS) (n : Nat) (o : OpI) (h : PM w B gm s) (hs : s.Ok n) (ho : opOk o n = true) :
    Calls Try.prog 114 #[.pointer (some ⟨gm, 0, none⟩), opV o] w fun e w' => e = .returned (.bool (stepN o s).isSome) ∧ Below w.heap.size w w' := by
  by_cases hk : o.k = 6 ∨ o.k = 7
  · rw [opOk6 hk] at ho
    obtain ⟨ha, hb⟩ := andT ho
    obtain ⟨k, a, b, c⟩ := o
    simp only at hk ha hb
    obtain ⟨X, rfl, hX⟩ := regA hb
    have e : (stepN ⟨k, a, (X : Int), c⟩ s).isSome = decide (s.R.getD X 0 < 4096) := by
      rcases hk with rfl | rfl
      · rw [stepN, if_neg (by simp), if_pos rfl]
        show Option.isSome (if s.R.getD X 0 < 4096 then _ else _) = _
        split <;> simp_all
      · rw [stepN, if_neg (by simp), if_neg (by simp), if_pos rfl]
        show Option.isSome (if s.R.getD X 0 < 4096 then _ else _) = _
        split <;> simp_all
    rw [e]
    exact has_mem w B gm s n k a c hk X hX h hs
  · have e : (stepN o s).isSome = true := by
      unfold stepN
      split
      · rfl
      · rw [if_neg (fun e => hk (.inl e)), if_neg (fun e => hk (.inr e))]
        split
        · split <;> rfl
        · rfl
    rw [e]
    exact has_other w gm o (fun e => hk (.inl e)) (fun e => hk (.inr e))

end Mc
end Go.Proofs.Ytnkdbcicphnmiaa
