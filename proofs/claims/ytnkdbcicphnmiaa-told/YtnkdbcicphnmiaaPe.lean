/-
  table.at, table.Table.Next; judge.layer.rows.
-/
import Derived.Test.YtnkdbcicphnmiaaT05
namespace Go.Proofs.Ytnkdbcicphnmiaa
namespace Mc
open Go.RowKit
attribute [local go_sem ↓] Go.wp_at_zero Go.wp_at_succ

/-- A number is appended to a row, in a region that draws its order. -/
theorem app1s {ops : Array Oper} {o : Oper} {a : Act} {W : World} {K : Act → World → Prop} {Q : Exit → Act → World → Prop} {E : Prop} (hgd : o.guard = none) (s x : Operand)
    (ho : o.op = .call { callee := .builtin .append, args := #[s, x], argTypes := #[23, 23] }) (B : Nat) (v : Value) (xs : List Nat) (hs : a.eval s = v) (hown : NR W B v xs) (g0 y : Nat)
    (hx : a.eval x = .slice (some ⟨g0, 0, none⟩) 1 1) (hc : W.cell? ⟨g0, 0, none⟩ = some (.int .i64 (y : Int))) (hlen : xs.length ≤ 3000000) (hB : B ≤ W.heap.size) (H : Nat) (hH : W.heap.size = H)
    (h : ∀ g cap w', w'.ownsRow B 3 1 (.slice (some ⟨g, 0, none⟩) (xs.length + 1) cap) (xs.length + 1) (ncs xs ++ [.int .i64 (y : Int)]) → W.grownBy w' v.ownBlock → (v.ownBlock = some g ∨ g = H) → g < w'.heap.size → K (a.put o.dst (.slice (some ⟨g, 0, none⟩) (xs.length + 1) cap)) w') :
    if Region.wanted o (yielded ops a.tmps) = true then Oper.wp Try.prog o a W K Q else E := by
  obtain ⟨i, i0, i1, i2, i3⟩ := info_of infoI
  exact step_append_lies W hgd s x 23 ho B 3 i (.int .i64 0) 1 8 Try.underlying23 i0 i1 i2 i3 rfl (by decide) v xs.length (ncs xs) hs hown ⟨g0, 0, none⟩ 1 1 [.int .i64 (y : Int)] hx rfl (one_cells hc) (by intro u hu; simp at hu; subst hu; rfl) (by decide) (by unfold maxLen; omega) (by omega) hB H hH h

set_option maxRecDepth 20000 in
theorem tat_any (w : World) (v : Value) (xs : List Nat) (k : Nat) (h : NR w 0 v xs) (hk : k < xs.length) (hl : xs.length ≤ 100000) : Calls Try.prog 123 #[v, .int .i64 (k : Int)] w fun e w' => e = .returned (.int .i64 ((xs.getD k 0 : Nat) : Int)) ∧ w' = w := by
  obtain ⟨g, cap, rfl, hc⟩ := h.at hk
  have hkI : (k : Int) < (xs.length : Int) := by omega
  have hlI : (xs.length : Int) ≤ 100000 := by omega
  clear h hk hl
  generalize xs.getD k 0 = y at *
  go_enter Try.func123, Try.ntmps123
  go_wp2
  go_ret
  exact ⟨rfl, rfl⟩

set_option maxRecDepth 20000 in
set_option maxHeartbeats 1000000 in
theorem TNext_any (w : World) (B gt : Nat) (t : TabN) (h : TbB w B gt t) (q c : Nat) (hq : q < t.S) (hc : c < t.C) : Calls Try.prog 110 #[.pointer (some ⟨gt, 0, none⟩), .int .i64 (q : Int), .int .i64 (c : Int)] w fun e w' => e = .returned (.int .i64 ((t.nx q c : Nat) : Int)) ∧ ∃ n, w' = w.drewN n := by
  obtain ⟨gv, nv, bs, ns, h1, h2, h3, q1, q2, hS, hg, hnl, hnx⟩ := h.ex
  obtain ⟨ga, gc, rfl⟩ := h2.form
  obtain ⟨na, nc, rfl⟩ := h3.form
  have hs2 := h.ok.s2
  have hc2 := h.ok.c2
  have c6 : w.cell? ⟨gt, 256, none⟩ = some (.int .i64 (t.C : Int)) := by rw [cell_of_row _ _ _ _ _ _ h1]; exact tbC_tail _ _ _ _ 0
  have c7 : w.cell? ⟨gt, 257, none⟩ = some (.slice ga bs.length gc) := by rw [cell_of_row _ _ _ _ _ _ h1]; exact tbC_tail _ _ _ _ 1
  have c8 : w.cell? ⟨gt, 258, none⟩ = some (.slice na ns.length nc) := by rw [cell_of_row _ _ _ _ _ _ h1]; exact tbC_tail _ _ _ _ 2
  rw [hS] at c7
  have hin : q * t.C + c < t.S * t.C := by
    have : (q + 1) * t.C ≤ t.S * t.C := Nat.mul_le_mul_right _ hq
    rw [Nat.add_mul, Nat.one_mul] at this
    omega
  have hSC : t.S * t.C ≤ 24 * 24 := Nat.mul_le_mul hs2 hc2
  have HA : Hid (∀ n, Calls Try.prog 123 #[.slice na ns.length nc, .int .i64 ((q * t.C + c : Nat) : Int)] (w.drewN n) fun e w' => e = .returned (.int .i64 ((t.nx q c : Nat) : Int)) ∧ w' = w.drewN n) := fun n => by
    have := tat_any (w.drewN n) _ ns (q * t.C + c) h3 (by omega) (by omega)
    rw [hnx q c hq hc] at this
    exact this
  have hqI : (q : Int) < (t.S : Int) := by omega
  have hcI : (c : Int) < (t.C : Int) := by omega
  have hsI : (t.S : Int) ≤ 24 := by omega
  have hCI : (t.C : Int) ≤ 24 := by omega
  have hm0 : (q : Int) * (t.C : Int) = ((q * t.C : Nat) : Int) := by rw [Int.natCast_mul]
  have hm1 : ((q * t.C : Nat) : Int) + (c : Int) = ((q * t.C + c : Nat) : Int) := by rw [Int.natCast_add]
  have hm2 : ((q * t.C + c : Nat) : Int) ≤ 576 := by omega
  have hm3 : ((q * t.C : Nat) : Int) ≤ 576 := by omega
  generalize q * t.C + c = k at *
  generalize q * t.C = k0 at *
  generalize t.nx q c = y at *
  clear h h1 h2 h3 q1 q2 hS hg hnl hnx hq hc hs2 hc2 hin hSC
  go_enter Try.func110, Try.ntmps110
  go_wp2_with fail
  go_quiet ((go_at_call 123; exact Calls.quiet_of_same (unhide HA _)))
  go_wp2_with fail
  go_ret
  exact ⟨rfl, _, rfl⟩

end Mc
end Go.Proofs.Ytnkdbcicphnmiaa
