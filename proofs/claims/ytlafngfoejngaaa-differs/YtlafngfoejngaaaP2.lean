/-
  table.at, table.Table.Next; judge.layer.rows.
  judge.layer.rows: the rows of a table's states.
  judge.marked: which marks are in a sum; policies.Image: Most, Rules.
-/
import Derived.Test.YtlafngfoejngaaaP1
namespace Go.Proofs.Ytlafngfoejngaaa
namespace Mc
open Go.RowKit
attribute [local go_sem ↓] Go.wp_at_zero Go.wp_at_succ

/-- A number is appended to a row, in a region that draws its order. -/
theorem app1s {ops : Array Oper} {o : Oper} {a : Act} {W : World} {K : Act → World → Prop} {Q : Exit → Act → World → Prop} {E : Prop} (hgd : o.guard = none) (s x : Operand)
    (ho : o.op = .call { callee := .builtin .append, args := #[s, x], argTypes := #[64, 64] }) (B : Nat) (v : Value) (xs : List Nat) (hs : a.eval s = v) (hown : NR W B v xs) (g0 y : Nat)
    (hx : a.eval x = .slice (some ⟨g0, 0, none⟩) 1 1) (hc : W.cell? ⟨g0, 0, none⟩ = some (.int .i64 (y : Int))) (hlen : xs.length ≤ 3000000) (hB : B ≤ W.heap.size) (H : Nat) (hH : W.heap.size = H)
    (h : ∀ g cap w', w'.ownsRow B 3 1 (.slice (some ⟨g, 0, none⟩) (xs.length + 1) cap) (xs.length + 1) (ncs xs ++ [.int .i64 (y : Int)]) → W.grownBy w' v.ownBlock → (v.ownBlock = some g ∨ g = H) → g < w'.heap.size → K (a.put o.dst (.slice (some ⟨g, 0, none⟩) (xs.length + 1) cap)) w') :
    if Region.wanted o (yielded ops a.tmps) = true then Oper.wp Try.prog o a W K Q else E := by
  obtain ⟨i, i0, i1, i2, i3⟩ := info_of infoI
  exact step_append_lies W hgd s x 64 ho B 3 i (.int .i64 0) 1 8 Try.underlying64 i0 i1 i2 i3 rfl (by decide) v xs.length (ncs xs) hs hown ⟨g0, 0, none⟩ 1 1 [.int .i64 (y : Int)] hx rfl (one_cells hc) (by intro u hu; simp at hu; subst hu; rfl) (by decide) (by unfold maxLen; omega) (by omega) hB H hH h

set_option maxRecDepth 20000 in
theorem tat_any (w : World) (v : Value) (xs : List Nat) (k : Nat) (h : NR w 0 v xs) (hk : k < xs.length) (hl : xs.length ≤ 100000) : Calls Try.prog 64 #[v, .int .i64 (k : Int)] w fun e w' => e = .returned (.int .i64 ((xs.getD k 0 : Nat) : Int)) ∧ w' = w := by
  obtain ⟨g, cap, rfl, hc⟩ := h.at hk
  have hkI : (k : Int) < (xs.length : Int) := by omega
  have hlI : (xs.length : Int) ≤ 100000 := by omega
  clear h hk hl
  generalize xs.getD k 0 = y at *
  go_enter Try.func64, Try.ntmps64
  go_wp2
  go_ret
  exact ⟨rfl, rfl⟩

set_option maxRecDepth 20000 in
set_option maxHeartbeats 1000000 in
theorem TNext_any (w : World) (B gt : Nat) (t : TabN) (h : TbB w B gt t) (q c : Nat) (hq : q < t.S) (hc : c < t.C) : Calls Try.prog 61 #[.pointer (some ⟨gt, 0, none⟩), .int .i64 (q : Int), .int .i64 (c : Int)] w fun e w' => e = .returned (.int .i64 ((t.nx q c : Nat) : Int)) ∧ ∃ n, w' = w.drewN n := by
  obtain ⟨gv, nv, bs, ns, h1, h2, h3, q1, q2, hS, hg, hnl, hnx⟩ := h.ex
  obtain ⟨ga, gc, rfl⟩ := h2.form
  obtain ⟨na, nc, rfl⟩ := h3.form
  have hs2 := h.ok.s2
  have hc2 := h.ok.c2
  have c6 : w.cell? ⟨gt, 256, none⟩ = some (.int .i64 (t.C : Int)) := by rw [cell_of_row _ _ _ _ _ _ h1]; exact tbC_tail _ _ _ _ 0
  have c7 : w.cell? ⟨gt, 257, none⟩ = some (.slice ga bs.length gc) := by rw [cell_of_row _ _ _ _ _ _ h1]; exact tbC_tail _ _ _ _ 1
  have c8 : w.cell? ⟨gt, 258, none⟩ = some (.slice na ns.length nc) := by rw [cell_of_row _ _ _ _ _ _ h1]; exact tbC_tail _ _ _ _ 2
  rw [hS] at c7
  have hin : q * t.C + c < t.S * t.C := by
    have : (q + 1) * t.C ≤ t.S * t.C := Nat.mul_le_mul_right _ hq
    rw [Nat.add_mul, Nat.one_mul] at this
    omega
  have hSC : t.S * t.C ≤ 24 * 24 := Nat.mul_le_mul hs2 hc2
  have HA : Hid (∀ n, Calls Try.prog 64 #[.slice na ns.length nc, .int .i64 ((q * t.C + c : Nat) : Int)] (w.drewN n) fun e w' => e = .returned (.int .i64 ((t.nx q c : Nat) : Int)) ∧ w' = w.drewN n) := fun n => by
    have := tat_any (w.drewN n) _ ns (q * t.C + c) h3 (by omega) (by omega)
    rw [hnx q c hq hc] at this
    exact this
  have hqI : (q : Int) < (t.S : Int) := by omega
  have hcI : (c : Int) < (t.C : Int) := by omega
  have hsI : (t.S : Int) ≤ 24 := by omega
  have hCI : (t.C : Int) ≤ 24 := by omega
  have hm0 : (q : Int) * (t.C : Int) = ((q * t.C : Nat) : Int) := by rw [Int.natCast_mul]
  have hm1 : ((q * t.C : Nat) : Int) + (c : Int) = ((q * t.C + c : Nat) : Int) := by rw [Int.natCast_add]
  have hm2 : ((q * t.C + c : Nat) : Int) ≤ 576 := by omega
  have hm3 : ((q * t.C : Nat) : Int) ≤ 576 := by omega
  generalize q * t.C + c = k at *
  generalize q * t.C = k0 at *
  generalize t.nx q c = y at *
  clear h h1 h2 h3 q1 q2 hS hg hnl hnx hq hc hs2 hc2 hin hSC
  go_enter Try.func61, Try.ntmps61
  go_wp2_with fail
  go_quiet ((go_at_call 64; exact Calls.quiet_of_same (unhide HA _)))
  go_wp2_with fail
  go_ret
  exact ⟨rfl, _, rfl⟩

end Mc
end Go.Proofs.Ytlafngfoejngaaa
namespace Go.Proofs.Ytlafngfoejngaaa
namespace Mc
open Go.RowKit
attribute [local go_sem ↓] Go.wp_at_zero Go.wp_at_succ

/-- The words of a state, up to a class. -/
def rowW (t : TabN) (b mark q c : Nat) : List Nat := [if t.gr q then mark else 0] ++ (List.range c).map fun k => b + t.nx q k * (1 + t.C)
def rowsW (t : TabN) (b mark : Nat) : Nat → List Nat
  | 0 => []
  | n + 1 => rowsW t b mark n ++ rowW t b mark n t.C
theorem rowW_len (t : TabN) (b mark q c : Nat) : (rowW t b mark q c).length = 1 + c := by simp [rowW]; omega
theorem rowsW_len (t : TabN) (b mark : Nat) : ∀ n, (rowsW t b mark n).length = n * (1 + t.C)
  | 0 => by simp [rowsW]
  | n + 1 => by rw [rowsW, List.length_append, rowsW_len t b mark n, rowW_len, Nat.add_mul, Nat.one_mul]
theorem rowW_succ (t : TabN) (b mark q c : Nat) : rowW t b mark q (c + 1) = rowW t b mark q c ++ [b + t.nx q c * (1 + t.C)] := by
  unfold rowW; rw [List.range_succ, List.map_append, List.append_assoc]; rfl
end Mc
end Go.Proofs.Ytlafngfoejngaaa
namespace Go.Proofs.Ytlafngfoejngaaa
namespace Mc
open Go.RowKit
attribute [local go_sem ↓] Go.wp_at_zero Go.wp_at_succ

theorem infoB : (Try.prog.info? 4).map (fun i => (i.zero, i.size, i.bytes)) = some (some (.bool false), 1, 1) := by kernel_rfl
/-- A truth is appended to a row. -/
theorem appB {ops : Array Oper} {rest : List Oper} {o : Oper} {a : Act} {W : World} {Q : Exit → Act → World → Prop} (hgd : o.guard = none) (s x : Operand)
    (ho : o.op = .call { callee := .builtin .append, args := #[s, x], argTypes := #[62, 62] }) (B : Nat) (v : Value) (xs : List Bool) (hs : a.eval s = v) (hown : BR W B v xs) (g0 : Nat) (y : Bool)
    (hx : a.eval x = .slice (some ⟨g0, 0, none⟩) 1 1) (hc : W.cell? ⟨g0, 0, none⟩ = some (.bool y)) (hlen : xs.length ≤ 3000000) (hB : B ≤ W.heap.size) (H : Nat) (hH : W.heap.size = H)
    (h : ∀ g cap w', BR w' B (.slice (some ⟨g, 0, none⟩) (xs.length + 1) cap) (xs ++ [y]) → W.grownBy w' v.ownBlock → (v.ownBlock = some g ∨ g = H) → g < w'.heap.size → wpList Try.prog ops Q rest (a.put o.dst (.slice (some ⟨g, 0, none⟩) (xs.length + 1) cap)) w') : wpList Try.prog ops Q (o :: rest) a W := by
  obtain ⟨i, i0, i1, i2, i3⟩ := info_of infoB
  refine wpList_append_lies W hgd s x 62 ho B 4 i (.bool false) 1 1 Try.underlying62 i0 i1 i2 i3 rfl (by decide) v xs.length (bcs xs) hs hown ⟨g0, 0, none⟩ 1 1 [.bool y] hx rfl (one_cells hc) (by intro u hu; simp at hu; subst hu; rfl) (by decide) (by unfold maxLen; omega) (by omega) hB H hH ?_
  intro g cap w' h1 h2 h3 h4
  refine h g cap w' ?_ h2 h3 h4
  unfold BR bcs
  rw [List.length_append, List.map_append]; exact h1

/-- The marks that are in a sum. -/
def bitsM : Nat → Nat → List Bool
  | _, 0 => []
  | s, m + 1 => decide (s % 2 = 1) :: bitsM (s / 2) m
theorem bitsM_len : ∀ (m s : Nat), (bitsM s m).length = m
  | 0, _ => rfl
  | m + 1, s => by rw [bitsM, List.length_cons, bitsM_len m]

/-- An image in memory: what a secret may have, its formula, its tables' row. -/
structure ImB (w : World) (gi : Nat) (N : Nat) (f : ByteArray) (ta : Option Addr) (m tc : Nat) : Prop where
  heap : w.heap[gi]? = some (.cells #[.int .i64 (N : Int), .string f, .slice ta m tc] 47 (0, 0))
theorem ImB.below {w w' : World} {gi N m tc : Nat} {f : ByteArray} {ta : Option Addr} {B : Nat} (h : ImB w gi N f ta m tc) (hb : Below B w w') (hg : gi < B) : ImB w' gi N f ta m tc := ⟨(hb.block _ hg).trans h.heap⟩
set_option maxRecDepth 20000 in
theorem Most_any (w : World) (gi N m tc : Nat) (f : ByteArray) (ta : Option Addr) (h : ImB w gi N f ta m tc) : Calls Try.prog 34 #[.pointer (some ⟨gi, 0, none⟩)] w fun e w' => e = .returned (.int .i64 (N : Int)) ∧ w' = w := by
  have c0 : w.cell? ⟨gi, 0, none⟩ = some (.int .i64 (N : Int)) := by rw [cell_of_row _ _ _ _ _ _ h.heap]; rfl
  clear h
  go_enter Try.func34, Try.ntmps34
  go_wp2
  go_ret
  exact ⟨rfl, rfl⟩
set_option maxRecDepth 20000 in
theorem Rules_any (w : World) (gi N m tc : Nat) (f : ByteArray) (ta : Option Addr) (h : ImB w gi N f ta m tc) : Calls Try.prog 43 #[.pointer (some ⟨gi, 0, none⟩)] w fun e w' => e = .returned (.int .i64 (m : Int)) ∧ w' = w := by
  have c0 : w.cell? ⟨gi, 2, none⟩ = some (.slice ta m tc) := by rw [cell_of_row _ _ _ _ _ _ h.heap]; rfl
  clear h
  go_enter Try.func43, Try.ntmps43
  go_wp2
  go_ret
  exact ⟨rfl, rfl⟩

end Mc
end Go.Proofs.Ytlafngfoejngaaa
