/-
  judge.marked: which marks are in a sum; policies.Image: Most, Rules.
-/
import Derived.Test.YtnkdbcicphnmiaaPf
namespace Go.Proofs.Ytnkdbcicphnmiaa
namespace Mc
open Go.RowKit
attribute [local go_sem ↓] Go.wp_at_zero Go.wp_at_succ

theorem infoB : (Try.prog.info? 4).map (fun i => (i.zero, i.size, i.bytes)) = some (some (.bool false), 1, 1) := by kernel_rfl
/-- A truth is appended to a row. -/
theorem appB {ops : Array Oper} {rest : List Oper} {o : Oper} {a : Act} {W : World} {Q : Exit → Act → World → Prop} (hgd : o.guard = none) (s x : Operand)
    (ho : o.op = .call { callee := .builtin .append, args := #[s, x], argTypes := #[92, 92] }) (B : Nat) (v : Value) (xs : List Bool) (hs : a.eval s = v) (hown : BR W B v xs) (g0 : Nat) (y : Bool)
    (hx : a.eval x = .slice (some ⟨g0, 0, none⟩) 1 1) (hc : W.cell? ⟨g0, 0, none⟩ = some (.bool y)) (hlen : xs.length ≤ 3000000) (hB : B ≤ W.heap.size) (H : Nat) (hH : W.heap.size = H)
    (h : ∀ g cap w', BR w' B (.slice (some ⟨g, 0, none⟩) (xs.length + 1) cap) (xs ++ [y]) → W.grownBy w' v.ownBlock → (v.ownBlock = some g ∨ g = H) → g < w'.heap.size → wpList Try.prog ops Q rest (a.put o.dst (.slice (some ⟨g, 0, none⟩) (xs.length + 1) cap)) w') : wpList Try.prog ops Q (o :: rest) a W := by
  obtain ⟨i, i0, i1, i2, i3⟩ := info_of infoB
  refine wpList_append_lies W hgd s x 92 ho B 4 i (.bool false) 1 1 Try.underlying92 i0 i1 i2 i3 rfl (by decide) v xs.length (bcs xs) hs hown ⟨g0, 0, none⟩ 1 1 [.bool y] hx rfl (one_cells hc) (by intro u hu; simp at hu; subst hu; rfl) (by decide) (by unfold maxLen; omega) (by omega) hB H hH ?_
  intro g cap w' h1 h2 h3 h4
  refine h g cap w' ?_ h2 h3 h4
  unfold BR bcs
  rw [List.length_append, List.map_append]; exact h1

/-- The marks that are in a sum. -/
def bitsM : Nat → Nat → List Bool
  | _, 0 => []
  | s, m + 1 => decide (s % 2 = 1) :: bitsM (s / 2) m
theorem bitsM_len : ∀ (m s : Nat), (bitsM s m).length = m
  | 0, _ => rfl
  | m + 1, s => by rw [bitsM, List.length_cons, bitsM_len m]

set_option maxRecDepth 20000 in
set_option maxHeartbeats 1000000 in
theorem marked_any (w : World) (s0 m : Nat) (hs : s0 ≤ 1000) (hm : m ≤ 16) :
    Calls Try.prog 106 #[.int .i64 (s0 : Int), .int .i64 (m : Int)] w fun e w' => ∃ v, e = .returned v ∧ Below w.heap.size w w' ∧ BR w' w.heap.size v (bitsM s0 m) := by
  have hmI : (m : Int) ≤ 16 := by omega
  have HM := hide hm
  have H0 : Hid (Below w.heap.size w (w.alloc (Obj.cells #[] 4)) ∧ BR (w.alloc (Obj.cells #[] 4)) w.heap.size (.slice (some ⟨w.heap.size, 0, none⟩) 0 0) []) := by
    refine ⟨(Below.refl _ _).alloc (Nat.le_refl _) _, ?_⟩
    have h1 := World.ownsRow_made (base := w.heap.size) (e := 4) (size := 1) w #[] 0 (by simp) (by simp) rfl
    simpa [BR, bcs] using h1
  have HS := hide hs
  clear hm hs
  go_enter Try.func106, Try.ntmps106
  go_wp2_with fail
  go_loopw [0, 5, 6] (fun sx vx ix wr => ∃ (i s : Nat) (va : Option Addr) (vc : Nat) (bs : List Bool), sx = .int .i64 (s : Int) ∧ vx = .slice va bs.length vc ∧ ix = .int .i64 (i : Int) ∧ Hid (i ≤ m ∧ s ≤ 1000 ∧ bs.length = i ∧ Below w.heap.size w wr ∧ BR wr w.heap.size (.slice va bs.length vc) bs ∧ bs ++ bitsM s (m - i) = bitsM s0 m)) (fun _ _ ix _ => lenLeft m ix)
  case atStart => exact ⟨0, s0, some ⟨w.heap.size, 0, none⟩, 0, [], rfl, rfl, rfl, Nat.zero_le _, unhide HS, rfl, (unhide H0).1, (unhide H0).2, by simp⟩
  case round =>
    clear H0
    rename World => wr
    obtain ⟨i, s, va, vc, bs, rfl, rfl, rfl, HH⟩ := hrel
    obtain ⟨hi, hs, hbl, hBw, hR, he⟩ := unhide HH
    by_cases hlt : i < m
    · have hiI : (i : Int) < (m : Int) := by omega
      have hsI : (s : Int) ≤ 1000 := by omega
      have e1 : (s : Int) % 2 = ((s % 2 : Nat) : Int) := by omega
      have e2 : (s : Int) / 2 = ((s / 2 : Nat) : Int) := by omega
      have HBW := hide hBw
      have HLT := hide hlt
      have HBL := hide hbl
      have hr2 : s % 2 = 0 ∨ s % 2 = 1 := by omega
      have HSN : Hid (bs ++ [decide (s % 2 = 1)] ++ bitsM (s / 2) (m - (i + 1)) = bitsM s0 m) := by
        show _ = _
        rw [← he, show m - i = (m - (i + 1)) + 1 by omega, bitsM, List.append_assoc]; rfl
      have HS2 : Hid (s / 2 ≤ 1000) := by show _ ≤ _; omega
      have HRA := hide (fun (y : Bool) => ((Fr.ofAlloc wr (Obj.cells #[.bool y] 4)).own hR (by simp) : (wr.alloc (Obj.cells #[.bool y] 4)).ownsRow _ _ _ _ _ _))
      have HSZ : Hid (w.heap.size ≤ wr.heap.size) := hBw.size
      have HLEN : Hid (bs.length ≤ 3000000) := by have := unhide HM; show _ ≤ _; omega
      have HRL : Hid (∀ q, (Value.slice va bs.length vc).ownBlock = some q → w.heap.size ≤ q) := fun q hq => (hR.lt q hq).1
      generalize hs2 : s / 2 = s2 at *
      clear HH hi hs hbl hBw hR he hlt hs2
      rcases hr2 with hr | hr
      all_goals
        rw [hr] at e1 HSN
        clear hr
        go_wp2_with (at_builtin; refine appB rfl (.tmp 13) (.tmp 17) rfl w.heap.size _ bs rfl (unhide HRA _) wr.heap.size _ rfl (new_cell rfl) (unhide HLEN) (by have := unhide HSZ; simp; omega) (wr.heap.size + 1) (by simp) ?_; intro g5 cap5 w8 ho hgrow hlies hlt5; have HO := hide ho; have HBW8 := hide (below_grown ((unhide HBW).alloc (unhide HSZ) _) hgrow (by have := unhide HSZ; simp; omega) (fun q hq => unhide HRL q hq)); clear ho hgrow hlies)
        go_roundw
        case rel => exact ⟨i + 1, s2, some ⟨g5, 0, none⟩, cap5, bs ++ [_], rfl, by simp, by go_num, unhide HLT, unhide HS2, by simp [unhide HBL], unhide HBW8, by simpa using unhide HO, by simpa using unhide HSN⟩
        case measure => have := unhide HLT; simp [lenLeft, intOf]; omega
    · have hi2 : i = m := by omega
      subst hi2
      have HR : Hid (BR wr w.heap.size (.slice va bs.length vc) (bitsM s0 i)) := by
        show BR _ _ _ _
        rw [Nat.sub_self] at he
        have e : bs = bitsM s0 i := by rw [← he]; simp [bitsM]
        rw [← e]; exact hR
      have HBW := hide hBw
      clear HH hi hs hbl hBw hR he hlt
      go_wp2_with fail
      go_ret
      exact ⟨_, rfl, unhide HBW, unhide HR⟩

/-- An image in memory: what a secret may have, its formula, its tables' row. -/
structure ImB (w : World) (gi : Nat) (N : Nat) (f : ByteArray) (ta : Option Addr) (m tc : Nat) : Prop where
  heap : w.heap[gi]? = some (.cells #[.int .i64 (N : Int), .string f, .slice ta m tc] 83 (0, 0))
theorem ImB.below {w w' : World} {gi N m tc : Nat} {f : ByteArray} {ta : Option Addr} {B : Nat} (h : ImB w gi N f ta m tc) (hb : Below B w w') (hg : gi < B) : ImB w' gi N f ta m tc := ⟨(hb.block _ hg).trans h.heap⟩
set_option maxRecDepth 20000 in
theorem Most_any (w : World) (gi N m tc : Nat) (f : ByteArray) (ta : Option Addr) (h : ImB w gi N f ta m tc) : Calls Try.prog 72 #[.pointer (some ⟨gi, 0, none⟩)] w fun e w' => e = .returned (.int .i64 (N : Int)) ∧ w' = w := by
  have c0 : w.cell? ⟨gi, 0, none⟩ = some (.int .i64 (N : Int)) := by rw [cell_of_row _ _ _ _ _ _ h.heap]; rfl
  clear h
  go_enter Try.func72, Try.ntmps72
  go_wp2
  go_ret
  exact ⟨rfl, rfl⟩
set_option maxRecDepth 20000 in
theorem Rules_any (w : World) (gi N m tc : Nat) (f : ByteArray) (ta : Option Addr) (h : ImB w gi N f ta m tc) : Calls Try.prog 77 #[.pointer (some ⟨gi, 0, none⟩)] w fun e w' => e = .returned (.int .i64 (m : Int)) ∧ w' = w := by
  have c0 : w.cell? ⟨gi, 2, none⟩ = some (.slice ta m tc) := by rw [cell_of_row _ _ _ _ _ _ h.heap]; rfl
  clear h
  go_enter Try.func77, Try.ntmps77
  go_wp2
  go_ret
  exact ⟨rfl, rfl⟩

end Mc
end Go.Proofs.Ytnkdbcicphnmiaa
