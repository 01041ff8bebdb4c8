/-
  Tables in a row: Class, Next at one of them; tuples.classesOf.
-/
import Derived.Test.YtlafngfoejngaaaJ0
namespace Go.Proofs.Ytlafngfoejngaaa
namespace Mc
open Go.RowKit
attribute [local go_sem ↓] Go.wp_at_zero Go.wp_at_succ

/-- A table in the midst of a block. -/
def TbA (w : World) (B g o : Nat) (t : TabN) : Prop := ∃ gv nv, w.rangeAt g o (tbC t.cl t.C gv nv).toList ∧ TRws w B t gv nv
theorem Tbs.tba {w : World} {B g m : Nat} {ts : Nat → TabN} (h : Tbs w B g m ts) {i : Nat} (hi : i < m) : TbA w B g (i * 259) (ts i) := h.at_ i hi
theorem range_cl {w : World} {g o : Nat} {t : TabN} {gv nv : Value} (h : w.rangeAt g o (tbC t.cl t.C gv nv).toList) {b : Nat} (hb : b < 256) : w.cell? ⟨g, o + b, none⟩ = some (.int .i64 ((t.cl b : Nat) : Int)) :=
  h b _ (by rw [Array.getElem?_toList]; exact tbC_cl _ _ _ _ hb)
theorem range_tail {w : World} {g o : Nat} {t : TabN} {gv nv : Value} (h : w.rangeAt g o (tbC t.cl t.C gv nv).toList) {j : Nat} {v : Value} (hv : [.int .i64 (t.C : Int), gv, nv][j]? = some v) : w.cell? ⟨g, o + (256 + j), none⟩ = some v :=
  h (256 + j) _ (by rw [Array.getElem?_toList, tbC_tail]; exact hv)
set_option maxRecDepth 20000 in
theorem Class_at (w : World) (B g o : Nat) (t : TabN) (h : TbA w B g o t) (b : Nat) (hb : b < 256) : Calls Try.prog 63 #[.pointer (some ⟨g, o, none⟩), .int .u8 (b : Int)] w fun e w' => e = .returned (.int .i64 ((t.cl b : Nat) : Int)) ∧ w' = w := by
  obtain ⟨gv, nv, h1, -⟩ := h
  have c0 := range_cl h1 hb
  have hbI : (b : Int) < 256 := by omega
  clear h1 hb
  generalize t.cl b = x at *
  go_enter Try.func63, Try.ntmps63
  go_wp2
  go_ret
  exact ⟨rfl, rfl⟩
set_option maxRecDepth 20000 in
set_option maxHeartbeats 1000000 in
theorem Next_at (w : World) (B g o : Nat) (t : TabN) (h : TbA w B g o t) (q c : Nat) (hq : q < t.S) (hc : c < t.C) : Calls Try.prog 61 #[.pointer (some ⟨g, o, none⟩), .int .i64 (q : Int), .int .i64 (c : Int)] w fun e w' => e = .returned (.int .i64 ((t.nx q c : Nat) : Int)) ∧ ∃ n, w' = w.drewN n := by
  obtain ⟨gv, nv, h1, hr⟩ := h
  obtain ⟨bs, ns, h2, h3, q1, q2, hS, hg, hnl, hnx⟩ := hr.ex
  obtain ⟨ga, gc, rfl⟩ := h2.form
  obtain ⟨na, nc, rfl⟩ := h3.form
  have hs2 := hr.ok.s2
  have hc2 := hr.ok.c2
  have c6 : w.cell? ⟨g, o + 256, none⟩ = some (.int .i64 (t.C : Int)) := range_tail h1 (j := 0) rfl
  have c7 : w.cell? ⟨g, o + 257, none⟩ = some (.slice ga bs.length gc) := range_tail h1 (j := 1) rfl
  have c8 : w.cell? ⟨g, o + 258, none⟩ = some (.slice na ns.length nc) := range_tail h1 (j := 2) rfl
  rw [hS] at c7
  have hin : q * t.C + c < t.S * t.C := by
    have : (q + 1) * t.C ≤ t.S * t.C := Nat.mul_le_mul_right _ hq
    rw [Nat.add_mul, Nat.one_mul] at this
    omega
  have hSC : t.S * t.C ≤ 24 * 24 := Nat.mul_le_mul hs2 hc2
  have HA : Hid (∀ n, Calls Try.prog 64 #[.slice na ns.length nc, .int .i64 ((q * t.C + c : Nat) : Int)] (w.drewN n) fun e w' => e = .returned (.int .i64 ((t.nx q c : Nat) : Int)) ∧ w' = w.drewN n) := fun n => by
    have := tat_any (w.drewN n) _ ns (q * t.C + c) h3 (by omega) (by omega)
    rw [hnx q c hq hc] at this
    exact this
  have hqI : (q : Int) < (t.S : Int) := by omega
  have hcI : (c : Int) < (t.C : Int) := by omega
  have hsI : (t.S : Int) ≤ 24 := by omega
  have hCI : (t.C : Int) ≤ 24 := by omega
  have hm0 : (q : Int) * (t.C : Int) = ((q * t.C : Nat) : Int) := by rw [Int.natCast_mul]
  have hm1 : ((q * t.C : Nat) : Int) + (c : Int) = ((q * t.C + c : Nat) : Int) := by rw [Int.natCast_add]
  have hm2 : ((q * t.C + c : Nat) : Int) ≤ 576 := by omega
  have hm3 : ((q * t.C : Nat) : Int) ≤ 576 := by omega
  generalize q * t.C + c = k at *
  generalize q * t.C = k0 at *
  generalize t.nx q c = y at *
  clear h1 h2 h3 hr q1 q2 hS hg hnl hnx hq hc hs2 hc2 hin hSC
  go_enter Try.func61, Try.ntmps61
  go_wp2_with fail
  go_quiet ((go_at_call 64; exact Calls.quiet_of_same (unhide HA _)))
  go_wp2_with fail
  go_ret
  exact ⟨rfl, _, rfl⟩

/-- The classes of a byte, table by table; the states of a string; where classes lead. -/
def clT (m : Nat) (ts : Nat → TabN) (b : Nat) : List Nat := (List.range m).map fun i => (ts i).cl b
def stT (m : Nat) (ts : Nat → TabN) (bs : List Nat) : List Nat := (List.range m).map fun i => (ts i).run bs
def nxT (m : Nat) (ts : Nat → TabN) (s c : List Nat) : List Nat := (List.range m).map fun i => (ts i).nx (s.getD i 0) (c.getD i 0)
theorem rmap_getD {m i : Nat} (f : Nat → Nat) (hi : i < m) : ((List.range m).map f).getD i 0 = f i := by
  rw [List.getD_eq_getElem?_getD, List.getElem?_map, List.getElem?_range hi]; rfl
theorem rmap_len (m : Nat) (f : Nat → Nat) : ((List.range m).map f).length = m := by simp
theorem rmap_snoc (m : Nat) (f : Nat → Nat) : (List.range (m + 1)).map f = (List.range m).map f ++ [f m] := by rw [List.range_succ, List.map_append]; rfl
theorem stT_snoc (m : Nat) (ts : Nat → TabN) (u : List Nat) (b : Nat) : stT m ts (u ++ [b]) = nxT m ts (stT m ts u) (clT m ts b) := by
  unfold stT nxT clT
  apply List.map_congr_left
  intro i hi
  have hi := List.mem_range.1 hi
  rw [rmap_getD _ hi, rmap_getD _ hi, TabN.run_snoc]
theorem stT_nil (m : Nat) (ts : Nat → TabN) : stT m ts [] = List.replicate m 0 := by
  unfold stT
  apply List.ext_getElem?
  intro k
  rw [List.getElem?_map, List.getElem?_replicate]
  by_cases hk : k < m
  · rw [List.getElem?_range hk, if_pos hk]; rfl
  · rw [List.getElem?_eq_none (by simp; omega), if_neg hk]; rfl

end Mc
end Go.Proofs.Ytlafngfoejngaaa
