/-
  judge.writer: operations are written one behind the other.
  judge.writer: set, load, store, look, readByte, addMark.
  judge.writer.readSecret; what is asked of a table: States, Classes, Class, Granted, Next.
  judge.layer: address, classes; table.at, table.Table.Next.
-/
import Derived.Test.YtlafngfoejngaaaN2
import Derived.Test.YtlafngfoejngaaaNs0
import Derived.Test.YtlafngfoejngaaaOd
namespace Go.Proofs.Ytlafngfoejngaaa
namespace Mc
open Go.RowKit
attribute [local go_sem ↓] Go.wp_at_zero Go.wp_at_succ

theorem oCells_snoc (os : List OpI) (o : OpI) : oCells (os ++ [o]) = oCells os ++ ocs o := by simp [oCells]
end Mc
end Go.Proofs.Ytlafngfoejngaaa
namespace Go.Proofs.Ytlafngfoejngaaa
namespace Mc
open Go.RowKit
attribute [local go_sem ↓] Go.wp_at_zero Go.wp_at_succ

theorem lookOps_len (b e p : Nat) : (lookOps b e p).length = 10 := rfl
def arV (x y : Nat) : Value := .agg #[.int .i64 (x : Int), .int .i64 (y : Int)]

end Mc
end Go.Proofs.Ytlafngfoejngaaa
namespace Go.Proofs.Ytlafngfoejngaaa
namespace Mc
open Go.RowKit
attribute [local go_sem ↓] Go.wp_at_zero Go.wp_at_succ

/-- The cells of a table. -/
def tbC (cl : Nat → Nat) (C : Nat) (gv nv : Value) : Array Value := (ncs ((List.range 256).map cl) ++ [.int .i64 (C : Int), gv, nv]).toArray
theorem tbC_cl (cl : Nat → Nat) (C : Nat) (gv nv : Value) {b : Nat} (hb : b < 256) : (tbC cl C gv nv)[b]? = some (.int .i64 ((cl b : Nat) : Int)) := by
  unfold tbC
  rw [List.getElem?_toArray, List.getElem?_append_left (by rw [ncs_len]; simpa using hb), ncs_get _ (by simpa using hb), List.getD_eq_getElem?_getD, List.getElem?_map, List.getElem?_range hb]; rfl
theorem tbC_tail (cl : Nat → Nat) (C : Nat) (gv nv : Value) (j : Nat) : (tbC cl C gv nv)[256 + j]? = [.int .i64 (C : Int), gv, nv][j]? := by
  unfold tbC
  rw [List.getElem?_toArray, List.getElem?_append_right (by rw [ncs_len]; simp), ncs_len, List.length_map, List.length_range, Nat.add_sub_cancel_left]
def bcs (bs : List Bool) : List Value := bs.map fun b => .bool b
def BR (w : World) (B : Nat) (v : Value) (bs : List Bool) : Prop := w.ownsRow B 4 1 v bs.length (bcs bs)
theorem BR.form {w : World} {B : Nat} {v : Value} {xs : List Bool} (h : BR w B v xs) : (∃ a c, v = .slice a xs.length c) := by
  rcases h.2 with ⟨rfl, h0⟩ | ⟨g, cap, cur, rfl, _⟩
  · exact ⟨none, 0, by rw [h0]⟩
  · exact ⟨_, _, rfl⟩
theorem BR.at {w : World} {B : Nat} {v : Value} {xs : List Bool} (h : BR w B v xs) {k : Nat} (hk : k < xs.length) : ∃ g cap, v = .slice (some ⟨g, 0, none⟩) xs.length cap ∧ w.cell? ⟨g, k, none⟩ = some (.bool (xs.getD k false)) := by
  have h' : w.ownsRow B 4 1 v xs.length (bcs xs) := h
  obtain ⟨g, cap, rfl⟩ := own_form h' (by omega)
  refine ⟨g, cap, rfl, ?_⟩
  have := h'.cells (g := g) rfl k (.bool (xs.getD k false)) (by simp [bcs, hk])
  rwa [add0] at this
/-- A table in memory: its block, its rows below a bound. -/
structure TbB (w : World) (B gt : Nat) (t : TabN) : Prop where
  ok : t.Ok
  ex : ∃ gv nv bs ns, w.heap[gt]? = some (.cells (tbC t.cl t.C gv nv) 95 (0, 0)) ∧ BR w 0 gv bs ∧ NR w 0 nv ns ∧ (∀ q, gv.ownBlock = some q → q < B) ∧ (∀ q, nv.ownBlock = some q → q < B) ∧ bs.length = t.S ∧ (∀ q, q < t.S → bs.getD q false = t.gr q) ∧ ns.length = t.S * t.C ∧ ∀ q c, q < t.S → c < t.C → ns.getD (q * t.C + c) 0 = t.nx q c
theorem row_keep {w w' : World} {B e z : Nat} (hb : Below B w w') {v : Value} {n : Nat} {xs : List Value} (h : w.ownsRow 0 e z v n xs) (hq : ∀ q, v.ownBlock = some q → q < B) : w'.ownsRow 0 e z v n xs := by
  refine ⟨h.1, ?_⟩
  rcases h.2 with hl | ⟨g, cap, cur, rfl, h1, hg, rest⟩
  · exact .inl hl
  · exact .inr ⟨g, cap, cur, rfl, h1, (hb.block g (hq g rfl)).trans hg, rest⟩
theorem TbB.keep {w w' : World} {B gt : Nat} {t : TabN} (h : TbB w B gt t) (hb : Below B w w') (hk : ∀ cs, w.heap[gt]? = some (.cells cs 95 (0, 0)) → w'.heap[gt]? = some (.cells cs 95 (0, 0))) : TbB w' B gt t := by
  obtain ⟨gv, nv, bs, ns, h1, h2, h3, q1, q2, r⟩ := h.ex
  exact ⟨h.ok, gv, nv, bs, ns, hk _ h1, row_keep hb h2 q1, row_keep hb h3 q2, q1, q2, r⟩

set_option maxRecDepth 20000 in
theorem Class_any (w : World) (B gt : Nat) (t : TabN) (h : TbB w B gt t) (b : Nat) (hb : b < 256) : Calls Try.prog 63 #[.pointer (some ⟨gt, 0, none⟩), .int .u8 (b : Int)] w fun e w' => e = .returned (.int .i64 ((t.cl b : Nat) : Int)) ∧ w' = w := by
  obtain ⟨gv, nv, bs, ns, h1, -⟩ := h.ex
  have c0 : w.cell? ⟨gt, b, none⟩ = some (.int .i64 ((t.cl b : Nat) : Int)) := by rw [cell_of_row _ _ _ _ _ _ h1]; exact tbC_cl _ _ _ _ hb
  have hbI : (b : Int) < 256 := by omega
  clear h h1 hb
  generalize t.cl b = x at *
  go_enter Try.func63, Try.ntmps63
  go_wp2
  go_ret
  exact ⟨rfl, rfl⟩
set_option maxRecDepth 20000 in
theorem Granted_any (w : World) (B gt : Nat) (t : TabN) (h : TbB w B gt t) (q : Nat) (hq : q < t.S) : Calls Try.prog 51 #[.pointer (some ⟨gt, 0, none⟩), .int .i64 (q : Int)] w fun e w' => e = .returned (.bool (t.gr q)) ∧ w' = w := by
  obtain ⟨gv, nv, bs, ns, h1, h2, h3, q1, q2, hS, hg, r⟩ := h.ex
  have hok := h.ok.s2
  obtain ⟨g, cap, rfl, hc⟩ := h2.at (k := q) (by omega)
  rw [hg q hq] at hc
  have c0 : w.cell? ⟨gt, 257, none⟩ = some (.slice (some ⟨g, 0, none⟩) bs.length cap) := by rw [cell_of_row _ _ _ _ _ _ h1]; exact tbC_tail _ _ _ _ 1
  rw [hS] at c0
  have hqI : (q : Int) < (t.S : Int) := by omega
  have hsI : (t.S : Int) ≤ 24 := by omega
  clear h h1 h2 h3 q1 q2 hS hg r hq hok
  generalize t.gr q = x at *
  go_enter Try.func51, Try.ntmps51
  go_wp2
  go_ret
  exact ⟨rfl, rfl⟩

end Mc
end Go.Proofs.Ytlafngfoejngaaa
namespace Go.Proofs.Ytlafngfoejngaaa
namespace Mc
open Go.RowKit
attribute [local go_sem ↓] Go.wp_at_zero Go.wp_at_succ

section
variable {w w' : World} {B gl : Nat} {v : Value} {ds : List Nat}
end
theorem u8_wrap (b : Nat) (h : b < 256) : IntKind.u8.wrap (b : Int) = (b : Int) := by
  unfold IntKind.wrap
  simp only [IntKind.bits, IntKind.signed]
  have h1 : (b : Int) % (2 ^ 8 : Int) = b := Int.emod_eq_of_lt (by omega) (by omega)
  simp only [h1]
  simp

def clsW (t : TabN) (n : Nat) : List Nat := (List.range n).map fun b => 1 + t.cl b
theorem clsW_succ (t : TabN) (n : Nat) : clsW t (n + 1) = clsW t n ++ [1 + t.cl n] := by unfold clsW; rw [List.range_succ, List.map_append]; rfl
theorem clsW_len (t : TabN) (n : Nat) : (clsW t n).length = n := by unfold clsW; simp

end Mc
end Go.Proofs.Ytlafngfoejngaaa
