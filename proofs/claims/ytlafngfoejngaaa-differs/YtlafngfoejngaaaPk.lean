/-
  policies.Image.Table.
-/
import Derived.Test.YtlafngfoejngaaaPj
import Derived.Deep.MidRow
namespace Go.Proofs.Ytlafngfoejngaaa
namespace Mc
open Go.RowKit

def zcTb : Array Value := tbC (fun _ => 0) 0 (.slice none 0 0) (.slice none 0 0)
theorem tbC_size (cl : Nat → Nat) (C : Nat) (gv nv : Value) : (tbC cl C gv nv).size = 259 := by unfold tbC; simp [ncs]
theorem zcTb_size : zcTb.size = 259 := tbC_size _ _ _ _
theorem zcTb_ne : zcTb ≠ #[] := fun e => by have := zcTb_size; rw [e] at this; simp at this
theorem zvTb (w : World) : (zeroValue 95).run Try.prog w = .ok (.agg zcTb) w := by kernel_rfl
theorem aggcells (cs : Array Value) : (Value.agg cs).cells = cs := rfl
theorem tbC_one (a b : Option Addr) (n1 n2 c1 c2 : Nat) (cl : Nat → Nat) (C : Nat) : (tbC cl C (.slice a n1 c1) (.slice b n2 c2)).all (·.oneCell') = true := by
  unfold tbC
  rw [List.all_toArray, List.all_append, Bool.and_eq_true]
  refine ⟨?_, rfl⟩
  unfold ncs
  rw [List.all_map, List.all_eq_true]
  intro x _
  rfl
theorem infoT : (Try.prog.info? 95).map (·.size) = some 259 := by kernel_rfl

theorem store_row {P : Program} {ops : Array Oper} {rest : List Oper} {o : Oper} {a : Act} {w : World} {Q : Exit → Act → World → Prop} (hgd : o.guard = none) (ty : TypeId) (x y : Operand) (ho : o.op = .store ty x y) (hd : o.dst = none)
    (g : Nat) (cells : Array Value) (hx : a.eval x = .pointer (some ⟨g, 0, none⟩)) (hy : a.eval y = .agg cells)
    (t : TypeId) (old : Array Value) (hg : w.heap[g]? = some (.cells old t (0, 0))) (hi : (P.info? ty).map (·.size) = some cells.size)
    (hold : old.size = cells.size) (h1 : cells.all (·.oneCell') = true)
    (h : wpList P ops Q rest a (w.setRow g cells)) : wpList P ops Q (o :: rest) a w :=
  wpList_store_row hgd ty x y ho g cells hx hy t old hg hi hold h1 (by rw [hd]; exact h)
/-- The rows of a table. -/
structure TRws (w : World) (B : Nat) (t : TabN) (gv nv : Value) : Prop where
  ok : t.Ok
  ex : ∃ bs ns, BR w 0 gv bs ∧ NR w 0 nv ns ∧ (∀ q, gv.ownBlock = some q → q < B) ∧ (∀ q, nv.ownBlock = some q → q < B) ∧ bs.length = t.S ∧ (∀ q, q < t.S → bs.getD q false = t.gr q) ∧ ns.length = t.S * t.C ∧ ∀ q c, q < t.S → c < t.C → ns.getD (q * t.C + c) 0 = t.nx q c
theorem TRws.form {w : World} {B : Nat} {t : TabN} {gv nv : Value} (h : TRws w B t gv nv) : ∃ a1 n1 c1 a2 n2 c2, gv = .slice a1 n1 c1 ∧ nv = .slice a2 n2 c2 := by
  obtain ⟨bs, ns, h1, h2, -⟩ := h.ex
  obtain ⟨a, c, e⟩ := h1.form
  obtain ⟨a', c', e'⟩ := h2.form
  exact ⟨_, _, _, _, _, _, e, e'⟩
theorem TRws.below {w w' : World} {B : Nat} {t : TabN} {gv nv : Value} (h : TRws w B t gv nv) (hb : Below B w w') : TRws w' B t gv nv := by
  obtain ⟨bs, ns, h1, h2, q1, q2, r⟩ := h.ex
  exact ⟨h.ok, bs, ns, row_keep hb h1 q1, row_keep hb h2 q2, q1, q2, r⟩
theorem TRws.tab {w : World} {B gt : Nat} {t : TabN} {gv nv : Value} (h : TRws w B t gv nv) (hg : w.heap[gt]? = some (.cells (tbC t.cl t.C gv nv) 95 (0, 0))) : TbB w B gt t := by
  obtain ⟨bs, ns, r⟩ := h.ex
  exact ⟨h.ok, gv, nv, bs, ns, hg, r⟩
/-- The tables of an image: in a block, one behind the other. -/
structure Tbs (w : World) (B g m : Nat) (ts : Nat → TabN) : Prop where
  at_ : ∀ i, i < m → ∃ gv nv, w.rangeAt g (i * 259) (tbC (ts i).cl (ts i).C gv nv).toList ∧ TRws w B (ts i) gv nv
  lt : g < B
theorem Tbs.below {w w' : World} {B g m : Nat} {ts : Nat → TabN} (h : Tbs w B g m ts) (hb : Below B w w') : Tbs w' B g m ts :=
  ⟨fun i hi => by
    obtain ⟨gv, nv, h1, h2⟩ := h.at_ i hi
    exact ⟨gv, nv, fun j v hv => (World.cell?_of_block (hb.block g h.lt)).trans (h1 j v hv), h2.below hb⟩, h.lt⟩

section
attribute [local go_sem ↓] Go.wp_at_zero Go.wp_at_succ zvTb
attribute [local go_sem] zcTb_size zcTb_ne aggcells
set_option maxRecDepth 20000 in
set_option maxHeartbeats 1000000 in
theorem Table_any (w : World) (B gi N m tc g : Nat) (f : ByteArray) (ts : Nat → TabN) (h : ImB w gi N f (some ⟨g, 0, none⟩) m tc) (ht : Tbs w B g m ts) (hB : B ≤ w.heap.size) (i : Nat) (hi : i < m) (hm : m ≤ 4) :
    Calls Try.prog 47 #[.pointer (some ⟨gi, 0, none⟩), .int .i64 (i : Int)] w fun e w' => Below w.heap.size w w' ∧ ∃ gv nv, e = .returned (.agg (tbC (ts i).cl (ts i).C gv nv)) ∧ TRws w' B (ts i) gv nv := by
  obtain ⟨gv, nv, hr, hw⟩ := ht.at_ i hi
  have c2 : w.cell? ⟨gi, 2, none⟩ = some (.slice (some ⟨g, 0, none⟩) m tc) := by rw [cell_of_row _ _ _ _ _ _ h.heap]; rfl
  have hgi := (Array.getElem?_eq_some_iff.1 h.heap).1
  have hg := ht.lt
  have hiI : (i : Int) < (m : Int) := by omega
  have hmI : (m : Int) ≤ 4 := by omega
  have hi0 : (0 : Int) ≤ (i : Int) := by omega
  have hi1 : ((i : Int)).toNat = i := by omega
  have HR : Hid ((w.alloc (.cells zcTb 95)).rangeAt g (i * 259) (tbC (ts i).cl (ts i).C gv nv).toList) := fun j v hv => (Fr.ofAlloc w _).cell (hr j v hv) (by simp)
  obtain ⟨a1, n1, k1, a2, n2, k2, rfl, rfl⟩ := hw.form
  have HW := hide hw
  have HB0 : Hid (Below w.heap.size w (w.alloc (.cells zcTb 95))) := (Below.refl _ _).alloc (Nat.le_refl _) _
  have HN : Hid ((w.alloc (.cells zcTb 95)).heap[w.heap.size]? = some (.cells zcTb 95 (0, 0))) := heap_alloc_new _ _
  have HBB := hide hB
  have HSZ := hide (tbC_size (ts i).cl (ts i).C (.slice a1 n1 k1) (.slice a2 n2 k2))
  have HON := hide (tbC_one a1 a2 n1 n2 k1 k2 (ts i).cl (ts i).C)
  clear hr hw h ht hB hi hm
  generalize hcs : tbC (ts i).cl (ts i).C (.slice a1 n1 k1) (.slice a2 n2 k2) = cs at *
  have HCS := hide hcs
  clear hcs
  go_enter Try.func47, Try.ntmps47
  go_wp2_with (first
    | refine wpList_load_mid rfl 95 _ rfl g (i * 259) rfl cs.toList _ (unhide HR) Try.underlying95 rfl (by rw [Array.length_toList, unhide HSZ]; exact infoT) ?_
    | refine store_row rfl 95 _ _ rfl rfl w.heap.size cs rfl rfl 95 _ (unhide HN) (by rw [unhide HSZ]; exact infoT) (by rw [zcTb_size]; exact (unhide HSZ).symm) (unhide HON) ?_)
  refine bodyPost_ret (results_cell_row (p := 4) (ty := 95) rfl _ _ w.heap.size 95 _ (0, 0) _ rfl (setRow_heap _ _ _ _ _ _ (unhide HN)) Try.underlying95 rfl (by rw [unhide HSZ]; exact infoT)) rfl ?_
  have hb : Below w.heap.size w ((w.alloc (.cells zcTb 95)).setRow w.heap.size cs) := ((Fr.ofBelow (unhide HB0)).row (Or.inr (Nat.le_refl _)) cs).below (fun x hx => by cases hx)
  refine ⟨hb, _, _, by rw [← unhide HCS], (unhide HW).below (hb.mono (unhide HBB))⟩
end

end Mc
end Go.Proofs.Ytlafngfoejngaaa
