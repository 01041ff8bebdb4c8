/-
  judge.writer.readSecret; what is asked of a table: States, Classes, Class, Granted, Next.
  judge.layer: address, classes; table.at, table.Table.Next.
-/
import Derived.Test.YtnkdbcicphnmiaaT04
namespace Go.Proofs.Ytnkdbcicphnmiaa
namespace Mc
open Go.RowKit
attribute [local go_sem ↓] Go.wp_at_zero Go.wp_at_succ

set_option maxRecDepth 20000 in
set_option maxHeartbeats 1000000 in
theorem readSecret_w (w : World) (B gw : Nat) (os : List OpI) (N x y u v : Nat) (h : WB w B gw os) (hl : os.length ≤ 90000) (hN : N ≤ 16) :
    Calls Try.prog 86 #[.pointer (some ⟨gw, 0, none⟩), .int .i64 (N : Int), arV x y, arV u v] w fun e w' => e = .returned (.tuple #[]) ∧ PresW B w w' ∧ WB w' B gw (os ++ [⟨0, 3, (u : Int), 0⟩, ⟨0, 4, 0, 0⟩] ++ readsOps x y u v (os.length + 2) N) := by
  have hgw := h.lt
  have HSZ : Hid (B ≤ w.heap.size) := by have := h.hB; show _ ≤ _; omega
  have HW0 := hide ((h.alloc (Obj.cells #[.int .i64 (x : Int), .int .i64 (y : Int)] 138)).alloc (Obj.cells #[.int .i64 (u : Int), .int .i64 (v : Int)] 138))
  have HP0 : Hid (PresW B w ((w.alloc (Obj.cells #[.int .i64 (x : Int), .int .i64 (y : Int)] 138)).alloc (Obj.cells #[.int .i64 (u : Int), .int .i64 (v : Int)] 138))) := (PresW.alloc B w _ (unhide HSZ)).trans (PresW.alloc B _ _ (by have := unhide HSZ; simp; omega))
  have HX0 : Hid (((w.alloc (Obj.cells #[.int .i64 (x : Int), .int .i64 (y : Int)] 138)).alloc (Obj.cells #[.int .i64 (u : Int), .int .i64 (v : Int)] 138)).heap[w.heap.size]? = some (Obj.cells #[.int .i64 (x : Int), .int .i64 (y : Int)] 138 (0, 0))) := heap_alloc2_old _ _ _
  have HX1 : Hid (((w.alloc (Obj.cells #[.int .i64 (x : Int), .int .i64 (y : Int)] 138)).alloc (Obj.cells #[.int .i64 (u : Int), .int .i64 (v : Int)] 138)).heap[w.heap.size + 1]? = some (Obj.cells #[.int .i64 (u : Int), .int .i64 (v : Int)] 138 (0, 0))) := heap_alloc2_new _ _ _
  have HL := hide hl
  have HN := hide hN
  have hNI : (N : Int) ≤ 16 := by omega
  unfold arV
  clear h hl hN
  go_enter Try.func86, Try.ntmps86
  go_wp2_with fail
  refine (set_any _ B gw _ _ _ (unhide HW0) (by have := unhide HL; omega)).mono ?_
  rintro e w1 ⟨rfl, hp, hw⟩
  have HP1 := hide ((unhide HP0).trans hp)
  have HW1 := hide hw
  have HX0 := hide (hp.keep _ _ _ _ (unhide HX0) (by decide) (by decide))
  have HX1 := hide (hp.keep _ _ _ _ (unhide HX1) (by decide) (by decide))
  clear hp hw
  go_wp2_with fail
  refine (set_any w1 B gw _ _ _ (unhide HW1) (by have := unhide HL; simp; omega)).mono ?_
  rintro e w2 ⟨rfl, hp, hw⟩
  have HP2 := hide ((unhide HP1).trans hp)
  have HW2 : Hid (WB w2 B gw (os ++ [⟨0, 3, (u : Int), 0⟩, ⟨0, 4, 0, 0⟩] ++ readsOps x y u v (os.length + 2) 0)) := hw.to (by simp [readsOps])
  have HX0 := hide (hp.keep _ _ _ _ (unhide HX0) (by decide) (by decide))
  have HX1 := hide (hp.keep _ _ _ _ (unhide HX1) (by decide) (by decide))
  clear hp hw
  go_wp2_with fail
  generalize w.heap.size = g0 at *
  go_loopw [8] (fun ix wr => ∃ i : Nat, ix = .int .i64 (i : Int) ∧ Hid (i ≤ N ∧ PresW B w wr ∧ WB wr B gw (os ++ [⟨0, 3, (u : Int), 0⟩, ⟨0, 4, 0, 0⟩] ++ readsOps x y u v (os.length + 2) i) ∧ wr.heap[g0]? = some (Obj.cells #[.int .i64 (x : Int), .int .i64 (y : Int)] 138 (0, 0)) ∧ wr.heap[g0 + 1]? = some (Obj.cells #[.int .i64 (u : Int), .int .i64 (v : Int)] 138 (0, 0)))) (fun ix _ => lenLeft N ix)
  case atStart => exact ⟨0, rfl, Nat.zero_le _, unhide HP2, unhide HW2, unhide HX0, unhide HX1⟩
  case round =>
    clear HP0 HP1 HP2 HW0 HW1 HW2 HX0 HX1
    rename World => wr
    obtain ⟨i, rfl, HH⟩ := hrel
    obtain ⟨hi, hP, hW, hx0, hx1⟩ := unhide HH
    by_cases hlt : i < N
    · have hiI : (i : Int) < (N : Int) := by omega
      obtain ⟨a0, a1⟩ := boxA hx0
      obtain ⟨b0, b1⟩ := boxA hx1
      have HB := hide (readByte_w wr B gw _ i x y u v (by omega) hW (by have := unhide HL; have := unhide HN; simp [readsOps_len]; omega))
      have HP := hide hP
      have HLT := hide hlt
      have HX0 := hide hx0
      have HX1 := hide hx1
      unfold arV at HB
      clear HH hi hP hW hx0 hx1 hlt
      go_wp2_with fail
      refine (unhide HB).mono ?_
      rintro e w3 ⟨rfl, hp, hw⟩
      have HP3 := hide ((unhide HP).trans hp)
      have HW3 := hide hw
      have HX0 := hide (hp.keep _ _ _ _ (unhide HX0) (by decide) (by decide))
      have HX1 := hide (hp.keep _ _ _ _ (unhide HX1) (by decide) (by decide))
      clear hp hw
      go_wp2_with fail
      go_roundw
      case rel => exact ⟨i + 1, by go_num, unhide HLT, unhide HP3, (unhide HW3).to (by simp [readsOps, readsOps_len, List.append_assoc]; congr 1; omega), unhide HX0, unhide HX1⟩
      case measure => have := unhide HLT; simp [lenLeft, intOf]; omega
    · have hi2 : i = N := by omega
      subst hi2
      have HP := hide hP
      have HW := hide hW
      clear HH hi hP hW hx0 hx1 hlt
      go_wp2_with fail
      go_end0
      exact ⟨rfl, unhide HP, unhide HW⟩

/-- The cells of a table. -/
def tbC (cl : Nat → Nat) (C : Nat) (gv nv : Value) : Array Value := (ncs ((List.range 256).map cl) ++ [.int .i64 (C : Int), gv, nv]).toArray
theorem tbC_cl (cl : Nat → Nat) (C : Nat) (gv nv : Value) {b : Nat} (hb : b < 256) : (tbC cl C gv nv)[b]? = some (.int .i64 ((cl b : Nat) : Int)) := by
  unfold tbC
  rw [List.getElem?_toArray, List.getElem?_append_left (by rw [ncs_len]; simpa using hb), ncs_get _ (by simpa using hb), List.getD_eq_getElem?_getD, List.getElem?_map, List.getElem?_range hb]; rfl
theorem tbC_tail (cl : Nat → Nat) (C : Nat) (gv nv : Value) (j : Nat) : (tbC cl C gv nv)[256 + j]? = [.int .i64 (C : Int), gv, nv][j]? := by
  unfold tbC
  rw [List.getElem?_toArray, List.getElem?_append_right (by rw [ncs_len]; simp), ncs_len, List.length_map, List.length_range, Nat.add_sub_cancel_left]
def bcs (bs : List Bool) : List Value := bs.map fun b => .bool b
def BR (w : World) (B : Nat) (v : Value) (bs : List Bool) : Prop := w.ownsRow B 4 1 v bs.length (bcs bs)
theorem BR.form {w : World} {B : Nat} {v : Value} {xs : List Bool} (h : BR w B v xs) : (∃ a c, v = .slice a xs.length c) := by
  rcases h.2 with ⟨rfl, h0⟩ | ⟨g, cap, cur, rfl, _⟩
  · exact ⟨none, 0, by rw [h0]⟩
  · exact ⟨_, _, rfl⟩
theorem BR.at {w : World} {B : Nat} {v : Value} {xs : List Bool} (h : BR w B v xs) {k : Nat} (hk : k < xs.length) : ∃ g cap, v = .slice (some ⟨g, 0, none⟩) xs.length cap ∧ w.cell? ⟨g, k, none⟩ = some (.bool (xs.getD k false)) := by
  have h' : w.ownsRow B 4 1 v xs.length (bcs xs) := h
  obtain ⟨g, cap, rfl⟩ := own_form h' (by omega)
  refine ⟨g, cap, rfl, ?_⟩
  have := h'.cells (g := g) rfl k (.bool (xs.getD k false)) (by simp [bcs, hk])
  rwa [add0] at this
/-- A table in memory: its block, its rows below a bound. -/
structure TbB (w : World) (B gt : Nat) (t : TabN) : Prop where
  ok : t.Ok
  ex : ∃ gv nv bs ns, w.heap[gt]? = some (.cells (tbC t.cl t.C gv nv) 142 (0, 0)) ∧ BR w 0 gv bs ∧ NR w 0 nv ns ∧ (∀ q, gv.ownBlock = some q → q < B) ∧ (∀ q, nv.ownBlock = some q → q < B) ∧ bs.length = t.S ∧ (∀ q, q < t.S → bs.getD q false = t.gr q) ∧ ns.length = t.S * t.C ∧ ∀ q c, q < t.S → c < t.C → ns.getD (q * t.C + c) 0 = t.nx q c
theorem row_keep {w w' : World} {B e z : Nat} (hb : Below B w w') {v : Value} {n : Nat} {xs : List Value} (h : w.ownsRow 0 e z v n xs) (hq : ∀ q, v.ownBlock = some q → q < B) : w'.ownsRow 0 e z v n xs := by
  refine ⟨h.1, ?_⟩
  rcases h.2 with hl | ⟨g, cap, cur, rfl, h1, hg, rest⟩
  · exact .inl hl
  · exact .inr ⟨g, cap, cur, rfl, h1, (hb.block g (hq g rfl)).trans hg, rest⟩
theorem TbB.keep {w w' : World} {B gt : Nat} {t : TabN} (h : TbB w B gt t) (hb : Below B w w') (hk : ∀ cs, w.heap[gt]? = some (.cells cs 142 (0, 0)) → w'.heap[gt]? = some (.cells cs 142 (0, 0))) : TbB w' B gt t := by
  obtain ⟨gv, nv, bs, ns, h1, h2, h3, q1, q2, r⟩ := h.ex
  exact ⟨h.ok, gv, nv, bs, ns, hk _ h1, row_keep hb h2 q1, row_keep hb h3 q2, q1, q2, r⟩

set_option maxRecDepth 20000 in
theorem States_any (w : World) (B gt : Nat) (t : TabN) (h : TbB w B gt t) : Calls Try.prog 108 #[.pointer (some ⟨gt, 0, none⟩)] w fun e w' => e = .returned (.int .i64 (t.S : Int)) ∧ w' = w := by
  obtain ⟨gv, nv, bs, ns, h1, h2, h3, q1, q2, hS, r⟩ := h.ex
  obtain ⟨a, c, rfl⟩ := h2.form
  have c0 : w.cell? ⟨gt, 257, none⟩ = some (.slice a bs.length c) := by rw [cell_of_row _ _ _ _ _ _ h1]; exact tbC_tail _ _ _ _ 1
  rw [hS] at c0
  clear h h1 h2 h3 q1 q2 hS r
  go_enter Try.func108, Try.ntmps108
  go_wp2
  go_ret
  exact ⟨rfl, rfl⟩
set_option maxRecDepth 20000 in
theorem Classes_any (w : World) (B gt : Nat) (t : TabN) (h : TbB w B gt t) : Calls Try.prog 109 #[.pointer (some ⟨gt, 0, none⟩)] w fun e w' => e = .returned (.int .i64 (t.C : Int)) ∧ w' = w := by
  obtain ⟨gv, nv, bs, ns, h1, -⟩ := h.ex
  have c0 : w.cell? ⟨gt, 256, none⟩ = some (.int .i64 (t.C : Int)) := by rw [cell_of_row _ _ _ _ _ _ h1]; exact tbC_tail _ _ _ _ 0
  clear h h1
  go_enter Try.func109, Try.ntmps109
  go_wp2
  go_ret
  exact ⟨rfl, rfl⟩
set_option maxRecDepth 20000 in
theorem Class_any (w : World) (B gt : Nat) (t : TabN) (h : TbB w B gt t) (b : Nat) (hb : b < 256) : Calls Try.prog 107 #[.pointer (some ⟨gt, 0, none⟩), .int .u8 (b : Int)] w fun e w' => e = .returned (.int .i64 ((t.cl b : Nat) : Int)) ∧ w' = w := by
  obtain ⟨gv, nv, bs, ns, h1, -⟩ := h.ex
  have c0 : w.cell? ⟨gt, b, none⟩ = some (.int .i64 ((t.cl b : Nat) : Int)) := by rw [cell_of_row _ _ _ _ _ _ h1]; exact tbC_cl _ _ _ _ hb
  have hbI : (b : Int) < 256 := by omega
  clear h h1 hb
  generalize t.cl b = x at *
  go_enter Try.func107, Try.ntmps107
  go_wp2
  go_ret
  exact ⟨rfl, rfl⟩
set_option maxRecDepth 20000 in
theorem Granted_any (w : World) (B gt : Nat) (t : TabN) (h : TbB w B gt t) (q : Nat) (hq : q < t.S) : Calls Try.prog 102 #[.pointer (some ⟨gt, 0, none⟩), .int .i64 (q : Int)] w fun e w' => e = .returned (.bool (t.gr q)) ∧ w' = w := by
  obtain ⟨gv, nv, bs, ns, h1, h2, h3, q1, q2, hS, hg, r⟩ := h.ex
  have hok := h.ok.s2
  obtain ⟨g, cap, rfl, hc⟩ := h2.at (k := q) (by omega)
  rw [hg q hq] at hc
  have c0 : w.cell? ⟨gt, 257, none⟩ = some (.slice (some ⟨g, 0, none⟩) bs.length cap) := by rw [cell_of_row _ _ _ _ _ _ h1]; exact tbC_tail _ _ _ _ 1
  rw [hS] at c0
  have hqI : (q : Int) < (t.S : Int) := by omega
  have hsI : (t.S : Int) ≤ 24 := by omega
  clear h h1 h2 h3 q1 q2 hS hg r hq hok
  generalize t.gr q = x at *
  go_enter Try.func102, Try.ntmps102
  go_wp2
  go_ret
  exact ⟨rfl, rfl⟩

end Mc
end Go.Proofs.Ytnkdbcicphnmiaa
namespace Go.Proofs.Ytnkdbcicphnmiaa
namespace Mc
open Go.RowKit
attribute [local go_sem ↓] Go.wp_at_zero Go.wp_at_succ

/-- What a layer leaves as it was. -/
structure PresL (B : Nat) (w w' : World) : Prop where
  below : Below B w w'
  keep : ∀ (k : Nat) (cs : Array Value) (ty : TypeId) (fr : Nat × Nat), w.heap[k]? = some (.cells cs ty fr) → ty ≠ 136 → ty ≠ 3 → w'.heap[k]? = some (.cells cs ty fr)
theorem PresL.refl (B : Nat) (w : World) : PresL B w w := ⟨Below.refl _ _, fun _ _ _ _ h _ _ => h⟩
theorem PresL.trans {B : Nat} {a b c : World} (h : PresL B a b) (k : PresL B b c) : PresL B a c := ⟨h.below.trans k.below, fun q cs ty fr h1 h2 h3 => k.keep q cs ty fr (h.keep q cs ty fr h1 h2 h3) h2 h3⟩
theorem PresL.alloc (B : Nat) (w : World) (o : Obj) (h : B ≤ w.heap.size) : PresL B w (w.alloc o) := ⟨(Below.refl _ _).alloc h _, fun k cs ty fr h1 _ _ => (Fr.ofAlloc w o).at h1 (by simp)⟩
theorem PresL.drew {B : Nat} {w w' : World} (h : PresL B w w') : PresL B w w'.drew := ⟨h.below.drew, h.keep⟩
theorem TbB.presL {w w' : World} {B gt : Nat} {t : TabN} (h : TbB w B gt t) (hp : PresL B w w') : TbB w' B gt t := h.keep hp.below (fun cs hc => hp.keep _ _ _ _ hc (by decide) (by decide))
/-- A layer in memory. -/
structure LBx (w : World) (B gl : Nat) (v : Value) (ds : List Nat) : Prop where
  hB : B ≤ gl
  heap : w.heap[gl]? = some (.cells #[v] 136 (0, 0))
  row : NR w B v ds
def LB (w : World) (B gl : Nat) (ds : List Nat) : Prop := ∃ v, LBx w B gl v ds
section
variable {w w' : World} {B gl : Nat} {v : Value} {ds : List Nat}
theorem LBx.lt (h : LBx w B gl v ds) : gl < w.heap.size := (Array.getElem?_eq_some_iff.1 h.heap).1
theorem LBx.alloc (h : LBx w B gl v ds) (o : Obj) : LBx (w.alloc o) B gl v ds := ⟨h.hB, (Fr.ofAlloc w o).at h.heap (by simp), (Fr.ofAlloc w o).own h.row (by simp)⟩
theorem LBx.drew (h : LBx w B gl v ds) : LBx w.drew B gl v ds := ⟨h.hB, h.heap, h.row⟩
theorem LBx.ne (h : LBx w B gl v ds) : ∀ q, v.ownBlock = some q → q ≠ gl := own_off h.row h.heap (by decide)
theorem LBx.cell (h : LBx w B gl v ds) : w.cell? ⟨gl, 0, none⟩ = some v := by rw [cell_of_row _ _ _ _ _ _ h.heap]; rfl
/-- A number more. -/
theorem LBx.push (h : LBx w B gl v ds) {g cap y : Nat} (hgrow : w.grownBy w' v.ownBlock) (ho : w'.ownsRow B 3 1 (.slice (some ⟨g, 0, none⟩) (ds.length + 1) cap) (ds.length + 1) (ncs ds ++ [.int .i64 (y : Int)])) (hl : v.ownBlock = some g ∨ g = w.heap.size) :
    w'.cell? ⟨gl, 0, none⟩ = some v ∧ w'.frozen? ⟨gl, 0, none⟩ = false ∧ LBx (w'.setCell ⟨gl, 0, none⟩ (.slice (some ⟨g, 0, none⟩) (ds.length + 1) cap)) B gl (.slice (some ⟨g, 0, none⟩) (ds.length + 1) cap) (ds ++ [y]) ∧ PresL B w (w'.setCell ⟨gl, 0, none⟩ (.slice (some ⟨g, 0, none⟩) (ds.length + 1) cap)) := by
  have hlt := h.lt
  have hB := h.hB
  have a1 : w'.heap[gl]? = _ := (Fr.ofGrown hgrow).at h.heap (fun hm => h.ne _ (Option.mem_toList.1 hm) rfl)
  have hne : g ≠ gl := by
    rcases hl with e | e
    · exact h.ne g e
    · omega
  refine ⟨by rw [cell_of_row _ _ _ _ _ _ a1]; rfl, frozen_of_row _ _ _ _ _ a1, ⟨hB, by rw [heap_setCell_same _ _ _ _ _ _ a1]; rfl, ?_⟩, ?_, fun q cs ty fr hq n1 n2 => ?_⟩
  · exact (Fr.ofSet _ _ _ _).own (NR.of ho) (fun q hq => by
      have : g = q := by simpa [Value.ownBlock] using hq
      rw [← this]; simpa using hne)
  · exact below_set (below_grown (Below.refl B w) hgrow (by omega) (fun q hq => (h.row.lt q hq).1)) hB
  · have hne1 : q ≠ gl := by rintro rfl; rw [h.heap] at hq; simp at hq; exact n1 hq.2.1.symm
    have hne2 : q ∉ v.ownBlock.toList := fun hm => by
      rcases h.row.2 with ⟨he, _⟩ | ⟨g2, cap2, cur, he, _, hg, _⟩
      · rw [he] at hm; simp [Value.ownBlock] at hm
      · have e2 : v.ownBlock = some g2 := by rw [he]; rfl
        have : g2 = q := by have := Option.mem_toList.1 hm; rw [e2] at this; simpa using this
        subst this
        rw [hg] at hq; simp at hq; exact n2 hq.2.1.symm
    exact (Fr.ofSet _ _ _ _).at ((Fr.ofGrown hgrow).at hq hne2) (by simpa using hne1)
end
theorem PresL.res {B : Nat} {w wr : World} (h : PresL B w wr) {g : Nat} (hg : w.heap.size ≤ g) (hB : B ≤ g) (o : Nat) (u : Value) : PresL B w (wr.setCell ⟨g, o, none⟩ u) :=
  ⟨below_set h.below hB, fun k cs ty fr hk n1 n2 => (Fr.ofSet _ _ _ _).at (h.keep k cs ty fr hk n1 n2) (by have := (Array.getElem?_eq_some_iff.1 hk).1; simp; omega)⟩
theorem LBx.res {wr : World} {B gl : Nat} {v : Value} {ds : List Nat} (h : LBx wr B gl v ds) {g : Nat} {cs : Array Value} (hbx : wr.heap[g]? = some (.cells cs 138 (0, 0))) (o : Nat) (u : Value) : LBx (wr.setCell ⟨g, o, none⟩ u) B gl v ds := by
  have hne : gl ≠ g := by rintro rfl; rw [h.heap] at hbx; simp at hbx
  exact ⟨h.hB, (Fr.ofSet _ _ _ _).at h.heap (by simpa using hne), (Fr.ofSet _ _ _ _).own h.row (fun q hq => by simpa using own_off h.row hbx (by decide) q hq)⟩
theorem LB.len {w : World} {B gl : Nat} {v : Value} {ds : List Nat} (h : LBx w B gl v ds) : ∃ a c, v = .slice a ds.length c := h.row.form

set_option maxRecDepth 20000 in
theorem address_any (w : World) (B gl : Nat) (ds : List Nat) (h : LB w B gl ds) (hl : ds.length ≤ 100000) : Calls Try.prog 105 #[.pointer (some ⟨gl, 0, none⟩)] w fun e w' => e = .returned (.int .i64 ((32 + ds.length : Nat) : Int)) ∧ w' = w := by
  obtain ⟨v, hx⟩ := h
  obtain ⟨a, c, rfl⟩ := hx.row.form
  have c0 := hx.cell
  have hlI : (ds.length : Int) ≤ 100000 := by omega
  clear hx hl
  go_enter Try.func105, Try.ntmps105
  go_wp2
  go_ret
  exact ⟨ret_int (by rw [Int.natCast_add]; rfl), rfl⟩

theorem u8_wrap (b : Nat) (h : b < 256) : IntKind.u8.wrap (b : Int) = (b : Int) := by
  unfold IntKind.wrap
  simp only [IntKind.bits, IntKind.signed]
  have h1 : (b : Int) % (2 ^ 8 : Int) = b := Int.emod_eq_of_lt (by omega) (by omega)
  simp only [h1]
  simp

def clsW (t : TabN) (n : Nat) : List Nat := (List.range n).map fun b => 1 + t.cl b
theorem clsW_succ (t : TabN) (n : Nat) : clsW t (n + 1) = clsW t n ++ [1 + t.cl n] := by unfold clsW; rw [List.range_succ, List.map_append]; rfl
theorem clsW_len (t : TabN) (n : Nat) : (clsW t n).length = n := by unfold clsW; simp

set_option maxRecDepth 20000 in
set_option maxHeartbeats 1000000 in
theorem classes_any (w : World) (B gl gt : Nat) (t : TabN) (ds : List Nat) (h : LB w B gl ds) (ht : TbB w B gt t) (hl : ds.length ≤ 50000) :
    Calls Try.prog 84 #[.pointer (some ⟨gl, 0, none⟩), .pointer (some ⟨gt, 0, none⟩)] w fun e w' => e = .returned (arV (32 + ds.length) (32 + ds.length + 256)) ∧ PresL B w w' ∧ LB w' B gl (ds ++ clsW t 256) := by
  obtain ⟨v, hx⟩ := h
  have HSZ : Hid (B ≤ w.heap.size) := by have := hx.hB; have := hx.lt; show _ ≤ _; omega
  have HA0 := hide (address_any _ B gl ds ⟨v, hx.alloc (Obj.cells #[.int .i64 0, .int .i64 0] 138)⟩ (by omega))
  have HP0 : Hid (PresL B w (w.alloc (Obj.cells #[.int .i64 0, .int .i64 0] 138))) := PresL.alloc B w _ (unhide HSZ)
  have HX0 : Hid (LB (w.alloc (Obj.cells #[.int .i64 0, .int .i64 0] 138)) B gl (ds ++ clsW t 0)) := by
    show LB _ _ _ _
    rw [show ds ++ clsW t 0 = ds by simp [clsW]]
    exact ⟨v, hx.alloc _⟩
  have HBX : Hid ((w.alloc (Obj.cells #[.int .i64 0, .int .i64 0] 138)).heap[w.heap.size]? = some (Obj.cells #[.int .i64 0, .int .i64 0] 138 (0, 0))) := heap_alloc_new _ _
  have HT := hide ht
  have HL := hide hl
  have hlI : (ds.length : Int) ≤ 50000 := by omega
  clear hx ht hl
  go_enter Try.func84, Try.ntmps84
  go_wp2_with fail
  refine (unhide HA0).mono ?_
  rintro e w1 ⟨rfl, hww⟩
  rw [hww]
  clear hww
  go_wp2_with fail
  generalize hg4 : w.heap.size = g4 at *
  have HG4 := hide hg4
  clear hg4
  generalize hwa : (w.alloc (Obj.cells #[.int .i64 0, .int .i64 0] 138)) = wa at *
  clear hwa HA0
  go_loopw [6] (fun ix wr => ∃ b : Nat, ix = .int .i64 (b : Int) ∧ Hid (b ≤ 256 ∧ PresL B w wr ∧ LB wr B gl (ds ++ clsW t b) ∧ wr.heap[g4]? = some (Obj.cells #[.int .i64 0, .int .i64 0] 138 (0, 0)))) (fun ix _ => lenLeft 256 ix)
  case atStart => exact ⟨0, rfl, Nat.zero_le _, unhide HP0, unhide HX0, unhide HBX⟩
  case round =>
    clear HP0 HX0 HBX
    rename World => wr
    obtain ⟨b, rfl, HH⟩ := hrel
    obtain ⟨hb, hP, ⟨v, hx⟩, hbx⟩ := unhide HH
    obtain ⟨va, vc, rfl⟩ := hx.row.form
    have hdl : (ds ++ clsW t b).length = ds.length + b := by rw [List.length_append, clsW_len]
    by_cases hlt : b < 256
    · have hbI : (b : Int) < 256 := by omega
      have hwr := u8_wrap b hlt
      have HC := hide (Class_any wr B gt t ((unhide HT).presL hP) b hlt)
      have hcl : t.cl b < 24 := by have := (unhide HT).ok.cl b hlt; have := (unhide HT).ok.c2; omega
      have hclI : ((t.cl b : Nat) : Int) < 24 := by omega
      have c0 := hx.cell
      have hgl := hx.lt
      have HXA := hide (hx.alloc (Obj.cells #[.int .i64 (1 + ((t.cl b : Nat) : Int))] 3))
      have HCE : Hid ((wr.alloc (Obj.cells #[.int .i64 (1 + ((t.cl b : Nat) : Int))] 3)).cell? ⟨wr.heap.size, 0, none⟩ = some (.int .i64 ((1 + t.cl b : Nat) : Int))) := by show _ = _; rw [new_cell rfl, Int.natCast_add]; rfl
      have HPA : Hid (PresL B w (wr.alloc (Obj.cells #[.int .i64 (1 + ((t.cl b : Nat) : Int))] 3))) := hP.trans (PresL.alloc B wr _ (by have := hx.hB; omega))
      have HBA : Hid ((wr.alloc (Obj.cells #[.int .i64 (1 + ((t.cl b : Nat) : Int))] 3)).heap[g4]? = some (Obj.cells #[.int .i64 0, .int .i64 0] 138 (0, 0))) := (Fr.ofAlloc _ _).at hbx (by simp)
      have HLT := hide hlt
      have HLEN : Hid ((ds ++ clsW t b).length ≤ 3000000) := by have := unhide HL; rw [hdl]; show _ ≤ _; omega
      have HBS : Hid (B ≤ wr.heap.size) := by have := hx.hB; show _ ≤ _; omega
      have HSN : Hid (ds ++ clsW t (b + 1) = ds ++ clsW t b ++ [1 + t.cl b]) := by show _ = _; rw [clsW_succ, List.append_assoc]
      clear HH hb hP hx hbx hlt hcl hdl
      generalize ds ++ clsW t b = xs at *
      generalize t.cl b = x at *
      go_wp2_with (first
        | (go_at_call 107; refine (unhide HC).mono ?_; rintro e w' ⟨rfl, hww⟩; obtain rfl : wr = w' := hww.symm; clear hww)
        | (at_builtin; refine app1 rfl (.tmp 22) (.tmp 25) rfl B _ _ rfl (unhide HXA).row wr.heap.size (1 + x) rfl (unhide HCE) (unhide HLEN) (by have := unhide HBS; simp; omega) (wr.heap.size + 1) (by simp) ?_; intro g5 cap5 w8 ho hgrow hlies hlt5; obtain ⟨c9, f9, hX9, hP9⟩ := (unhide HXA).push hgrow ho (hlies.elim Or.inl (fun e => Or.inr (by rw [e]; simp))); have HX9 := hide hX9; have HP9 := hide ((unhide HPA).trans hP9); have HB9 := hide (hP9.keep _ _ _ _ (unhide HBA) (by decide) (by decide)); clear ho hgrow hlies hX9 hP9))
      go_roundw
      case rel => exact ⟨b + 1, by go_num, unhide HLT, unhide HP9, ⟨_, by rw [unhide HSN]; exact unhide HX9⟩, unhide HB9⟩
      case measure => have := unhide HLT; simp [lenLeft, intOf]; omega
    · have hb2 : b = 256 := by omega
      subst hb2
      have hgx := (Array.getElem?_eq_some_iff.1 hbx).1
      have HA := hide (address_any wr B gl _ ⟨_, hx⟩ (by rw [hdl]; have := unhide HL; omega))
      rw [hdl] at HA
      obtain ⟨b0, b1⟩ := boxA hbx
      have f0 : wr.frozen? ⟨g4, 0, none⟩ = false := frozen_of_row _ _ _ _ _ hbx
      have f1 : wr.frozen? ⟨g4, 1, none⟩ = false := frozen_of_row _ _ _ _ _ hbx
      have HP := hide hP
      have HX := hide hx
      have HBX := hide hbx
      clear HH hb hP hx hbx hlt hdl
      go_wp2_with fail
      refine (unhide HA).mono ?_
      rintro e w9 ⟨rfl, hww⟩
      obtain rfl : wr = w9 := hww.symm
      clear hww
      go_wp2_with fail
      have hend : ((wr.setCell ⟨g4, 0, none⟩ (.int .i64 (32 + (ds.length : Int)))).setCell ⟨g4, 1, none⟩ (.int .i64 (32 + ((ds.length : Int) + 256)))).heap[g4]? = some (Obj.cells #[.int .i64 (32 + (ds.length : Int)), .int .i64 (32 + ((ds.length : Int) + 256))] 138 (0, 0)) := by
        rw [heap_setCell_same _ _ _ _ _ _ (heap_setCell_same _ _ _ _ _ _ (unhide HBX))]; rfl
      refine bodyPost_ret (results_cell_row (p := 4) (ty := 138) rfl _ _ g4 138 _ (0, 0) _ rfl hend Try.underlying138 rfl (by kernel_rfl)) rfl ?_
      refine ⟨?_, ((unhide HP).res (Nat.le_of_eq (unhide HG4)) (unhide HSZ) _ _).res (Nat.le_of_eq (unhide HG4)) (unhide HSZ) _ _, _, ((unhide HX).res (unhide HBX) _ _).res (heap_setCell_same _ _ _ _ _ _ (unhide HBX)) _ _⟩
      unfold arV
      push_cast
      rfl

end Mc
end Go.Proofs.Ytnkdbcicphnmiaa
