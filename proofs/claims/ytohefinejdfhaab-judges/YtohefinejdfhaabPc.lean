/-
  judge.writer.readSecret; what is asked of a table: States, Classes, Class, Granted, Next.
-/
import Derived.Test.YtohefinejdfhaabPb
namespace Go.Proofs.Ytohefinejdfhaab
namespace Mc
open Go.RowKit
attribute [local go_sem ↓] Go.wp_at_zero Go.wp_at_succ

set_option maxRecDepth 20000 in
set_option maxHeartbeats 1000000 in
theorem readSecret_w (w : World) (B gw : Nat) (os : List OpI) (N x y u v : Nat) (h : WB w B gw os) (hl : os.length ≤ 90000) (hN : N ≤ 16) :
    Calls Try.prog 76 #[.pointer (some ⟨gw, 0, none⟩), .int .i64 (N : Int), arV x y, arV u v] w fun e w' => e = .returned (.tuple #[]) ∧ PresW B w w' ∧ WB w' B gw (os ++ [⟨0, 3, (u : Int), 0⟩, ⟨0, 4, 0, 0⟩] ++ readsOps x y u v (os.length + 2) N) := by
  have hgw := h.lt
  have HSZ : Hid (B ≤ w.heap.size) := by have := h.hB; show _ ≤ _; omega
  have HW0 := hide ((h.alloc (Obj.cells #[.int .i64 (x : Int), .int .i64 (y : Int)] 131)).alloc (Obj.cells #[.int .i64 (u : Int), .int .i64 (v : Int)] 131))
  have HP0 : Hid (PresW B w ((w.alloc (Obj.cells #[.int .i64 (x : Int), .int .i64 (y : Int)] 131)).alloc (Obj.cells #[.int .i64 (u : Int), .int .i64 (v : Int)] 131))) := (PresW.alloc B w _ (unhide HSZ)).trans (PresW.alloc B _ _ (by have := unhide HSZ; simp; omega))
  have HX0 : Hid (((w.alloc (Obj.cells #[.int .i64 (x : Int), .int .i64 (y : Int)] 131)).alloc (Obj.cells #[.int .i64 (u : Int), .int .i64 (v : Int)] 131)).heap[w.heap.size]? = some (Obj.cells #[.int .i64 (x : Int), .int .i64 (y : Int)] 131 (0, 0))) := heap_alloc2_old _ _ _
  have HX1 : Hid (((w.alloc (Obj.cells #[.int .i64 (x : Int), .int .i64 (y : Int)] 131)).alloc (Obj.cells #[.int .i64 (u : Int), .int .i64 (v : Int)] 131)).heap[w.heap.size + 1]? = some (Obj.cells #[.int .i64 (u : Int), .int .i64 (v : Int)] 131 (0, 0))) := heap_alloc2_new _ _ _
  have HL := hide hl
  have HN := hide hN
  have hNI : (N : Int) ≤ 16 := by omega
  unfold arV
  clear h hl hN
  go_enter Try.func76, Try.ntmps76
  go_wp2_with fail
  refine (set_any _ B gw _ _ _ (unhide HW0) (by have := unhide HL; omega)).mono ?_
  rintro e w1 ⟨rfl, hp, hw⟩
  have HP1 := hide ((unhide HP0).trans hp)
  have HW1 := hide hw
  have HX0 := hide (hp.keep _ _ _ _ (unhide HX0) (by decide) (by decide))
  have HX1 := hide (hp.keep _ _ _ _ (unhide HX1) (by decide) (by decide))
  clear hp hw
  go_wp2_with fail
  refine (set_any w1 B gw _ _ _ (unhide HW1) (by have := unhide HL; simp; omega)).mono ?_
  rintro e w2 ⟨rfl, hp, hw⟩
  have HP2 := hide ((unhide HP1).trans hp)
  have HW2 : Hid (WB w2 B gw (os ++ [⟨0, 3, (u : Int), 0⟩, ⟨0, 4, 0, 0⟩] ++ readsOps x y u v (os.length + 2) 0)) := hw.to (by simp [readsOps])
  have HX0 := hide (hp.keep _ _ _ _ (unhide HX0) (by decide) (by decide))
  have HX1 := hide (hp.keep _ _ _ _ (unhide HX1) (by decide) (by decide))
  clear hp hw
  go_wp2_with fail
  generalize w.heap.size = g0 at *
  go_loopw [8] (fun ix wr => ∃ i : Nat, ix = .int .i64 (i : Int) ∧ Hid (i ≤ N ∧ PresW B w wr ∧ WB wr B gw (os ++ [⟨0, 3, (u : Int), 0⟩, ⟨0, 4, 0, 0⟩] ++ readsOps x y u v (os.length + 2) i) ∧ wr.heap[g0]? = some (Obj.cells #[.int .i64 (x : Int), .int .i64 (y : Int)] 131 (0, 0)) ∧ wr.heap[g0 + 1]? = some (Obj.cells #[.int .i64 (u : Int), .int .i64 (v : Int)] 131 (0, 0)))) (fun ix _ => lenLeft N ix)
  case atStart => exact ⟨0, rfl, Nat.zero_le _, unhide HP2, unhide HW2, unhide HX0, unhide HX1⟩
  case round =>
    clear HP0 HP1 HP2 HW0 HW1 HW2 HX0 HX1
    rename World => wr
    obtain ⟨i, rfl, HH⟩ := hrel
    obtain ⟨hi, hP, hW, hx0, hx1⟩ := unhide HH
    by_cases hlt : i < N
    · have hiI : (i : Int) < (N : Int) := by omega
      obtain ⟨a0, a1⟩ := boxA hx0
      obtain ⟨b0, b1⟩ := boxA hx1
      have HB := hide (readByte_w wr B gw _ i x y u v (by omega) hW (by have := unhide HL; have := unhide HN; simp [readsOps_len]; omega))
      have HP := hide hP
      have HLT := hide hlt
      have HX0 := hide hx0
      have HX1 := hide hx1
      unfold arV at HB
      clear HH hi hP hW hx0 hx1 hlt
      go_wp2_with fail
      refine (unhide HB).mono ?_
      rintro e w3 ⟨rfl, hp, hw⟩
      have HP3 := hide ((unhide HP).trans hp)
      have HW3 := hide hw
      have HX0 := hide (hp.keep _ _ _ _ (unhide HX0) (by decide) (by decide))
      have HX1 := hide (hp.keep _ _ _ _ (unhide HX1) (by decide) (by decide))
      clear hp hw
      go_wp2_with fail
      go_roundw
      case rel => exact ⟨i + 1, by go_num, unhide HLT, unhide HP3, (unhide HW3).to (by simp [readsOps, readsOps_len, List.append_assoc]; congr 1; omega), unhide HX0, unhide HX1⟩
      case measure => have := unhide HLT; simp [lenLeft, intOf]; omega
    · have hi2 : i = N := by omega
      subst hi2
      have HP := hide hP
      have HW := hide hW
      clear HH hi hP hW hx0 hx1 hlt
      go_wp2_with fail
      go_end0
      exact ⟨rfl, unhide HP, unhide HW⟩

/-- The cells of a table. -/
def tbC (cl : Nat → Nat) (C : Nat) (gv nv : Value) : Array Value := (ncs ((List.range 256).map cl) ++ [.int .i64 (C : Int), gv, nv]).toArray
theorem tbC_cl (cl : Nat → Nat) (C : Nat) (gv nv : Value) {b : Nat} (hb : b < 256) : (tbC cl C gv nv)[b]? = some (.int .i64 ((cl b : Nat) : Int)) := by
  unfold tbC
  rw [List.getElem?_toArray, List.getElem?_append_left (by rw [ncs_len]; simpa using hb), ncs_get _ (by simpa using hb), List.getD_eq_getElem?_getD, List.getElem?_map, List.getElem?_range hb]; rfl
theorem tbC_tail (cl : Nat → Nat) (C : Nat) (gv nv : Value) (j : Nat) : (tbC cl C gv nv)[256 + j]? = [.int .i64 (C : Int), gv, nv][j]? := by
  unfold tbC
  rw [List.getElem?_toArray, List.getElem?_append_right (by rw [ncs_len]; simp), ncs_len, List.length_map, List.length_range, Nat.add_sub_cancel_left]
def bcs (bs : List Bool) : List Value := bs.map fun b => .bool b
def BR (w : World) (B : Nat) (v : Value) (bs : List Bool) : Prop := w.ownsRow B 4 1 v bs.length (bcs bs)
theorem BR.form {w : World} {B : Nat} {v : Value} {xs : List Bool} (h : BR w B v xs) : (∃ a c, v = .slice a xs.length c) := by
  rcases h.2 with ⟨rfl, h0⟩ | ⟨g, cap, cur, rfl, _⟩
  · exact ⟨none, 0, by rw [h0]⟩
  · exact ⟨_, _, rfl⟩
theorem BR.at {w : World} {B : Nat} {v : Value} {xs : List Bool} (h : BR w B v xs) {k : Nat} (hk : k < xs.length) : ∃ g cap, v = .slice (some ⟨g, 0, none⟩) xs.length cap ∧ w.cell? ⟨g, k, none⟩ = some (.bool (xs.getD k false)) := by
  have h' : w.ownsRow B 4 1 v xs.length (bcs xs) := h
  obtain ⟨g, cap, rfl⟩ := own_form h' (by omega)
  refine ⟨g, cap, rfl, ?_⟩
  have := h'.cells (g := g) rfl k (.bool (xs.getD k false)) (by simp [bcs, hk])
  rwa [add0] at this
/-- A table in memory: its block, its rows below a bound. -/
structure TbB (w : World) (B gt : Nat) (t : TabN) : Prop where
  ok : t.Ok
  ex : ∃ gv nv bs ns, w.heap[gt]? = some (.cells (tbC t.cl t.C gv nv) 78 (0, 0)) ∧ BR w 0 gv bs ∧ NR w 0 nv ns ∧ (∀ q, gv.ownBlock = some q → q < B) ∧ (∀ q, nv.ownBlock = some q → q < B) ∧ bs.length = t.S ∧ (∀ q, q < t.S → bs.getD q false = t.gr q) ∧ ns.length = t.S * t.C ∧ ∀ q c, q < t.S → c < t.C → ns.getD (q * t.C + c) 0 = t.nx q c
theorem row_keep {w w' : World} {B e z : Nat} (hb : Below B w w') {v : Value} {n : Nat} {xs : List Value} (h : w.ownsRow 0 e z v n xs) (hq : ∀ q, v.ownBlock = some q → q < B) : w'.ownsRow 0 e z v n xs := by
  refine ⟨h.1, ?_⟩
  rcases h.2 with hl | ⟨g, cap, cur, rfl, h1, hg, rest⟩
  · exact .inl hl
  · exact .inr ⟨g, cap, cur, rfl, h1, (hb.block g (hq g rfl)).trans hg, rest⟩
theorem TbB.keep {w w' : World} {B gt : Nat} {t : TabN} (h : TbB w B gt t) (hb : Below B w w') (hk : ∀ cs, w.heap[gt]? = some (.cells cs 78 (0, 0)) → w'.heap[gt]? = some (.cells cs 78 (0, 0))) : TbB w' B gt t := by
  obtain ⟨gv, nv, bs, ns, h1, h2, h3, q1, q2, r⟩ := h.ex
  exact ⟨h.ok, gv, nv, bs, ns, hk _ h1, row_keep hb h2 q1, row_keep hb h3 q2, q1, q2, r⟩

set_option maxRecDepth 20000 in
theorem States_any (w : World) (B gt : Nat) (t : TabN) (h : TbB w B gt t) : Calls Try.prog 111 #[.pointer (some ⟨gt, 0, none⟩)] w fun e w' => e = .returned (.int .i64 (t.S : Int)) ∧ w' = w := by
  obtain ⟨gv, nv, bs, ns, h1, h2, h3, q1, q2, hS, r⟩ := h.ex
  obtain ⟨a, c, rfl⟩ := h2.form
  have c0 : w.cell? ⟨gt, 257, none⟩ = some (.slice a bs.length c) := by rw [cell_of_row _ _ _ _ _ _ h1]; exact tbC_tail _ _ _ _ 1
  rw [hS] at c0
  clear h h1 h2 h3 q1 q2 hS r
  go_enter Try.func111, Try.ntmps111
  go_wp2
  go_ret
  exact ⟨rfl, rfl⟩
set_option maxRecDepth 20000 in
theorem Classes_any (w : World) (B gt : Nat) (t : TabN) (h : TbB w B gt t) : Calls Try.prog 113 #[.pointer (some ⟨gt, 0, none⟩)] w fun e w' => e = .returned (.int .i64 (t.C : Int)) ∧ w' = w := by
  obtain ⟨gv, nv, bs, ns, h1, -⟩ := h.ex
  have c0 : w.cell? ⟨gt, 256, none⟩ = some (.int .i64 (t.C : Int)) := by rw [cell_of_row _ _ _ _ _ _ h1]; exact tbC_tail _ _ _ _ 0
  clear h h1
  go_enter Try.func113, Try.ntmps113
  go_wp2
  go_ret
  exact ⟨rfl, rfl⟩
set_option maxRecDepth 20000 in
theorem Class_any (w : World) (B gt : Nat) (t : TabN) (h : TbB w B gt t) (b : Nat) (hb : b < 256) : Calls Try.prog 110 #[.pointer (some ⟨gt, 0, none⟩), .int .u8 (b : Int)] w fun e w' => e = .returned (.int .i64 ((t.cl b : Nat) : Int)) ∧ w' = w := by
  obtain ⟨gv, nv, bs, ns, h1, -⟩ := h.ex
  have c0 : w.cell? ⟨gt, b, none⟩ = some (.int .i64 ((t.cl b : Nat) : Int)) := by rw [cell_of_row _ _ _ _ _ _ h1]; exact tbC_cl _ _ _ _ hb
  have hbI : (b : Int) < 256 := by omega
  clear h h1 hb
  generalize t.cl b = x at *
  go_enter Try.func110, Try.ntmps110
  go_wp2
  go_ret
  exact ⟨rfl, rfl⟩
set_option maxRecDepth 20000 in
theorem Granted_any (w : World) (B gt : Nat) (t : TabN) (h : TbB w B gt t) (q : Nat) (hq : q < t.S) : Calls Try.prog 112 #[.pointer (some ⟨gt, 0, none⟩), .int .i64 (q : Int)] w fun e w' => e = .returned (.bool (t.gr q)) ∧ w' = w := by
  obtain ⟨gv, nv, bs, ns, h1, h2, h3, q1, q2, hS, hg, r⟩ := h.ex
  have hok := h.ok.s2
  obtain ⟨g, cap, rfl, hc⟩ := h2.at (k := q) (by omega)
  rw [hg q hq] at hc
  have c0 : w.cell? ⟨gt, 257, none⟩ = some (.slice (some ⟨g, 0, none⟩) bs.length cap) := by rw [cell_of_row _ _ _ _ _ _ h1]; exact tbC_tail _ _ _ _ 1
  rw [hS] at c0
  have hqI : (q : Int) < (t.S : Int) := by omega
  have hsI : (t.S : Int) ≤ 24 := by omega
  clear h h1 h2 h3 q1 q2 hS hg r hq hok
  generalize t.gr q = x at *
  go_enter Try.func112, Try.ntmps112
  go_wp2
  go_ret
  exact ⟨rfl, rfl⟩

end Mc
end Go.Proofs.Ytohefinejdfhaab
