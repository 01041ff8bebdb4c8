/-
  judge.writer: set, load, store, look, readByte, addMark.
-/
import Derived.Test.YtohefinejdfhaabPa
namespace Go.Proofs.Ytohefinejdfhaab
namespace Mc
open Go.RowKit
attribute [local go_sem ↓] Go.wp_at_zero Go.wp_at_succ

theorem boxA {w : World} {g : Nat} {x y : Int} (h : w.heap[g]? = some (.cells #[.int .i64 x, .int .i64 y] 131 (0, 0))) : w.cell? ⟨g, 0, none⟩ = some (.int .i64 x) ∧ w.cell? ⟨g, 1, none⟩ = some (.int .i64 y) :=
  ⟨by rw [cell_of_row _ _ _ _ _ _ h]; rfl, by rw [cell_of_row _ _ _ _ _ _ h]; rfl⟩
theorem WB.code {w : World} {B gw : Nat} {os : List OpI} (h : WB w B gw os) : ∃ a c, w.cell? ⟨gw, 0, none⟩ = some (.slice a os.length c) := by
  obtain ⟨v, h1, h2⟩ := h.ex
  obtain ⟨a, c, rfl⟩ := h2.form
  exact ⟨a, c, by rw [cell_of_row _ _ _ _ _ _ h1]; rfl⟩
theorem WB.to {w : World} {B gw : Nat} {os os' : List OpI} (h : WB w B gw os) (e : os = os') : WB w B gw os' := e ▸ h
theorem lookOps_len (b e p : Nat) : (lookOps b e p).length = 10 := rfl
def arV (x y : Nat) : Value := .agg #[.int .i64 (x : Int), .int .i64 (y : Int)]

set_option maxRecDepth 20000 in
set_option maxHeartbeats 1000000 in
theorem set_any (w : World) (B gw : Nat) (os : List OpI) (a b : Int) (h : WB w B gw os) (hl : os.length ≤ 99999) :
    Calls Try.prog 70 #[.pointer (some ⟨gw, 0, none⟩), .int .i64 a, .int .i64 b] w fun e w' => e = .returned (.tuple #[]) ∧ PresW B w w' ∧ WB w' B gw (os ++ [⟨0, a, b, 0⟩]) := by
  have hgw := h.lt
  have HSZ : Hid (B ≤ w.heap.size) := by have := h.hB; show _ ≤ _; omega
  have HP0 : Hid (PresW B w w) := PresW.refl B w
  have HW0 := hide h
  have HL := hide hl
  clear h hl
  go_enter Try.func70, Try.ntmps70
  go_wp2_with fail
  refine (write_any w B gw _ _ _ _ _ (unhide HW0) (by have := unhide HL; omega)).mono ?_
  rintro e w1 ⟨rfl, hp, hw⟩
  have HP1 := hide ((unhide HP0).trans hp)
  have HW1 := hide hw
  clear hp hw
  go_wp2_with fail
  go_end0
  exact ⟨rfl, unhide HP1, (unhide HW1).to rfl⟩

set_option maxRecDepth 20000 in
set_option maxHeartbeats 1000000 in
theorem load_any (w : World) (B gw : Nat) (os : List OpI) (a b : Int) (h : WB w B gw os) (hl : os.length ≤ 99990) :
    Calls Try.prog 71 #[.pointer (some ⟨gw, 0, none⟩), .int .i64 a, .int .i64 b] w fun e w' => e = .returned (.tuple #[]) ∧ PresW B w w' ∧ WB w' B gw (os ++ [⟨0, 10, b, 0⟩, ⟨6, a, 10, 0⟩]) := by
  have hgw := h.lt
  have HSZ : Hid (B ≤ w.heap.size) := by have := h.hB; show _ ≤ _; omega
  have HP0 : Hid (PresW B w w) := PresW.refl B w
  have HW0 := hide h
  have HL := hide hl
  clear h hl
  go_enter Try.func71, Try.ntmps71
  go_wp2_with fail
  refine (set_any w B gw _ _ _ (unhide HW0) (by have := unhide HL; omega)).mono ?_
  rintro e w1 ⟨rfl, hp, hw⟩
  have HP1 := hide ((unhide HP0).trans hp)
  have HW1 := hide hw
  clear hp hw
  go_wp2_with fail
  refine (write_any w1 B gw _ _ _ _ _ (unhide HW1) (by have := unhide HL; simp; omega)).mono ?_
  rintro e w2 ⟨rfl, hp, hw⟩
  have HP2 := hide ((unhide HP1).trans hp)
  have HW2 := hide hw
  clear hp hw
  go_wp2_with fail
  go_end0
  exact ⟨rfl, unhide HP2, (unhide HW2).to (by simp)⟩

set_option maxRecDepth 20000 in
set_option maxHeartbeats 1000000 in
theorem store_any (w : World) (B gw : Nat) (os : List OpI) (a b : Int) (h : WB w B gw os) (hl : os.length ≤ 99990) :
    Calls Try.prog 80 #[.pointer (some ⟨gw, 0, none⟩), .int .i64 a, .int .i64 b] w fun e w' => e = .returned (.tuple #[]) ∧ PresW B w w' ∧ WB w' B gw (os ++ [⟨0, 10, b, 0⟩, ⟨7, a, 10, 0⟩]) := by
  have hgw := h.lt
  have HSZ : Hid (B ≤ w.heap.size) := by have := h.hB; show _ ≤ _; omega
  have HP0 : Hid (PresW B w w) := PresW.refl B w
  have HW0 := hide h
  have HL := hide hl
  clear h hl
  go_enter Try.func80, Try.ntmps80
  go_wp2_with fail
  refine (set_any w B gw _ _ _ (unhide HW0) (by have := unhide HL; omega)).mono ?_
  rintro e w1 ⟨rfl, hp, hw⟩
  have HP1 := hide ((unhide HP0).trans hp)
  have HW1 := hide hw
  clear hp hw
  go_wp2_with fail
  refine (write_any w1 B gw _ _ _ _ _ (unhide HW1) (by have := unhide HL; simp; omega)).mono ?_
  rintro e w2 ⟨rfl, hp, hw⟩
  have HP2 := hide ((unhide HP1).trans hp)
  have HW2 := hide hw
  clear hp hw
  go_wp2_with fail
  go_end0
  exact ⟨rfl, unhide HP2, (unhide HW2).to (by simp)⟩

set_option maxRecDepth 20000 in
set_option maxHeartbeats 1000000 in
theorem look_w (w : World) (B gw : Nat) (os : List OpI) (x y : Nat) (h : WB w B gw os) (hl : os.length ≤ 99900) :
    Calls Try.prog 79 #[.pointer (some ⟨gw, 0, none⟩), arV x y] w fun e w' => e = .returned (.tuple #[]) ∧ PresW B w w' ∧ WB w' B gw (os ++ lookOps x y os.length) := by
  have hgw := h.lt
  have HSZ : Hid (B ≤ w.heap.size) := by have := h.hB; show _ ≤ _; omega
  have hb0 := h.alloc (Obj.cells #[.int .i64 (x : Int), .int .i64 (y : Int)] 131)
  have HP0 : Hid (PresW B w (w.alloc (Obj.cells #[.int .i64 (x : Int), .int .i64 (y : Int)] 131))) := PresW.alloc B w _ (unhide HSZ)
  have HX0 : Hid ((w.alloc (Obj.cells #[.int .i64 (x : Int), .int .i64 (y : Int)] 131)).heap[w.heap.size]? = some (Obj.cells #[.int .i64 (x : Int), .int .i64 (y : Int)] 131 (0, 0))) := heap_alloc_new _ _
  have HW0 := hide hb0
  have HL := hide hl
  clear h hl hb0
  unfold arV
  go_enter Try.func79, Try.ntmps79
  go_wp2_with fail
  refine (set_any (w.alloc (Obj.cells #[.int .i64 (x : Int), .int .i64 (y : Int)] 131)) B gw _ _ _ (unhide HW0) (by have := unhide HL; omega)).mono ?_
  rintro e w1 ⟨rfl, hp, hw⟩
  have HP1 := hide ((unhide HP0).trans hp)
  have HW1 := hide hw
  have HX0 := hide (hp.keep _ _ _ _ (unhide HX0) (by decide) (by decide))
  clear hp hw
  obtain ⟨x10, y10⟩ := boxA (unhide HX0)
  go_wp2_with fail
  refine (set_any w1 B gw _ _ _ (unhide HW1) (by have := unhide HL; simp; omega)).mono ?_
  rintro e w2 ⟨rfl, hp, hw⟩
  have HP2 := hide ((unhide HP1).trans hp)
  have HW2 := hide hw
  have HX0 := hide (hp.keep _ _ _ _ (unhide HX0) (by decide) (by decide))
  clear hp hw x10 y10
  obtain ⟨x20, y20⟩ := boxA (unhide HX0)
  go_wp2_with fail
  refine (set_any w2 B gw _ _ _ (unhide HW2) (by have := unhide HL; simp; omega)).mono ?_
  rintro e w3 ⟨rfl, hp, hw⟩
  have HP3 := hide ((unhide HP2).trans hp)
  have HW3 := hide hw
  have HX0 := hide (hp.keep _ _ _ _ (unhide HX0) (by decide) (by decide))
  clear hp hw x20 y20
  obtain ⟨x30, y30⟩ := boxA (unhide HX0)
  obtain ⟨ca, cc, hcode⟩ := (unhide HW3).code
  go_wp2_with fail
  refine (write_any w3 B gw _ _ _ _ _ (unhide HW3) (by have := unhide HL; simp; omega)).mono ?_
  rintro e w4 ⟨rfl, hp, hw⟩
  have HP4 := hide ((unhide HP3).trans hp)
  have HW4 := hide hw
  have HX0 := hide (hp.keep _ _ _ _ (unhide HX0) (by decide) (by decide))
  clear hp hw x30 y30
  obtain ⟨x40, y40⟩ := boxA (unhide HX0)
  go_wp2_with fail
  refine (write_any w4 B gw _ _ _ _ _ (unhide HW4) (by have := unhide HL; simp; omega)).mono ?_
  rintro e w5 ⟨rfl, hp, hw⟩
  have HP5 := hide ((unhide HP4).trans hp)
  have HW5 := hide hw
  have HX0 := hide (hp.keep _ _ _ _ (unhide HX0) (by decide) (by decide))
  clear hp hw x40 y40
  obtain ⟨x50, y50⟩ := boxA (unhide HX0)
  go_wp2_with fail
  refine (write_any w5 B gw _ _ _ _ _ (unhide HW5) (by have := unhide HL; simp; omega)).mono ?_
  rintro e w6 ⟨rfl, hp, hw⟩
  have HP6 := hide ((unhide HP5).trans hp)
  have HW6 := hide hw
  have HX0 := hide (hp.keep _ _ _ _ (unhide HX0) (by decide) (by decide))
  clear hp hw x50 y50
  obtain ⟨x60, y60⟩ := boxA (unhide HX0)
  go_wp2_with fail
  refine (write_any w6 B gw _ _ _ _ _ (unhide HW6) (by have := unhide HL; simp; omega)).mono ?_
  rintro e w7 ⟨rfl, hp, hw⟩
  have HP7 := hide ((unhide HP6).trans hp)
  have HW7 := hide hw
  have HX0 := hide (hp.keep _ _ _ _ (unhide HX0) (by decide) (by decide))
  clear hp hw x60 y60
  obtain ⟨x70, y70⟩ := boxA (unhide HX0)
  go_wp2_with fail
  refine (write_any w7 B gw _ _ _ _ _ (unhide HW7) (by have := unhide HL; simp; omega)).mono ?_
  rintro e w8 ⟨rfl, hp, hw⟩
  have HP8 := hide ((unhide HP7).trans hp)
  have HW8 := hide hw
  have HX0 := hide (hp.keep _ _ _ _ (unhide HX0) (by decide) (by decide))
  clear hp hw x70 y70
  obtain ⟨x80, y80⟩ := boxA (unhide HX0)
  go_wp2_with fail
  refine (write_any w8 B gw _ _ _ _ _ (unhide HW8) (by have := unhide HL; simp; omega)).mono ?_
  rintro e w9 ⟨rfl, hp, hw⟩
  have HP9 := hide ((unhide HP8).trans hp)
  have HW9 := hide hw
  have HX0 := hide (hp.keep _ _ _ _ (unhide HX0) (by decide) (by decide))
  clear hp hw x80 y80
  obtain ⟨x90, y90⟩ := boxA (unhide HX0)
  go_wp2_with fail
  refine (write_any w9 B gw _ _ _ _ _ (unhide HW9) (by have := unhide HL; simp; omega)).mono ?_
  rintro e w10 ⟨rfl, hp, hw⟩
  have HP10 := hide ((unhide HP9).trans hp)
  have HW10 := hide hw
  have HX0 := hide (hp.keep _ _ _ _ (unhide HX0) (by decide) (by decide))
  clear hp hw x90 y90
  go_wp2_with fail
  go_end0
  exact ⟨rfl, unhide HP10, (unhide HW10).to (by simp [lookOps, opN])⟩

set_option maxRecDepth 20000 in
set_option maxHeartbeats 1000000 in
theorem readByte_w (w : World) (B gw : Nat) (os : List OpI) (i x y u v : Nat) (hi : (i : Int) ≤ 100) (h : WB w B gw os) (hl : os.length ≤ 99000) :
    Calls Try.prog 115 #[.pointer (some ⟨gw, 0, none⟩), .int .i64 (i : Int), arV x y, arV u v] w fun e w' => e = .returned (.tuple #[]) ∧ PresW B w w' ∧ WB w' B gw (os ++ readByteOps i x y u v os.length) := by
  have hgw := h.lt
  have HSZ : Hid (B ≤ w.heap.size) := by have := h.hB; show _ ≤ _; omega
  have hb0 := h.alloc (Obj.cells #[.int .i64 (x : Int), .int .i64 (y : Int)] 131)
  have hb1 := hb0.alloc (Obj.cells #[.int .i64 (u : Int), .int .i64 (v : Int)] 131)
  have HP0 : Hid (PresW B w ((w.alloc (Obj.cells #[.int .i64 (x : Int), .int .i64 (y : Int)] 131)).alloc (Obj.cells #[.int .i64 (u : Int), .int .i64 (v : Int)] 131))) := (PresW.alloc B w _ (unhide HSZ)).trans (PresW.alloc B _ _ (by have := unhide HSZ; simp; omega))
  have HX0 : Hid (((w.alloc (Obj.cells #[.int .i64 (x : Int), .int .i64 (y : Int)] 131)).alloc (Obj.cells #[.int .i64 (u : Int), .int .i64 (v : Int)] 131)).heap[w.heap.size]? = some (Obj.cells #[.int .i64 (x : Int), .int .i64 (y : Int)] 131 (0, 0))) := heap_alloc2_old _ _ _
  have HX1 : Hid (((w.alloc (Obj.cells #[.int .i64 (x : Int), .int .i64 (y : Int)] 131)).alloc (Obj.cells #[.int .i64 (u : Int), .int .i64 (v : Int)] 131)).heap[w.heap.size + 1]? = some (Obj.cells #[.int .i64 (u : Int), .int .i64 (v : Int)] 131 (0, 0))) := heap_alloc2_new _ _ _
  have HW0 := hide hb1
  have HL := hide hl
  clear h hl hb0 hb1
  unfold arV
  go_enter Try.func115, Try.ntmps115
  go_wp2_with fail
  refine (set_any ((w.alloc (Obj.cells #[.int .i64 (x : Int), .int .i64 (y : Int)] 131)).alloc (Obj.cells #[.int .i64 (u : Int), .int .i64 (v : Int)] 131)) B gw _ _ _ (unhide HW0) (by have := unhide HL; omega)).mono ?_
  rintro e w1 ⟨rfl, hp, hw⟩
  have HP1 := hide ((unhide HP0).trans hp)
  have HW1 := hide hw
  have HX0 := hide (hp.keep _ _ _ _ (unhide HX0) (by decide) (by decide))
  have HX1 := hide (hp.keep _ _ _ _ (unhide HX1) (by decide) (by decide))
  clear hp hw
  obtain ⟨x10, y10⟩ := boxA (unhide HX0)
  obtain ⟨x11, y11⟩ := boxA (unhide HX1)
  go_wp2_with fail
  refine (write_any w1 B gw _ _ _ _ _ (unhide HW1) (by have := unhide HL; simp; omega)).mono ?_
  rintro e w2 ⟨rfl, hp, hw⟩
  have HP2 := hide ((unhide HP1).trans hp)
  have HW2 := hide hw
  have HX0 := hide (hp.keep _ _ _ _ (unhide HX0) (by decide) (by decide))
  have HX1 := hide (hp.keep _ _ _ _ (unhide HX1) (by decide) (by decide))
  clear hp hw x10 y10 x11 y11
  obtain ⟨x20, y20⟩ := boxA (unhide HX0)
  obtain ⟨x21, y21⟩ := boxA (unhide HX1)
  go_wp2_with fail
  refine (write_any w2 B gw _ _ _ _ _ (unhide HW2) (by have := unhide HL; simp; omega)).mono ?_
  rintro e w3 ⟨rfl, hp, hw⟩
  have HP3 := hide ((unhide HP2).trans hp)
  have HW3 := hide hw
  have HX0 := hide (hp.keep _ _ _ _ (unhide HX0) (by decide) (by decide))
  have HX1 := hide (hp.keep _ _ _ _ (unhide HX1) (by decide) (by decide))
  clear hp hw x20 y20 x21 y21
  obtain ⟨x30, y30⟩ := boxA (unhide HX0)
  obtain ⟨x31, y31⟩ := boxA (unhide HX1)
  go_wp2_with fail
  refine (load_any w3 B gw _ _ _ (unhide HW3) (by have := unhide HL; simp; omega)).mono ?_
  rintro e w4 ⟨rfl, hp, hw⟩
  have HP4 := hide ((unhide HP3).trans hp)
  have HW4 := hide hw
  have HX0 := hide (hp.keep _ _ _ _ (unhide HX0) (by decide) (by decide))
  have HX1 := hide (hp.keep _ _ _ _ (unhide HX1) (by decide) (by decide))
  clear hp hw x30 y30 x31 y31
  obtain ⟨x40, y40⟩ := boxA (unhide HX0)
  obtain ⟨x41, y41⟩ := boxA (unhide HX1)
  go_wp2_with fail
  refine (set_any w4 B gw _ _ _ (unhide HW4) (by have := unhide HL; simp; omega)).mono ?_
  rintro e w5 ⟨rfl, hp, hw⟩
  have HP5 := hide ((unhide HP4).trans hp)
  have HW5 := hide hw
  have HX0 := hide (hp.keep _ _ _ _ (unhide HX0) (by decide) (by decide))
  have HX1 := hide (hp.keep _ _ _ _ (unhide HX1) (by decide) (by decide))
  clear hp hw x40 y40 x41 y41
  obtain ⟨x50, y50⟩ := boxA (unhide HX0)
  obtain ⟨x51, y51⟩ := boxA (unhide HX1)
  go_wp2_with fail
  refine (write_any w5 B gw _ _ _ _ _ (unhide HW5) (by have := unhide HL; simp; omega)).mono ?_
  rintro e w6 ⟨rfl, hp, hw⟩
  have HP6 := hide ((unhide HP5).trans hp)
  have HW6 := hide hw
  have HX0 := hide (hp.keep _ _ _ _ (unhide HX0) (by decide) (by decide))
  have HX1 := hide (hp.keep _ _ _ _ (unhide HX1) (by decide) (by decide))
  clear hp hw x50 y50 x51 y51
  obtain ⟨x60, y60⟩ := boxA (unhide HX0)
  obtain ⟨x61, y61⟩ := boxA (unhide HX1)
  go_wp2_with fail
  refine (look_w w6 B gw _ _ _ (unhide HW6) (by have := unhide HL; simp; omega)).mono ?_
  rintro e w7 ⟨rfl, hp, hw⟩
  have HP7 := hide ((unhide HP6).trans hp)
  have HW7 := hide hw
  have HX0 := hide (hp.keep _ _ _ _ (unhide HX0) (by decide) (by decide))
  have HX1 := hide (hp.keep _ _ _ _ (unhide HX1) (by decide) (by decide))
  clear hp hw x60 y60 x61 y61
  obtain ⟨x70, y70⟩ := boxA (unhide HX0)
  obtain ⟨x71, y71⟩ := boxA (unhide HX1)
  go_wp2_with fail
  refine (write_any w7 B gw _ _ _ _ _ (unhide HW7) (by have := unhide HL; simp [lookOps_len]; omega)).mono ?_
  rintro e w8 ⟨rfl, hp, hw⟩
  have HP8 := hide ((unhide HP7).trans hp)
  have HW8 := hide hw
  have HX0 := hide (hp.keep _ _ _ _ (unhide HX0) (by decide) (by decide))
  have HX1 := hide (hp.keep _ _ _ _ (unhide HX1) (by decide) (by decide))
  clear hp hw x70 y70 x71 y71
  obtain ⟨x80, y80⟩ := boxA (unhide HX0)
  obtain ⟨x81, y81⟩ := boxA (unhide HX1)
  go_wp2_with fail
  refine (look_w w8 B gw _ _ _ (unhide HW8) (by have := unhide HL; simp [lookOps_len]; omega)).mono ?_
  rintro e w9 ⟨rfl, hp, hw⟩
  have HP9 := hide ((unhide HP8).trans hp)
  have HW9 := hide hw
  have HX0 := hide (hp.keep _ _ _ _ (unhide HX0) (by decide) (by decide))
  have HX1 := hide (hp.keep _ _ _ _ (unhide HX1) (by decide) (by decide))
  clear hp hw x80 y80 x81 y81
  obtain ⟨x90, y90⟩ := boxA (unhide HX0)
  obtain ⟨x91, y91⟩ := boxA (unhide HX1)
  go_wp2_with fail
  refine (write_any w9 B gw _ _ _ _ _ (unhide HW9) (by have := unhide HL; simp [lookOps_len]; omega)).mono ?_
  rintro e w10 ⟨rfl, hp, hw⟩
  have HP10 := hide ((unhide HP9).trans hp)
  have HW10 := hide hw
  have HX0 := hide (hp.keep _ _ _ _ (unhide HX0) (by decide) (by decide))
  have HX1 := hide (hp.keep _ _ _ _ (unhide HX1) (by decide) (by decide))
  clear hp hw x90 y90 x91 y91
  obtain ⟨x100, y100⟩ := boxA (unhide HX0)
  obtain ⟨x101, y101⟩ := boxA (unhide HX1)
  go_wp2_with fail
  refine (write_any w10 B gw _ _ _ _ _ (unhide HW10) (by have := unhide HL; simp [lookOps_len]; omega)).mono ?_
  rintro e w11 ⟨rfl, hp, hw⟩
  have HP11 := hide ((unhide HP10).trans hp)
  have HW11 := hide hw
  have HX0 := hide (hp.keep _ _ _ _ (unhide HX0) (by decide) (by decide))
  have HX1 := hide (hp.keep _ _ _ _ (unhide HX1) (by decide) (by decide))
  clear hp hw x100 y100 x101 y101
  obtain ⟨x110, y110⟩ := boxA (unhide HX0)
  obtain ⟨x111, y111⟩ := boxA (unhide HX1)
  go_wp2_with fail
  refine (write_any w11 B gw _ _ _ _ _ (unhide HW11) (by have := unhide HL; simp [lookOps_len]; omega)).mono ?_
  rintro e w12 ⟨rfl, hp, hw⟩
  have HP12 := hide ((unhide HP11).trans hp)
  have HW12 := hide hw
  have HX0 := hide (hp.keep _ _ _ _ (unhide HX0) (by decide) (by decide))
  have HX1 := hide (hp.keep _ _ _ _ (unhide HX1) (by decide) (by decide))
  clear hp hw x110 y110 x111 y111
  go_wp2_with fail
  go_end0
  exact ⟨rfl, unhide HP12, (unhide HW12).to (by simp [readByteOps, opN, lookOps_len])⟩

set_option maxRecDepth 20000 in
set_option maxHeartbeats 1000000 in
theorem addMark_w (w : World) (B gw : Nat) (os : List OpI) (x y : Nat) (h : WB w B gw os) (hl : os.length ≤ 99000) :
    Calls Try.prog 77 #[.pointer (some ⟨gw, 0, none⟩), arV x y] w fun e w' => e = .returned (.tuple #[]) ∧ PresW B w w' ∧ WB w' B gw (os ++ addMarkOps x y os.length) := by
  have hgw := h.lt
  have HSZ : Hid (B ≤ w.heap.size) := by have := h.hB; show _ ≤ _; omega
  have hb0 := h.alloc (Obj.cells #[.int .i64 (x : Int), .int .i64 (y : Int)] 131)
  have HP0 : Hid (PresW B w (w.alloc (Obj.cells #[.int .i64 (x : Int), .int .i64 (y : Int)] 131))) := PresW.alloc B w _ (unhide HSZ)
  have HX0 : Hid ((w.alloc (Obj.cells #[.int .i64 (x : Int), .int .i64 (y : Int)] 131)).heap[w.heap.size]? = some (Obj.cells #[.int .i64 (x : Int), .int .i64 (y : Int)] 131 (0, 0))) := heap_alloc_new _ _
  have HW0 := hide hb0
  have HL := hide hl
  clear h hl hb0
  unfold arV
  go_enter Try.func77, Try.ntmps77
  go_wp2_with fail
  refine (write_any (w.alloc (Obj.cells #[.int .i64 (x : Int), .int .i64 (y : Int)] 131)) B gw _ _ _ _ _ (unhide HW0) (by have := unhide HL; omega)).mono ?_
  rintro e w1 ⟨rfl, hp, hw⟩
  have HP1 := hide ((unhide HP0).trans hp)
  have HW1 := hide hw
  have HX0 := hide (hp.keep _ _ _ _ (unhide HX0) (by decide) (by decide))
  clear hp hw
  obtain ⟨x10, y10⟩ := boxA (unhide HX0)
  go_wp2_with fail
  refine (look_w w1 B gw _ _ _ (unhide HW1) (by have := unhide HL; simp; omega)).mono ?_
  rintro e w2 ⟨rfl, hp, hw⟩
  have HP2 := hide ((unhide HP1).trans hp)
  have HW2 := hide hw
  have HX0 := hide (hp.keep _ _ _ _ (unhide HX0) (by decide) (by decide))
  clear hp hw x10 y10
  obtain ⟨x20, y20⟩ := boxA (unhide HX0)
  go_wp2_with fail
  refine (write_any w2 B gw _ _ _ _ _ (unhide HW2) (by have := unhide HL; simp [lookOps_len]; omega)).mono ?_
  rintro e w3 ⟨rfl, hp, hw⟩
  have HP3 := hide ((unhide HP2).trans hp)
  have HW3 := hide hw
  have HX0 := hide (hp.keep _ _ _ _ (unhide HX0) (by decide) (by decide))
  clear hp hw x20 y20
  go_wp2_with fail
  go_end0
  exact ⟨rfl, unhide HP3, (unhide HW3).to (by simp [addMarkOps, opN])⟩

end Mc
end Go.Proofs.Ytohefinejdfhaab
