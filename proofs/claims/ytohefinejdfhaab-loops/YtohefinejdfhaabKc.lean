/-
  The small functions of the statements without the document's answer; Match of a text that is put together.
-/
import Derived.Test.YtohefinejdfhaabWn
import Derived.Test.YtohefinejdfhaabKb
import Derived.Deep.QuietTactic
import Derived.BigQuiet
namespace Go.Proofs.Ytohefinejdfhaab
open Go.RowKit
attribute [local go_sem ↓] Go.wp_at_zero Go.wp_at_succ

theorem bytesN_app (a b : ByteArray) : bytesN (a ++ b) = bytesN a ++ bytesN b := by simp [bytesN]
theorem bytesN_lt (a : ByteArray) : ∀ c ∈ bytesN a, c < 256 := by
  intro c hc
  unfold bytesN at hc
  rw [List.mem_map] at hc
  obtain ⟨b, _, rfl⟩ := hc
  exact b.toNat_lt
theorem bytesN_inj {a b : ByteArray} (h : bytesN a = bytesN b) : a = b := by
  have : a.data.toList = b.data.toList := List.map_inj_right (fun x y e => UInt8.toNat_inj.1 e) |>.1 h
  exact ByteArray.ext (Array.toList_inj.1 this)
theorem bytesN_ext (a : ByteArray) (n m : Nat) : bytesN (a.extract n m) = (bytesN a).extract n m := by
  unfold bytesN; rw [ByteArray.data_extract, Array.toList_extract, List.extract_eq_take_drop, List.extract_eq_take_drop, List.map_take, List.map_drop]
theorem atW_all (p : ByteArray) : AtW p 0 (bytesN p) := by
  refine ⟨by rw [bytesN_len]; omega, fun i c hi => ?_⟩
  have hl := (List.getElem?_eq_some_iff.1 hi).1
  have hl' : i < p.size := by rw [bytesN_len] at hl; exact hl
  rw [Nat.zero_add, byteAt_eq hl', ← bytesN_at p i hl' hl]
  rw [List.getElem?_eq_getElem hl] at hi
  rw [Option.some.inj hi]

/-- A text that is put together is matched by the strings of its value. -/
theorem match_text (w : World) (p s : ByteArray) (x : List Nat) (v : Val) (hG : Gp x v) (hx : bytesN p = x) (hp : p.size ≤ 60) (hw : v.2 ≤ 12) (hs : s.size ≤ 16) :
    Calls Try.prog 11 #[.string p, .string s] w fun e w' => (∃ b, e = .returned (.tuple #[.bool b, .int .i64 0]) ∧ (b = true ↔ v.1 (bytesN s))) ∧ Below w.heap.size w w' := by
  refine (VMatch_any w p s hp hs).mono ?_
  rintro e w' ⟨y, i, b, hr, rfl, hb, -, h0⟩
  subst hx
  obtain ⟨g1, g2⟩ := hG.answer hp (atW_all p) (bytesN_len p) hw hr
  obtain ⟨n, rs, k, S, f1, f2, f3⟩ := h0 g1
  rw [g1]
  exact ⟨⟨b, rfl, by rw [f3, g2 n rs k S f1 f2]⟩, hb⟩

set_option maxHeartbeats 400000 in
theorem says_any (w : World) (p s : ByteArray) (want : Bool) (x : List Nat) (v : Val) (hG : Gp x v) (hx : bytesN p = x) (hp : p.size ≤ 60) (hw : v.2 ≤ 12) (hs : s.size ≤ 16) (hwant : want = true ↔ v.1 (bytesN s)) :
    Calls Try.prog 13 #[.string p, .string s, .bool want] w fun e w' => e = .returned (.bool true) ∧ Below w.heap.size w w' := by
  have HM := hide (match_text w p s x v hG hx hp hw hs)
  have HW := hide hwant
  clear hG hx hp hw hs hwant
  go_enter Try.func13, Try.ntmps13
  go_wp2_with fail
  refine (unhide HM).mono ?_
  rintro e w1 ⟨⟨b, rfl, hb⟩, hw1⟩
  have : b = want := by rw [Bool.eq_iff_iff, hb, unhide HW]
  subst this
  clear hb HM
  go_wp2
  go_ret
  exact ⟨ret_bool (by simp), hw1⟩

set_option maxHeartbeats 400000 in
theorem short_any (w : World) (s : ByteArray) (n : Nat) (hn : n ≤ 1000) :
    Calls Try.prog 10 #[.string s, .int .i64 (n : Int)] w fun e w' => (∃ u : ByteArray, e = .returned (.string u) ∧ u.size ≤ n ∧ bytesN u = (bytesN s).take n) ∧ w' = w := by
  have hnI : (n : Int) ≤ 1000 := by omega
  by_cases hl : n < s.size
  · have hlI : (n : Int) < (s.size : Int) := by omega
    clear hn
    go_enter Try.func10, Try.ntmps10
    go_wp2
    go_ret
    refine ⟨⟨s.extract 0 n, rfl, by rw [size_ext (by omega)]; omega, ?_⟩, rfl⟩
    rw [bytesN_ext, List.extract_eq_take_drop]; simp
  · have hlI : (s.size : Int) ≤ (n : Int) := by omega
    clear hn
    go_enter Try.func10, Try.ntmps10
    go_wp2
    go_ret
    exact ⟨⟨s, rfl, by omega, by rw [List.take_of_length_le (by rw [bytesN_len]; omega)]⟩, rfl⟩

def picked (c n : Int) : Int := (if c < 0 then -(c + 1) else c) % n
theorem picked_bd (c : Int) {n : Int} (hn : 0 < n) : 0 ≤ picked c n ∧ picked c n < n := ⟨Int.emod_nonneg _ (by omega), Int.emod_lt_of_pos _ hn⟩

set_option maxHeartbeats 400000 in
theorem pick_any (w : World) (c : Int) (n : Int) (h1 : -9223372036854775808 ≤ c) (h2 : c ≤ 9223372036854775807) (hn : 0 < n) (hn2 : n ≤ 1000) :
    Calls Try.prog 15 #[.int .i64 c, .int .i64 n] w fun e w' => e = .returned (.int .i64 (picked c n)) ∧ w' = w := by
  by_cases hc : c < 0
  · have e : picked c n = (-(c + 1)) % n := by unfold picked; rw [if_pos hc]
    go_enter Try.func15, Try.ntmps15
    go_wp2
    go_ret
    exact ⟨ret_int (by rw [e, ← Int.tmod_eq_emod_of_nonneg (by omega), Int.neg_tmod]), rfl⟩
  · have e : picked c n = c % n := by unfold picked; rw [if_neg hc]
    go_enter Try.func15, Try.ntmps15
    go_wp2
    go_ret
    exact ⟨ret_int (by first | rfl | rw [e]), rfl⟩

def digitsB : ByteArray := { data := #[48, 49, 50, 51, 52, 53, 54, 55, 56, 57, 97, 98, 99, 100, 101, 102] }
theorem digits_at : ∀ k, k < 16 → bytesN (digitsB.extract k (k + 1)) = [hexd k] := by decide

theorem below_drewN {B : Nat} {a w : World} (h : Below B a w) (n : Nat) : Below B a (w.drewN n) := ⟨h.os, h.tape, h.output, h.size, h.block⟩

theorem same_bytes (u v : ByteArray) : (u.toList == v.toList) = true ↔ bytesN v = bytesN u := by
  rw [ByteArray.toList_eq, ByteArray.toList_eq, beq_iff_eq]
  constructor
  · intro h; rw [ByteArray.ext (Array.toList_inj.1 h)]
  · intro h; rw [bytesN_inj h]

theorem no_iff {P : Prop} (h : ¬ P) : (false = true ↔ P) := ⟨fun e => Bool.noConfusion e, fun p => absurd p h⟩
theorem yes_iff {P : Prop} (h : P) : (true = true ↔ P) := ⟨fun _ => h, fun _ => rfl⟩

end Go.Proofs.Ytohefinejdfhaab
