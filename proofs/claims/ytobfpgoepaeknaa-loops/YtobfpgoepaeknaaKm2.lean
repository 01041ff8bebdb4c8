/-
  The law Loops: times, from one on.
-/
import Derived.Test.YtobfpgoepaeknaaKm1
import Derived.Deep.DeepCutAuto
namespace Go.Proofs.Ytobfpgoepaeknaa
open Go.RowKit
attribute [local go_sem ↓] Go.wp_at_zero Go.wp_at_succ

set_option maxRecDepth 20000 in
set_option maxHeartbeats 4000000 in
theorem times_succ_any (w : World) (p s : ByteArray) (i j : Nat) (x : List Nat) (v : Val) (hA : Ga x v) (hx : bytesN p = x) (hp : p.size ≤ 42) (hn : i + 1 ≤ 9) (hj : j ≤ i) (h1 : 1 ≤ v.2) (h2 : v.2 * ((i + 1 : Nat) : Int) ≤ 12) (hs : s.size ≤ 16) :
    Calls Try.prog 19 #[.string p, .int .i64 ((j + 1 : Nat) : Int), .int .i64 ((i + 1 : Nat) : Int), .string s] w fun e w' => e = .returned (.bool true) ∧ Below w.heap.size w w' := by
  have h3 : v.2 ≤ 12 := by
    have : v.2 * 1 ≤ v.2 * ((i + 1 : Nat) : Int) := Int.mul_le_mul_of_nonneg_left (by omega) (by omega)
    omega
  have HT := hide (fun w y hy => says_times w (m := j + 1) (n := i + 1) (s := s) (y := y) hA hx (by omega) hn hp (times_wt (m := j + 1) h1 h2 (Nat.le_refl _)) hs (Iff.trans hy (times_cutS j i v.1 (bytesN s)).symm))
  have HF : Hid (∀ w, Calls Try.prog 18 #[.string p, .string (timesB p j i), .string s, .int .i64 0] w fun e w' => (∃ b, e = .returned (.tuple #[.bool b, .bool true]) ∧ (b = true ↔ catL v.1 (timesL j i v.1) (bytesN s))) ∧ Below w.heap.size w w') := by
    intro w
    refine (follows_any w p (timesB p j i) s 0 _ _ v (timesV j i v) hA.i.b.p hx (by omega) h3 (Gp.times hA (by omega) (by omega)) (timesB_bytes hx (by omega) (by omega)) (timesB_size hx (by omega) (by omega) hp) (times_wt (m := j) h1 h2 (by omega)) hs (Nat.zero_le _)).mono ?_
    rintro e w' ⟨⟨b, rfl, hb⟩, hw'⟩
    refine ⟨⟨b, rfl, ?_⟩, hw'⟩
    rw [hb, ← bytesN_len, cut_cat0]
    exact Iff.rfl
  have hiI : (i : Int) ≤ 8 := by omega
  have wi0 : IntKind.i64.wrap (i : Int) = (i : Int) := wrap_i64 i (by unfold top; omega)
  have wi1 : IntKind.i64.wrap ((i : Int) + 1) = (i : Int) + 1 := by have := wrap_i64 (i + 1) (by unfold top; omega); push_cast at this; exact this
  have hjI : (j : Int) ≤ 8 := by omega
  have hji : (j : Int) ≤ (i : Int) := by omega
  have wj0 : IntKind.i64.wrap (j : Int) = (j : Int) := wrap_i64 j (by unfold top; omega)
  have wj1 : IntKind.i64.wrap ((j : Int) + 1) = (j : Int) + 1 := by have := wrap_i64 (j + 1) (by unfold top; omega); push_cast at this; exact this
  obtain ⟨d0, hd0⟩ : ∃ d, ({ data := #[48, 49, 50, 51, 52, 53, 54, 55, 56, 57, 97, 98, 99, 100, 101, 102] } : ByteArray).extract j (j + 1) = d := ⟨_, rfl⟩
  obtain ⟨d1, hd1⟩ : ∃ d, ({ data := #[48, 49, 50, 51, 52, 53, 54, 55, 56, 57, 97, 98, 99, 100, 101, 102] } : ByteArray).extract i (i + 1) = d := ⟨_, rfl⟩
  obtain ⟨d2, hd2⟩ : ∃ d, ({ data := #[48, 49, 50, 51, 52, 53, 54, 55, 56, 57, 97, 98, 99, 100, 101, 102] } : ByteArray).extract (i + 1) (i + 1 + 1) = d := ⟨_, rfl⟩
  obtain ⟨d3, hd3⟩ : ∃ d, ({ data := #[48, 49, 50, 51, 52, 53, 54, 55, 56, 57, 97, 98, 99, 100, 101, 102] } : ByteArray).extract (j + 1) (j + 1 + 1) = d := ⟨_, rfl⟩
  have z0 : d0.size = 1 := by rw [← hd0, size_ext (by show j + 1 ≤ 16; omega)]; omega
  have z1 : d1.size = 1 := by rw [← hd1, size_ext (by show i + 1 ≤ 16; omega)]; omega
  have z2 : d2.size = 1 := by rw [← hd2, size_ext (by show i + 1 + 1 ≤ 16; omega)]; omega
  have z3 : d3.size = 1 := by rw [← hd3, size_ext (by show j + 1 + 1 ≤ 16; omega)]; omega
  have y1 : p.size + 1 ≤ 9223372036854775807 := by omega
  have y2 : p.size + 1 + 1 ≤ 9223372036854775807 := by omega
  have y3 : p.size + 1 + 1 + 1 ≤ 9223372036854775807 := by omega
  have y4 : p.size + 1 + 1 + 1 + 1 ≤ 9223372036854775807 := by omega
  have y5 : p.size + 1 + 1 + 1 + 1 + 1 ≤ 9223372036854775807 := by omega
  have HTB : Hid (timesB p j i = p ++ { data := #[123] } ++ d0 ++ { data := #[44] } ++ d1 ++ { data := #[125] }) := by show _ = _; rw [← hd0, ← hd1]; rfl
  have HTC : Hid (timesB p (j + 1) (i + 1) = p ++ { data := #[123] } ++ d3 ++ { data := #[44] } ++ d2 ++ { data := #[125] }) := by show _ = _; rw [← hd3, ← hd2]; rfl
  rw [unhide HTB] at HF
  rw [unhide HTC] at HT
  clear hA hx h1 hs h2 hn h3 hj
  go_enter Try.func19, Try.ntmps19
  go_wp2
  go_quiet (fail)
  go_upto_region 9 with fail
  go_cut [11, 12] (fun bx ox wx => ∃ b : Bool, bx = .bool b ∧ ox = .bool true ∧ Hid (b = true ↔ catL v.1 (timesL j i v.1) (bytesN s)) ∧ Below w.heap.size w wx)
  case first =>
    go_region_with (go_at_call 18; refine (unhide HF _).mono ?_; rintro e w2 ⟨⟨b, rfl, hb⟩, hw2⟩)
    all_goals
      go_wp2_with fail
      go_meet
      exact ⟨b, rfl, rfl, hb, Below.trans (by exact (below_drewN (Below.refl w.heap.size w) _)) hw2⟩
  case rest =>
    rename World => wx
    obtain ⟨b, rfl, rfl, HB, hwx⟩ := hcut
    have HW := hide hwx
    clear hwx HF
    cases b
    · have HX : Hid (¬ catL v.1 (timesL j i v.1) (bytesN s)) := fun hc => Bool.noConfusion ((unhide HB).2 hc)
      clear HB
      go_wp2_with fail
      refine (unhide HT _ false (no_iff (unhide HX))).mono ?_
      rintro e w3 ⟨rfl, hw3⟩
      go_wp2
      go_ret
      exact ⟨rfl, (unhide HW).trans (hw3.mono (unhide HW).size)⟩
    · have HX : Hid (catL v.1 (timesL j i v.1) (bytesN s)) := (unhide HB).1 rfl
      clear HB
      go_wp2_with fail
      refine (unhide HT _ true (yes_iff (unhide HX))).mono ?_
      rintro e w3 ⟨rfl, hw3⟩
      go_wp2
      go_ret
      exact ⟨rfl, (unhide HW).trans (hw3.mono (unhide HW).size)⟩

theorem times_any (w : World) (p s : ByteArray) (m n : Nat) (x : List Nat) (v : Val) (hA : Ga x v) (hx : bytesN p = x) (hp : p.size ≤ 42) (hm : m ≤ 9) (hn : n ≤ 9) (h1 : 1 ≤ v.2) (h2 : v.2 * (n : Int) ≤ 12) (hs : s.size ≤ 16) :
    Calls Try.prog 19 #[.string p, .int .i64 (m : Int), .int .i64 (n : Int), .string s] w fun e w' => e = .returned (.bool true) ∧ Below w.heap.size w w' := by
  by_cases c1 : n < m
  · exact times_over_any w p s m n x v hA hx hp hm hn h1 h2 hs c1
  · cases n with
    | zero =>
      have : m = 0 := by omega
      subst this
      exact times_none_any w p s x v hA hx hp h1 hs
    | succ i =>
      cases m with
      | zero => exact times_zero_any w p s i x v hA hx hp hn h1 h2 hs
      | succ j => exact times_succ_any w p s i j x v hA hx hp hn (by omega) h1 h2 hs

end Go.Proofs.Ytobfpgoepaeknaa
