/-
  veilref.digit, veilref.formPlace.
-/
import Derived.Test.YtnkdbcicphnmiaaT10
namespace Go.Proofs.Ytnkdbcicphnmiaa
namespace Mc
open Go.RowKit
attribute [local go_sem ↓] Go.wp_at_zero Go.wp_at_succ

/-- What formPlace answers. -/
def fpl : Option Nat → Int
  | none => -1
  | some k => (k : Int)
def isD (b : Nat) : Bool := decide (48 ≤ b ∧ b ≤ 57)
set_option maxRecDepth 20000 in
theorem digit_any (w : World) (b : Nat) : Calls Try.prog 96 #[.int .u8 (b : Int)] w fun e w' => e = .returned (.bool (isD b)) ∧ w' = w := by
  unfold isD
  have hc : (48 ≤ (b : Int) ∧ (b : Int) ≤ 57 ∧ (48 ≤ b ∧ b ≤ 57)) ∨ (48 ≤ (b : Int) ∧ 57 < (b : Int) ∧ ¬ (48 ≤ b ∧ b ≤ 57)) ∨ ((b : Int) < 48 ∧ (b : Int) < 48 ∧ ¬ (48 ≤ b ∧ b ≤ 57)) := by omega
  rcases hc with ⟨i1, i2, i3⟩ | ⟨i1, i2, i3⟩ | ⟨i1, i2, i3⟩
  · rw [decide_eq_true i3]
    clear i3
    go_enter Try.func96, Try.ntmps96
    go_wp2
    go_ret
    exact ⟨rfl, rfl⟩
  · rw [decide_eq_false i3]
    clear i3
    go_enter Try.func96, Try.ntmps96
    go_wp2
    go_ret
    exact ⟨by simpa using i2, rfl⟩
  · rw [decide_eq_false i3]
    clear i3
    go_enter Try.func96, Try.ntmps96
    go_wp2
    go_ret
    exact ⟨rfl, rfl⟩
theorem ft0 (R o b : Nat) : ftake R o 0 b = (fbeg R b).map fun d' => (o, d') := by unfold ftake; rw [if_pos rfl]
theorem ft2 {R o b : Nat} (ho : o ≠ 0) (hb : b ≠ 41) : ftake R o 2 b = (fbeg R b).map fun d' => (o, d') := by unfold ftake; rw [if_neg (by decide), if_neg (by decide), if_neg ho, if_neg hb]
theorem ft41 {R o : Nat} (ho : o ≠ 0) : ftake R o 2 41 = some (o - 1, 2) := by unfold ftake; rw [if_neg (by decide), if_neg (by decide), if_neg ho, if_pos rfl]
theorem fb_let {R b : Nat} (h1 : 97 ≤ b) (h2 : b < 97 + R) : fbeg R b = some 2 := by unfold fbeg; rw [if_pos ⟨h1, h2⟩]
theorem fb_bang (R : Nat) : fbeg R 33 = some 0 := by unfold fbeg; rw [if_neg (by omega), if_pos rfl]
theorem fb_dig {R b : Nat} (h1 : 48 ≤ b) (h2 : b ≤ 57) : fbeg R b = some 1 := by unfold fbeg; rw [if_neg (by omega), if_neg (by omega), if_pos ⟨h1, h2⟩]
theorem fb_no {R b : Nat} (h1 : ¬ (97 ≤ b ∧ b < 97 + R)) (h2 : b ≠ 33) (h3 : ¬ (48 ≤ b ∧ b ≤ 57)) : fbeg R b = none := by unfold fbeg; rw [if_neg h1, if_neg h2, if_neg h3]
/-- What is due, by need and head. -/
def NH (d : Nat) (nd hd : Bool) : Prop := (d = 0 ∧ nd = true ∧ hd = false) ∨ (d = 1 ∧ hd = true) ∨ (d = 2 ∧ nd = false ∧ hd = false)
theorem fscan_none {R : Nat} {T : ByteArray} {i o d : Nat} (hi : i < T.size) (h : ftake R o d (bt T i) = none) : fscan R T (T.size - i) i o d = some i := by
  rw [show T.size - i = (T.size - (i + 1)) + 1 by omega, fscan, h]
theorem fscan_some {R : Nat} {T : ByteArray} {i o d o' d' : Nat} (hi : i < T.size) (h : ftake R o d (bt T i) = some (o', d')) : fscan R T (T.size - i) i o d = fscan R T (T.size - (i + 1)) (i + 1) o' d' := by
  rw [show T.size - i = (T.size - (i + 1)) + 1 by omega, fscan, h]
/-- The loop's state. -/
def FpI (R : Nat) (T : ByteArray) (i o d : Nat) (nd hd : Bool) : Prop := i ≤ T.size ∧ o ≤ i ∧ NH d nd hd ∧ fscan R T (T.size - i) i o d = fscan R T T.size 0 0 0
theorem FpI.next {R : Nat} {T : ByteArray} {i o d : Nat} {nd hd : Bool} (h : FpI R T i o d nd hd) (hi : i < T.size) {o' d' : Nat} (ht : ftake R o d (bt T i) = some (o', d')) (ho : o' ≤ o + 1) {nd' hd' : Bool} (hn : NH d' nd' hd') : FpI R T (i + 1) o' d' nd' hd' := by
  obtain ⟨h1, h2, h3, h4⟩ := h
  exact ⟨hi, by omega, hn, by rw [← fscan_some hi ht]; exact h4⟩
theorem FpI.stop {R : Nat} {T : ByteArray} {i o d : Nat} {nd hd : Bool} (h : FpI R T i o d nd hd) (hi : i < T.size) (ht : ftake R o d (bt T i) = none) : (i : Int) = fpl (fscan R T T.size 0 0 0) := by
  obtain ⟨h1, h2, h3, h4⟩ := h
  rw [← h4, fscan_none hi ht]; rfl

set_option maxRecDepth 20000 in
set_option maxHeartbeats 4000000 in
theorem formPlace_any (w : World) (T : ByteArray) (R : Nat) (hR : R ≤ 100) (hT : T.size ≤ 100000) :
    Calls Try.prog 62 #[.string T, .int .i64 (R : Int)] w fun e w' => e = .returned (.int .i64 (fpl (fscan R T T.size 0 0 0))) ∧ w' = w := by
  have hTI : (T.size : Int) ≤ 100000 := by omega
  have hRI : (R : Int) ≤ 100 := by omega
  go_enter Try.func62, Try.ntmps62
  go_wp2_with fail
  go_loop [5, 6, 7, 8] (fun ox nx hx ix => ∃ (i o d : Nat) (nd hd : Bool), ox = .int .i64 (o : Int) ∧ nx = .bool nd ∧ hx = .bool hd ∧ ix = .int .i64 (i : Int) ∧ Hid (FpI R T i o d nd hd)) (fun _ _ _ ix => lenLeft T.size ix)
  case atStart => exact ⟨0, 0, 0, true, false, rfl, rfl, rfl, rfl, Nat.zero_le _, Nat.zero_le _, Or.inl ⟨rfl, rfl, rfl⟩, rfl⟩
  case round =>
    obtain ⟨i, o, d, nd, hd, rfl, rfl, rfl, rfl, HH⟩ := hrel
    obtain ⟨hi, hoi, hnh, hsc⟩ := unhide HH
    have hoI : (o : Int) ≤ 100000 := by omega
    have ho0 : (0 : Int) ≤ (o : Int) := by omega
    by_cases hlt : i < T.size
    · have hltI : (i : Int) < (T.size : Int) := by omega
      have HLT := hide hlt
      have hbt := bt_at T i
      have hbI : ((bt T i : Nat) : Int) < 256 := by have := bt_le T i; omega
      have h0 : (0 : Int) ≤ (i : Int) := by omega
      have h1 : ((i : Int)).toNat = i := by omega
      have HDG := hide (digit_any w (bt T i))
      have HNX := hide (fun (o' d' : Nat) (nd' hd' : Bool) => (unhide HH).next hlt (o' := o') (d' := d') (nd' := nd') (hd' := hd'))
      have HST := hide ((unhide HH).stop hlt)
      have e1 : 97 ≤ bt T i → ((bt T i : Nat) : Int) - 97 = ((bt T i - 97 : Nat) : Int) := fun h => by omega
      have w1 : IntKind.u8.wrap ((bt T i - 97 : Nat) : Int) = ((bt T i - 97 : Nat) : Int) := u8_wrap _ (by have := bt_le T i; omega)
      have hbq : bt T i < 256 := bt_le T i
      generalize bt T i = b at *
      generalize hdg : isD b = dg at *
      unfold isD at hdg
      clear hi hoi hsc HH hlt
      rcases hnh with ⟨rfl, rfl, rfl⟩ | ⟨rfl, rfl⟩ | ⟨rfl, rfl, rfl⟩
      · skip
        have hc : (97 ≤ (b : Int) ∧ b < 97 + R ∧ ((b - 97 : Nat) : Int) < (R : Int)) ∨ (b : Int) = 33 ∨ (48 ≤ (b : Int) ∧ (b : Int) ≤ 57 ∧ dg = true) ∨ (97 ≤ (b : Int) ∧ ¬ b < 97 + R ∧ ¬ ((b - 97 : Nat) : Int) < (R : Int) ∧ dg = false) ∨ ((b : Int) < 97 ∧ ¬ (b : Int) = 33 ∧ ¬ (48 ≤ b ∧ b ≤ 57) ∧ (b : Int) = 41 ∧ dg = false) ∨ ((b : Int) < 97 ∧ ¬ (b : Int) = 33 ∧ ¬ (48 ≤ b ∧ b ≤ 57) ∧ ¬ (b : Int) = 41 ∧ dg = false) := by
          by_cases hh : 48 ≤ b ∧ b ≤ 57
          · rw [decide_eq_true hh] at hdg; subst hdg; simp; omega
          · rw [decide_eq_false hh] at hdg; subst hdg; simp; omega
        rcases hc with ⟨i1, i2, i3⟩ | i1 | ⟨i1, i2, i3⟩ | ⟨i1, i2, i3, i4⟩ | ⟨i1, i2, i3, i4, i5⟩ | ⟨i1, i2, i3, i4, i5⟩
        · have e2 := e1 (by omega)
          have HN := hide (unhide HNX o 2 false false (by rw [ft0, fb_let (by omega) (by omega)]; rfl) (by omega) (Or.inr (Or.inr ⟨rfl, rfl, rfl⟩)))
          clear HNX HST hdg e1 hbq
          go_wp2_with fail
          refine (unhide HDG).mono ?_
          rintro e w' ⟨rfl, hww⟩
          obtain rfl : w = w' := hww.symm
          clear hww
          go_wp2_with fail
          go_round
          case rel => exact ⟨i + 1, o, 2, false, false, rfl, rfl, rfl, by go_num, unhide HN⟩
          case measure => have := unhide HLT; simp [lenLeft, intOf]; omega
        · obtain rfl : b = 33 := by omega
          have HN := hide (unhide HNX o 0 true false (by rw [ft0, fb_bang]; rfl) (by omega) (Or.inl ⟨rfl, rfl, rfl⟩))
          clear HNX HST hdg e1 hbq
          go_wp2_with fail
          refine (unhide HDG).mono ?_
          rintro e w' ⟨rfl, hww⟩
          obtain rfl : w = w' := hww.symm
          clear hww
          go_wp2_with fail
          go_round
          case rel => exact ⟨i + 1, o, 0, true, false, rfl, rfl, rfl, by go_num, unhide HN⟩
          case measure => have := unhide HLT; simp [lenLeft, intOf]; omega
        · subst i3
          have HN := hide (unhide HNX o 1 true true (by rw [ft0, fb_dig (by omega) (by omega)]; rfl) (by omega) (Or.inr (Or.inl ⟨rfl, rfl⟩)))
          clear HNX HST hdg e1 hbq
          go_wp2_with fail
          refine (unhide HDG).mono ?_
          rintro e w' ⟨rfl, hww⟩
          obtain rfl : w = w' := hww.symm
          clear hww
          go_wp2_with fail
          go_round
          case rel => exact ⟨i + 1, o, 1, true, true, rfl, rfl, rfl, by go_num, unhide HN⟩
          case measure => have := unhide HLT; simp [lenLeft, intOf]; omega
        · subst i4
          have e2 := e1 (by omega)
          have HA := hide (unhide HST (by rw [ft0, fb_no (by omega) (by omega) (by omega)]; rfl))
          clear HNX HST hdg e1 hbq
          go_wp2_with fail
          refine (unhide HDG).mono ?_
          rintro e w' ⟨rfl, hww⟩
          obtain rfl : w = w' := hww.symm
          clear hww
          go_wp2_with fail
          go_ret
          exact ⟨ret_int (unhide HA), rfl⟩
        · subst i5
          obtain rfl : b = 41 := by omega
          have HA := hide (unhide HST (by rw [ft0, fb_no (by omega) (by omega) (by omega)]; rfl))
          clear HNX HST hdg e1 hbq
          go_wp2_with fail
          refine (unhide HDG).mono ?_
          rintro e w' ⟨rfl, hww⟩
          obtain rfl : w = w' := hww.symm
          clear hww
          go_wp2_with fail
          go_ret
          exact ⟨ret_int (unhide HA), rfl⟩
        · subst i5
          have HA := hide (unhide HST (by rw [ft0, fb_no (by omega) (by omega) (by omega)]; rfl))
          clear HNX HST hdg e1 hbq
          go_wp2_with fail
          refine (unhide HDG).mono ?_
          rintro e w' ⟨rfl, hww⟩
          obtain rfl : w = w' := hww.symm
          clear hww
          go_wp2_with fail
          go_ret
          exact ⟨ret_int (unhide HA), rfl⟩
      · have hc : ((b : Int) = 40 ∧ b = 40) ∨ (¬ (b : Int) = 40 ∧ b ≠ 40) := by omega
        rcases hc with ⟨i1, rfl⟩ | ⟨i1, i2⟩
        · have HN := hide (unhide HNX (o + 1) 0 true false (by simp [ftake]) (by omega) (Or.inl ⟨rfl, rfl, rfl⟩))
          clear HNX HST hdg e1 w1 hbq
          go_wp2_with fail
          refine (unhide HDG).mono ?_
          rintro e w' ⟨rfl, hww⟩
          obtain rfl : w = w' := hww.symm
          clear hww
          go_wp2_with fail
          go_round
          case rel => exact ⟨i + 1, o + 1, 0, true, false, by go_num, rfl, rfl, by go_num, unhide HN⟩
          case measure => have := unhide HLT; simp [lenLeft, intOf]; omega
        · have HA := hide (unhide HST (by simp [ftake, i2]))
          clear HNX HST hdg e1 w1 hbq
          go_wp2_with fail
          refine (unhide HDG).mono ?_
          rintro e w' ⟨rfl, hww⟩
          obtain rfl : w = w' := hww.symm
          clear hww
          go_wp2_with fail
          go_ret
          exact ⟨ret_int (unhide HA), rfl⟩
      · by_cases ho : o = 0
        · subst ho
          have HA := hide (unhide HST (by simp [ftake]))
          clear HNX HST hdg e1 hbq
          go_wp2_with fail
          refine (unhide HDG).mono ?_
          rintro e w' ⟨rfl, hww⟩
          obtain rfl : w = w' := hww.symm
          clear hww
          go_wp2_with fail
          go_ret
          exact ⟨ret_int (unhide HA), rfl⟩
        have hoP : (0 : Int) < (o : Int) := by omega
        have hoN : ¬ (o : Int) = 0 := by omega
        have hc : (97 ≤ (b : Int) ∧ b < 97 + R ∧ ((b - 97 : Nat) : Int) < (R : Int)) ∨ (b : Int) = 33 ∨ (48 ≤ (b : Int) ∧ (b : Int) ≤ 57 ∧ dg = true) ∨ ((b : Int) = 41 ∧ dg = false) ∨ (97 ≤ (b : Int) ∧ ¬ b < 97 + R ∧ ¬ ((b - 97 : Nat) : Int) < (R : Int) ∧ dg = false) ∨ ((b : Int) < 97 ∧ ¬ (b : Int) = 33 ∧ ¬ (48 ≤ b ∧ b ≤ 57) ∧ ¬ (b : Int) = 41 ∧ dg = false) := by
          by_cases hh : 48 ≤ b ∧ b ≤ 57
          · rw [decide_eq_true hh] at hdg; subst hdg; simp; omega
          · rw [decide_eq_false hh] at hdg; subst hdg; simp; omega
        rcases hc with ⟨i1, i2, i3⟩ | i1 | ⟨i1, i2, i3⟩ | ⟨i1, i2⟩ | ⟨i1, i2, i3, i4⟩ | ⟨i1, i2, i3, i4, i5⟩
        · have e2 := e1 (by omega)
          have HN := hide (unhide HNX o 2 false false (by rw [ft2 (by omega) (by omega), fb_let (by omega) (by omega)]; rfl) (by omega) (Or.inr (Or.inr ⟨rfl, rfl, rfl⟩)))
          clear HNX HST hdg e1 hbq
          go_wp2_with fail
          refine (unhide HDG).mono ?_
          rintro e w' ⟨rfl, hww⟩
          obtain rfl : w = w' := hww.symm
          clear hww
          go_wp2_with fail
          go_round
          case rel => exact ⟨i + 1, o, 2, false, false, rfl, rfl, rfl, by go_num, unhide HN⟩
          case measure => have := unhide HLT; simp [lenLeft, intOf]; omega
        · obtain rfl : b = 33 := by omega
          have HN := hide (unhide HNX o 0 true false (by rw [ft2 (by omega) (by omega), fb_bang]; rfl) (by omega) (Or.inl ⟨rfl, rfl, rfl⟩))
          clear HNX HST hdg e1 hbq
          go_wp2_with fail
          refine (unhide HDG).mono ?_
          rintro e w' ⟨rfl, hww⟩
          obtain rfl : w = w' := hww.symm
          clear hww
          go_wp2_with fail
          go_round
          case rel => exact ⟨i + 1, o, 0, true, false, rfl, rfl, rfl, by go_num, unhide HN⟩
          case measure => have := unhide HLT; simp [lenLeft, intOf]; omega
        · subst i3
          have HN := hide (unhide HNX o 1 false true (by rw [ft2 (by omega) (by omega), fb_dig (by omega) (by omega)]; rfl) (by omega) (Or.inr (Or.inl ⟨rfl, rfl⟩)))
          clear HNX HST hdg e1 hbq
          go_wp2_with fail
          refine (unhide HDG).mono ?_
          rintro e w' ⟨rfl, hww⟩
          obtain rfl : w = w' := hww.symm
          clear hww
          go_wp2_with fail
          go_round
          case rel => exact ⟨i + 1, o, 1, false, true, rfl, rfl, rfl, by go_num, unhide HN⟩
          case measure => have := unhide HLT; simp [lenLeft, intOf]; omega
        · obtain rfl : b = 41 := by omega
          subst i2
          have e3 : (o : Int) - 1 = ((o - 1 : Nat) : Int) := by omega
          have w3 := wrap_i64 (o - 1) (by omega)
          have HN := hide (unhide HNX (o - 1) 2 false false (ft41 (by omega)) (by omega) (Or.inr (Or.inr ⟨rfl, rfl, rfl⟩)))
          clear HNX HST hdg e1 hbq
          go_wp2_with fail
          refine (unhide HDG).mono ?_
          rintro e w' ⟨rfl, hww⟩
          obtain rfl : w = w' := hww.symm
          clear hww
          go_wp2_with fail
          go_round
          case rel => exact ⟨i + 1, (o - 1), 2, false, false, by go_num, rfl, rfl, by go_num, unhide HN⟩
          case measure => have := unhide HLT; simp [lenLeft, intOf]; omega
        · subst i4
          have e2 := e1 (by omega)
          have HA := hide (unhide HST (by rw [ft2 (by omega) (by omega), fb_no (by omega) (by omega) (by omega)]; rfl))
          clear HNX HST hdg e1 hbq
          go_wp2_with fail
          refine (unhide HDG).mono ?_
          rintro e w' ⟨rfl, hww⟩
          obtain rfl : w = w' := hww.symm
          clear hww
          go_wp2_with fail
          go_ret
          exact ⟨ret_int (unhide HA), rfl⟩
        · subst i5
          have HA := hide (unhide HST (by rw [ft2 (by omega) (by omega), fb_no (by omega) (by omega) (by omega)]; rfl))
          clear HNX HST hdg e1 hbq
          go_wp2_with fail
          refine (unhide HDG).mono ?_
          rintro e w' ⟨rfl, hww⟩
          obtain rfl : w = w' := hww.symm
          clear hww
          go_wp2_with fail
          go_ret
          exact ⟨ret_int (unhide HA), rfl⟩
    · have hi2 : i = T.size := by omega
      have hltI : ¬ (i : Int) < (T.size : Int) := by omega
      have hz : T.size - i = 0 := by omega
      rw [hz, fscan] at hsc
      rcases hnh with ⟨rfl, rfl, rfl⟩ | ⟨rfl, rfl⟩ | ⟨rfl, rfl, rfl⟩
      · rw [if_pos (Or.inr (by decide))] at hsc
        have HA : Hid ((T.size : Int) = fpl (fscan R T T.size 0 0 0)) := by show _ = _; rw [← hsc, hi2]; rfl
        clear hi hoi hsc hz HH hi2
        go_wp2_with fail
        go_ret
        exact ⟨ret_int (unhide HA), rfl⟩
      · rw [if_pos (Or.inr (by decide))] at hsc
        have HA : Hid ((T.size : Int) = fpl (fscan R T T.size 0 0 0)) := by show _ = _; rw [← hsc, hi2]; rfl
        clear hi hoi hsc hz HH hi2
        cases nd
        all_goals
          go_wp2_with fail
          go_ret
          exact ⟨ret_int (unhide HA), rfl⟩
      · by_cases ho : o = 0
        · subst ho
          rw [if_neg (by decide)] at hsc
          have HA : Hid ((-1 : Int) = fpl (fscan R T T.size 0 0 0)) := by show _ = _; rw [← hsc]; rfl
          clear hi hoi hsc hz HH hi2
          go_wp2_with fail
          go_ret
          exact ⟨ret_int (unhide HA), rfl⟩
        · rw [if_pos (Or.inl (by omega))] at hsc
          have hoP : (0 : Int) < (o : Int) := by omega
          have HA : Hid ((T.size : Int) = fpl (fscan R T T.size 0 0 0)) := by show _ = _; rw [← hsc, hi2]; rfl
          clear hi hoi hsc hz HH hi2 ho
          go_wp2_with fail
          go_ret
          exact ⟨ret_int (unhide HA), rfl⟩

end Mc
end Go.Proofs.Ytnkdbcicphnmiaa
