/-
  The rules that are true, as the bits of a number.
  veilref.digit, veilref.formPlace.
  veilref.tableSize.
  veilref.formula: whether a formula is true.
  The document's reader of formulas and the program's agree; veilref.step, veilref.granted.
-/
import Derived.Test.YtlafngfoejngaaaQb
namespace Go.Proofs.Ytlafngfoejngaaa
namespace Mc
open Go.RowKit

theorem sumG_snoc : ∀ (l : List Bool) (i : Nat) (b : Bool), sumG i (l ++ [b]) = sumG i l + if b then 2 ^ (i + l.length) else 0
  | [], i, b => by simp [sumG]
  | c :: l, i, b => by
    rw [List.cons_append, sumG, sumG, sumG_snoc l (i + 1) b, List.length_cons, show i + 1 + l.length = i + (l.length + 1) by omega]
    omega
theorem sumG_bit : ∀ (l : List Bool) (k : Nat), sumG 0 l / 2 ^ k % 2 = (l.getD k false).toNat
  | [], k => by simp [sumG]
  | b :: l, 0 => by
    rw [sumG, sumG_succ]
    cases b <;> simp <;> omega
  | b :: l, k + 1 => by
    rw [sumG, sumG_succ, Nat.pow_succ, Nat.mul_comm (2 ^ k) 2, ← Nat.div_div_eq_div_mul]
    have e : ((if b then 2 ^ 0 else 0) + 2 * sumG 0 l) / 2 = sumG 0 l := by cases b <;> simp <;> omega
    rw [e, sumG_bit l k]
    rfl
theorem sumG_or (l : List Bool) : sumG 0 l ||| 2 ^ l.length = sumG 0 l + 2 ^ l.length := by
  have h := sumG_lt l 0
  rw [Nat.zero_add, Nat.pow_zero] at h
  have := Nat.two_pow_add_eq_or_of_lt (i := l.length) (b := sumG 0 l) (by omega) 1
  rw [Nat.mul_one] at this
  rw [Nat.or_comm, ← this, Nat.add_comm]
theorem sumG_le (l : List Bool) (h : l.length ≤ 4) : sumG 0 l ≤ 15 := by
  have h1 := sumG_lt l 0
  rw [Nat.zero_add, Nat.pow_zero] at h1
  have : 2 ^ l.length ≤ 2 ^ 4 := Nat.pow_le_pow_right (by decide) h
  omega

end Mc
end Go.Proofs.Ytlafngfoejngaaa
namespace Go.Proofs.Ytlafngfoejngaaa
namespace Mc
open Go.RowKit
attribute [local go_sem ↓] Go.wp_at_zero Go.wp_at_succ

/-- What formPlace answers. -/
def fpl : Option Nat → Int
  | none => -1
  | some k => (k : Int)
def isD (b : Nat) : Bool := decide (48 ≤ b ∧ b ≤ 57)
set_option maxRecDepth 20000 in
theorem digit_any (w : World) (b : Nat) : Calls Try.prog 53 #[.int .u8 (b : Int)] w fun e w' => e = .returned (.bool (isD b)) ∧ w' = w := by
  unfold isD
  have hc : (48 ≤ (b : Int) ∧ (b : Int) ≤ 57 ∧ (48 ≤ b ∧ b ≤ 57)) ∨ (48 ≤ (b : Int) ∧ 57 < (b : Int) ∧ ¬ (48 ≤ b ∧ b ≤ 57)) ∨ ((b : Int) < 48 ∧ (b : Int) < 48 ∧ ¬ (48 ≤ b ∧ b ≤ 57)) := by omega
  rcases hc with ⟨i1, i2, i3⟩ | ⟨i1, i2, i3⟩ | ⟨i1, i2, i3⟩
  · rw [decide_eq_true i3]
    clear i3
    go_enter Try.func53, Try.ntmps53
    go_wp2
    go_ret
    exact ⟨rfl, rfl⟩
  · rw [decide_eq_false i3]
    clear i3
    go_enter Try.func53, Try.ntmps53
    go_wp2
    go_ret
    exact ⟨by simpa using i2, rfl⟩
  · rw [decide_eq_false i3]
    clear i3
    go_enter Try.func53, Try.ntmps53
    go_wp2
    go_ret
    exact ⟨rfl, rfl⟩
theorem ft0 (R o b : Nat) : ftake R o 0 b = (fbeg R b).map fun d' => (o, d') := by unfold ftake; rw [if_pos rfl]
theorem ft2 {R o b : Nat} (ho : o ≠ 0) (hb : b ≠ 41) : ftake R o 2 b = (fbeg R b).map fun d' => (o, d') := by unfold ftake; rw [if_neg (by decide), if_neg (by decide), if_neg ho, if_neg hb]
theorem ft41 {R o : Nat} (ho : o ≠ 0) : ftake R o 2 41 = some (o - 1, 2) := by unfold ftake; rw [if_neg (by decide), if_neg (by decide), if_neg ho, if_pos rfl]
theorem fb_let {R b : Nat} (h1 : 97 ≤ b) (h2 : b < 97 + R) : fbeg R b = some 2 := by unfold fbeg; rw [if_pos ⟨h1, h2⟩]
theorem fb_bang (R : Nat) : fbeg R 33 = some 0 := by unfold fbeg; rw [if_neg (by omega), if_pos rfl]
theorem fb_dig {R b : Nat} (h1 : 48 ≤ b) (h2 : b ≤ 57) : fbeg R b = some 1 := by unfold fbeg; rw [if_neg (by omega), if_neg (by omega), if_pos ⟨h1, h2⟩]
theorem fb_no {R b : Nat} (h1 : ¬ (97 ≤ b ∧ b < 97 + R)) (h2 : b ≠ 33) (h3 : ¬ (48 ≤ b ∧ b ≤ 57)) : fbeg R b = none := by unfold fbeg; rw [if_neg h1, if_neg h2, if_neg h3]
/-- What is due, by need and head. -/
def NH (d : Nat) (nd hd : Bool) : Prop := (d = 0 ∧ nd = true ∧ hd = false) ∨ (d = 1 ∧ hd = true) ∨ (d = 2 ∧ nd = false ∧ hd = false)
theorem fscan_none {R : Nat} {T : ByteArray} {i o d : Nat} (hi : i < T.size) (h : ftake R o d (bt T i) = none) : fscan R T (T.size - i) i o d = some i := by
  rw [show T.size - i = (T.size - (i + 1)) + 1 by omega, fscan, h]
theorem fscan_some {R : Nat} {T : ByteArray} {i o d o' d' : Nat} (hi : i < T.size) (h : ftake R o d (bt T i) = some (o', d')) : fscan R T (T.size - i) i o d = fscan R T (T.size - (i + 1)) (i + 1) o' d' := by
  rw [show T.size - i = (T.size - (i + 1)) + 1 by omega, fscan, h]
/-- The loop's state. -/
def FpI (R : Nat) (T : ByteArray) (i o d : Nat) (nd hd : Bool) : Prop := i ≤ T.size ∧ o ≤ i ∧ NH d nd hd ∧ fscan R T (T.size - i) i o d = fscan R T T.size 0 0 0
theorem FpI.next {R : Nat} {T : ByteArray} {i o d : Nat} {nd hd : Bool} (h : FpI R T i o d nd hd) (hi : i < T.size) {o' d' : Nat} (ht : ftake R o d (bt T i) = some (o', d')) (ho : o' ≤ o + 1) {nd' hd' : Bool} (hn : NH d' nd' hd') : FpI R T (i + 1) o' d' nd' hd' := by
  obtain ⟨h1, h2, h3, h4⟩ := h
  exact ⟨hi, by omega, hn, by rw [← fscan_some hi ht]; exact h4⟩
theorem FpI.stop {R : Nat} {T : ByteArray} {i o d : Nat} {nd hd : Bool} (h : FpI R T i o d nd hd) (hi : i < T.size) (ht : ftake R o d (bt T i) = none) : (i : Int) = fpl (fscan R T T.size 0 0 0) := by
  obtain ⟨h1, h2, h3, h4⟩ := h
  rw [← h4, fscan_none hi ht]; rfl

set_option maxRecDepth 20000 in
set_option maxHeartbeats 4000000 in
theorem formPlace_any (w : World) (T : ByteArray) (R : Nat) (hR : R ≤ 100) (hT : T.size ≤ 100000) :
    Calls Try.prog 36 #[.string T, .int .i64 (R : Int)] w fun e w' => e = .returned (.int .i64 (fpl (fscan R T T.size 0 0 0))) ∧ w' = w := by
  have hTI : (T.size : Int) ≤ 100000 := by omega
  have hRI : (R : Int) ≤ 100 := by omega
  go_enter Try.func36, Try.ntmps36
  go_wp2_with fail
  go_loop [5, 6, 7, 8] (fun ox nx hx ix => ∃ (i o d : Nat) (nd hd : Bool), ox = .int .i64 (o : Int) ∧ nx = .bool nd ∧ hx = .bool hd ∧ ix = .int .i64 (i : Int) ∧ Hid (FpI R T i o d nd hd)) (fun _ _ _ ix => lenLeft T.size ix)
  case atStart => exact ⟨0, 0, 0, true, false, rfl, rfl, rfl, rfl, Nat.zero_le _, Nat.zero_le _, Or.inl ⟨rfl, rfl, rfl⟩, rfl⟩
  case round =>
    obtain ⟨i, o, d, nd, hd, rfl, rfl, rfl, rfl, HH⟩ := hrel
    obtain ⟨hi, hoi, hnh, hsc⟩ := unhide HH
    have hoI : (o : Int) ≤ 100000 := by omega
    have ho0 : (0 : Int) ≤ (o : Int) := by omega
    by_cases hlt : i < T.size
    · have hltI : (i : Int) < (T.size : Int) := by omega
      have HLT := hide hlt
      have hbt := bt_at T i
      have hbI : ((bt T i : Nat) : Int) < 256 := by have := bt_le T i; omega
      have h0 : (0 : Int) ≤ (i : Int) := by omega
      have h1 : ((i : Int)).toNat = i := by omega
      have HDG := hide (digit_any w (bt T i))
      have HNX := hide (fun (o' d' : Nat) (nd' hd' : Bool) => (unhide HH).next hlt (o' := o') (d' := d') (nd' := nd') (hd' := hd'))
      have HST := hide ((unhide HH).stop hlt)
      have e1 : 97 ≤ bt T i → ((bt T i : Nat) : Int) - 97 = ((bt T i - 97 : Nat) : Int) := fun h => by omega
      have w1 : IntKind.u8.wrap ((bt T i - 97 : Nat) : Int) = ((bt T i - 97 : Nat) : Int) := u8_wrap _ (by have := bt_le T i; omega)
      have hbq : bt T i < 256 := bt_le T i
      generalize bt T i = b at *
      generalize hdg : isD b = dg at *
      unfold isD at hdg
      clear hi hoi hsc HH hlt
      rcases hnh with ⟨rfl, rfl, rfl⟩ | ⟨rfl, rfl⟩ | ⟨rfl, rfl, rfl⟩
      · skip
        have hc : (97 ≤ (b : Int) ∧ b < 97 + R ∧ ((b - 97 : Nat) : Int) < (R : Int)) ∨ (b : Int) = 33 ∨ (48 ≤ (b : Int) ∧ (b : Int) ≤ 57 ∧ dg = true) ∨ (97 ≤ (b : Int) ∧ ¬ b < 97 + R ∧ ¬ ((b - 97 : Nat) : Int) < (R : Int) ∧ dg = false) ∨ ((b : Int) < 97 ∧ ¬ (b : Int) = 33 ∧ ¬ (48 ≤ b ∧ b ≤ 57) ∧ (b : Int) = 41 ∧ dg = false) ∨ ((b : Int) < 97 ∧ ¬ (b : Int) = 33 ∧ ¬ (48 ≤ b ∧ b ≤ 57) ∧ ¬ (b : Int) = 41 ∧ dg = false) := by
          by_cases hh : 48 ≤ b ∧ b ≤ 57
          · rw [decide_eq_true hh] at hdg; subst hdg; simp; omega
          · rw [decide_eq_false hh] at hdg; subst hdg; simp; omega
        rcases hc with ⟨i1, i2, i3⟩ | i1 | ⟨i1, i2, i3⟩ | ⟨i1, i2, i3, i4⟩ | ⟨i1, i2, i3, i4, i5⟩ | ⟨i1, i2, i3, i4, i5⟩
        · have e2 := e1 (by omega)
          have HN := hide (unhide HNX o 2 false false (by rw [ft0, fb_let (by omega) (by omega)]; rfl) (by omega) (Or.inr (Or.inr ⟨rfl, rfl, rfl⟩)))
          clear HNX HST hdg e1 hbq
          go_wp2_with fail
          refine (unhide HDG).mono ?_
          rintro e w' ⟨rfl, hww⟩
          obtain rfl : w = w' := hww.symm
          clear hww
          go_wp2_with fail
          go_round
          case rel => exact ⟨i + 1, o, 2, false, false, rfl, rfl, rfl, by go_num, unhide HN⟩
          case measure => have := unhide HLT; simp [lenLeft, intOf]; omega
        · obtain rfl : b = 33 := by omega
          have HN := hide (unhide HNX o 0 true false (by rw [ft0, fb_bang]; rfl) (by omega) (Or.inl ⟨rfl, rfl, rfl⟩))
          clear HNX HST hdg e1 hbq
          go_wp2_with fail
          refine (unhide HDG).mono ?_
          rintro e w' ⟨rfl, hww⟩
          obtain rfl : w = w' := hww.symm
          clear hww
          go_wp2_with fail
          go_round
          case rel => exact ⟨i + 1, o, 0, true, false, rfl, rfl, rfl, by go_num, unhide HN⟩
          case measure => have := unhide HLT; simp [lenLeft, intOf]; omega
        · subst i3
          have HN := hide (unhide HNX o 1 true true (by rw [ft0, fb_dig (by omega) (by omega)]; rfl) (by omega) (Or.inr (Or.inl ⟨rfl, rfl⟩)))
          clear HNX HST hdg e1 hbq
          go_wp2_with fail
          refine (unhide HDG).mono ?_
          rintro e w' ⟨rfl, hww⟩
          obtain rfl : w = w' := hww.symm
          clear hww
          go_wp2_with fail
          go_round
          case rel => exact ⟨i + 1, o, 1, true, true, rfl, rfl, rfl, by go_num, unhide HN⟩
          case measure => have := unhide HLT; simp [lenLeft, intOf]; omega
        · subst i4
          have e2 := e1 (by omega)
          have HA := hide (unhide HST (by rw [ft0, fb_no (by omega) (by omega) (by omega)]; rfl))
          clear HNX HST hdg e1 hbq
          go_wp2_with fail
          refine (unhide HDG).mono ?_
          rintro e w' ⟨rfl, hww⟩
          obtain rfl : w = w' := hww.symm
          clear hww
          go_wp2_with fail
          go_ret
          exact ⟨ret_int (unhide HA), rfl⟩
        · subst i5
          obtain rfl : b = 41 := by omega
          have HA := hide (unhide HST (by rw [ft0, fb_no (by omega) (by omega) (by omega)]; rfl))
          clear HNX HST hdg e1 hbq
          go_wp2_with fail
          refine (unhide HDG).mono ?_
          rintro e w' ⟨rfl, hww⟩
          obtain rfl : w = w' := hww.symm
          clear hww
          go_wp2_with fail
          go_ret
          exact ⟨ret_int (unhide HA), rfl⟩
        · subst i5
          have HA := hide (unhide HST (by rw [ft0, fb_no (by omega) (by omega) (by omega)]; rfl))
          clear HNX HST hdg e1 hbq
          go_wp2_with fail
          refine (unhide HDG).mono ?_
          rintro e w' ⟨rfl, hww⟩
          obtain rfl : w = w' := hww.symm
          clear hww
          go_wp2_with fail
          go_ret
          exact ⟨ret_int (unhide HA), rfl⟩
      · have hc : ((b : Int) = 40 ∧ b = 40) ∨ (¬ (b : Int) = 40 ∧ b ≠ 40) := by omega
        rcases hc with ⟨i1, rfl⟩ | ⟨i1, i2⟩
        · have HN := hide (unhide HNX (o + 1) 0 true false (by simp [ftake]) (by omega) (Or.inl ⟨rfl, rfl, rfl⟩))
          clear HNX HST hdg e1 w1 hbq
          go_wp2_with fail
          refine (unhide HDG).mono ?_
          rintro e w' ⟨rfl, hww⟩
          obtain rfl : w = w' := hww.symm
          clear hww
          go_wp2_with fail
          go_round
          case rel => exact ⟨i + 1, o + 1, 0, true, false, by go_num, rfl, rfl, by go_num, unhide HN⟩
          case measure => have := unhide HLT; simp [lenLeft, intOf]; omega
        · have HA := hide (unhide HST (by simp [ftake, i2]))
          clear HNX HST hdg e1 w1 hbq
          go_wp2_with fail
          refine (unhide HDG).mono ?_
          rintro e w' ⟨rfl, hww⟩
          obtain rfl : w = w' := hww.symm
          clear hww
          go_wp2_with fail
          go_ret
          exact ⟨ret_int (unhide HA), rfl⟩
      · by_cases ho : o = 0
        · subst ho
          have HA := hide (unhide HST (by simp [ftake]))
          clear HNX HST hdg e1 hbq
          go_wp2_with fail
          refine (unhide HDG).mono ?_
          rintro e w' ⟨rfl, hww⟩
          obtain rfl : w = w' := hww.symm
          clear hww
          go_wp2_with fail
          go_ret
          exact ⟨ret_int (unhide HA), rfl⟩
        have hoP : (0 : Int) < (o : Int) := by omega
        have hoN : ¬ (o : Int) = 0 := by omega
        have hc : (97 ≤ (b : Int) ∧ b < 97 + R ∧ ((b - 97 : Nat) : Int) < (R : Int)) ∨ (b : Int) = 33 ∨ (48 ≤ (b : Int) ∧ (b : Int) ≤ 57 ∧ dg = true) ∨ ((b : Int) = 41 ∧ dg = false) ∨ (97 ≤ (b : Int) ∧ ¬ b < 97 + R ∧ ¬ ((b - 97 : Nat) : Int) < (R : Int) ∧ dg = false) ∨ ((b : Int) < 97 ∧ ¬ (b : Int) = 33 ∧ ¬ (48 ≤ b ∧ b ≤ 57) ∧ ¬ (b : Int) = 41 ∧ dg = false) := by
          by_cases hh : 48 ≤ b ∧ b ≤ 57
          · rw [decide_eq_true hh] at hdg; subst hdg; simp; omega
          · rw [decide_eq_false hh] at hdg; subst hdg; simp; omega
        rcases hc with ⟨i1, i2, i3⟩ | i1 | ⟨i1, i2, i3⟩ | ⟨i1, i2⟩ | ⟨i1, i2, i3, i4⟩ | ⟨i1, i2, i3, i4, i5⟩
        · have e2 := e1 (by omega)
          have HN := hide (unhide HNX o 2 false false (by rw [ft2 (by omega) (by omega), fb_let (by omega) (by omega)]; rfl) (by omega) (Or.inr (Or.inr ⟨rfl, rfl, rfl⟩)))
          clear HNX HST hdg e1 hbq
          go_wp2_with fail
          refine (unhide HDG).mono ?_
          rintro e w' ⟨rfl, hww⟩
          obtain rfl : w = w' := hww.symm
          clear hww
          go_wp2_with fail
          go_round
          case rel => exact ⟨i + 1, o, 2, false, false, rfl, rfl, rfl, by go_num, unhide HN⟩
          case measure => have := unhide HLT; simp [lenLeft, intOf]; omega
        · obtain rfl : b = 33 := by omega
          have HN := hide (unhide HNX o 0 true false (by rw [ft2 (by omega) (by omega), fb_bang]; rfl) (by omega) (Or.inl ⟨rfl, rfl, rfl⟩))
          clear HNX HST hdg e1 hbq
          go_wp2_with fail
          refine (unhide HDG).mono ?_
          rintro e w' ⟨rfl, hww⟩
          obtain rfl : w = w' := hww.symm
          clear hww
          go_wp2_with fail
          go_round
          case rel => exact ⟨i + 1, o, 0, true, false, rfl, rfl, rfl, by go_num, unhide HN⟩
          case measure => have := unhide HLT; simp [lenLeft, intOf]; omega
        · subst i3
          have HN := hide (unhide HNX o 1 false true (by rw [ft2 (by omega) (by omega), fb_dig (by omega) (by omega)]; rfl) (by omega) (Or.inr (Or.inl ⟨rfl, rfl⟩)))
          clear HNX HST hdg e1 hbq
          go_wp2_with fail
          refine (unhide HDG).mono ?_
          rintro e w' ⟨rfl, hww⟩
          obtain rfl : w = w' := hww.symm
          clear hww
          go_wp2_with fail
          go_round
          case rel => exact ⟨i + 1, o, 1, false, true, rfl, rfl, rfl, by go_num, unhide HN⟩
          case measure => have := unhide HLT; simp [lenLeft, intOf]; omega
        · obtain rfl : b = 41 := by omega
          subst i2
          have e3 : (o : Int) - 1 = ((o - 1 : Nat) : Int) := by omega
          have w3 := wrap_i64 (o - 1) (by omega)
          have HN := hide (unhide HNX (o - 1) 2 false false (ft41 (by omega)) (by omega) (Or.inr (Or.inr ⟨rfl, rfl, rfl⟩)))
          clear HNX HST hdg e1 hbq
          go_wp2_with fail
          refine (unhide HDG).mono ?_
          rintro e w' ⟨rfl, hww⟩
          obtain rfl : w = w' := hww.symm
          clear hww
          go_wp2_with fail
          go_round
          case rel => exact ⟨i + 1, (o - 1), 2, false, false, by go_num, rfl, rfl, by go_num, unhide HN⟩
          case measure => have := unhide HLT; simp [lenLeft, intOf]; omega
        · subst i4
          have e2 := e1 (by omega)
          have HA := hide (unhide HST (by rw [ft2 (by omega) (by omega), fb_no (by omega) (by omega) (by omega)]; rfl))
          clear HNX HST hdg e1 hbq
          go_wp2_with fail
          refine (unhide HDG).mono ?_
          rintro e w' ⟨rfl, hww⟩
          obtain rfl : w = w' := hww.symm
          clear hww
          go_wp2_with fail
          go_ret
          exact ⟨ret_int (unhide HA), rfl⟩
        · subst i5
          have HA := hide (unhide HST (by rw [ft2 (by omega) (by omega), fb_no (by omega) (by omega) (by omega)]; rfl))
          clear HNX HST hdg e1 hbq
          go_wp2_with fail
          refine (unhide HDG).mono ?_
          rintro e w' ⟨rfl, hww⟩
          obtain rfl : w = w' := hww.symm
          clear hww
          go_wp2_with fail
          go_ret
          exact ⟨ret_int (unhide HA), rfl⟩
    · have hi2 : i = T.size := by omega
      have hltI : ¬ (i : Int) < (T.size : Int) := by omega
      have hz : T.size - i = 0 := by omega
      rw [hz, fscan] at hsc
      rcases hnh with ⟨rfl, rfl, rfl⟩ | ⟨rfl, rfl⟩ | ⟨rfl, rfl, rfl⟩
      · rw [if_pos (Or.inr (by decide))] at hsc
        have HA : Hid ((T.size : Int) = fpl (fscan R T T.size 0 0 0)) := by show _ = _; rw [← hsc, hi2]; rfl
        clear hi hoi hsc hz HH hi2
        go_wp2_with fail
        go_ret
        exact ⟨ret_int (unhide HA), rfl⟩
      · rw [if_pos (Or.inr (by decide))] at hsc
        have HA : Hid ((T.size : Int) = fpl (fscan R T T.size 0 0 0)) := by show _ = _; rw [← hsc, hi2]; rfl
        clear hi hoi hsc hz HH hi2
        cases nd
        all_goals
          go_wp2_with fail
          go_ret
          exact ⟨ret_int (unhide HA), rfl⟩
      · by_cases ho : o = 0
        · subst ho
          rw [if_neg (by decide)] at hsc
          have HA : Hid ((-1 : Int) = fpl (fscan R T T.size 0 0 0)) := by show _ = _; rw [← hsc]; rfl
          clear hi hoi hsc hz HH hi2
          go_wp2_with fail
          go_ret
          exact ⟨ret_int (unhide HA), rfl⟩
        · rw [if_pos (Or.inl (by omega))] at hsc
          have hoP : (0 : Int) < (o : Int) := by omega
          have HA : Hid ((T.size : Int) = fpl (fscan R T T.size 0 0 0)) := by show _ = _; rw [← hsc, hi2]; rfl
          clear hi hoi hsc hz HH hi2 ho
          go_wp2_with fail
          go_ret
          exact ⟨ret_int (unhide HA), rfl⟩

end Mc
end Go.Proofs.Ytlafngfoejngaaa
namespace Go.Proofs.Ytlafngfoejngaaa
namespace Mc
open Go.RowKit
attribute [local go_sem ↓] Go.wp_at_zero Go.wp_at_succ

def bnd (S C j : Nat) : Nat := if j < 258 then C else if j < 258 + S then 2 else S
theorem TOk_bnd {x : ByteArray} {p : Nat} (h1 : 1 ≤ bt x p) (h2 : bt x p ≤ 24) (h3 : 1 ≤ bt x (p + 1)) (h4 : bt x (p + 1) ≤ 24) (h5 : p + tsz x p ≤ x.size) :
    TOk x p ↔ ∀ j, 2 ≤ j → j < tsz x p → bt x (p + j) < bnd (bt x p) (bt x (p + 1)) j := by
  constructor
  · intro h j hj1 hj2
    unfold bnd
    by_cases a : j < 258
    · rw [if_pos a]
      have := h.cl (j - 2) (by omega)
      rwa [show p + 2 + (j - 2) = p + j by omega] at this
    · rw [if_neg a]
      by_cases b : j < 258 + bt x p
      · rw [if_pos b]
        have := h.gr (j - 258) (by omega)
        rwa [show p + 258 + (j - 258) = p + j by omega] at this
      · rw [if_neg b]
        have := h.nx (j - 258 - bt x p) (by unfold tsz at hj2; omega)
        rwa [show p + 258 + bt x p + (j - 258 - bt x p) = p + j by omega] at this
  · intro h
    refine ⟨h1, h2, h3, h4, h5, fun b hb => ?_, fun q hq => ?_, fun k hk => ?_⟩
    · have := h (2 + b) (by omega) (by unfold tsz; omega)
      unfold bnd at this
      rw [if_pos (by omega)] at this
      rwa [Nat.add_assoc]
    · have := h (258 + q) (by omega) (by unfold tsz; omega)
      unfold bnd at this
      rw [if_neg (by omega), if_pos (by omega)] at this
      rwa [Nat.add_assoc]
    · have := h (258 + bt x p + k) (by omega) (by unfold tsz; omega)
      unfold bnd at this
      rw [if_neg (by omega), if_neg (by omega)] at this
      rwa [show p + 258 + bt x p + k = p + (258 + bt x p + k) by omega]
/-- What tableSize answers. -/
def TsA (x : ByteArray) (p : Nat) (e : Ending) : Prop := ∃ n : Nat, e = .returned (.int .i64 (n : Int)) ∧ ((TOk x p ∧ n = tsz x p) ∨ (¬ TOk x p ∧ n = 0))

set_option maxRecDepth 20000 in
set_option maxHeartbeats 2000000 in
theorem tableSize_any (w : World) (x : ByteArray) (p : Nat) (hx : x.size ≤ 9223372036854775807) (hp : p ≤ x.size) (hp2 : p ≤ 100000) :
    Calls Try.prog 37 #[.string x, .int .i64 (p : Int)] w fun e w' => TsA x p e ∧ w' = w := by
  have hxI : (x.size : Int) ≤ 9223372036854775807 := by omega
  have hpI : (p : Int) ≤ 100000 := by omega
  have e2 : (p : Int) + 2 = ((p + 2 : Nat) : Int) := by omega
  have w2 := wrap_i64 (p + 2) (by omega)
  by_cases h2 : x.size < p + 2
  · have hI : (x.size : Int) < ((p + 2 : Nat) : Int) := by omega
    have HF : Hid (¬ TOk x p) := fun h => by have := h.size; have := tsz_pos x p; omega
    clear hx hp hp2 h2
    generalize p + 2 = y at *
    go_enter Try.func37, Try.ntmps37
    go_wp2_with fail
    go_ret
    exact ⟨⟨0, rfl, .inr ⟨unhide HF, rfl⟩⟩, rfl⟩
  · have hI : ((p + 2 : Nat) : Int) ≤ (x.size : Int) := by omega
    have e1 : (p : Int) + 1 = ((p + 1 : Nat) : Int) := by omega
    have w1 := wrap_i64 (p + 1) (by omega)
    have n0 : ((p : Int)).toNat = p := by omega
    have n1 : (((p + 1 : Nat) : Int)).toNat = p + 1 := by omega
    have l0 : (p : Int) < (x.size : Int) := by omega
    have l1 : ((p + 1 : Nat) : Int) < (x.size : Int) := by omega
    have m0 : p < x.size := by omega
    have m1 : p + 1 < x.size := by omega
    have b0 := bt_at x p
    have b1 := bt_at x (p + 1)
    have b0I : ((bt x p : Nat) : Int) < 256 := by have := bt_le x p; omega
    have b1I : ((bt x (p + 1) : Nat) : Int) < 256 := by have := bt_le x (p + 1); omega
    have hts : tsz x p = 258 + bt x p + bt x p * bt x (p + 1) := rfl
    have HBN := hide (TOk_bnd (x := x) (p := p))
    have HS1 := hide (fun h : TOk x p => h.s1)
    have HS2 := hide (fun h : TOk x p => h.s2)
    have HC1 := hide (fun h : TOk x p => h.c1)
    have HC2 := hide (fun h : TOk x p => h.c2)
    have HSZ := hide (fun h : TOk x p => h.size)
    rw [hts] at HBN HSZ
    have hmul : bt x p * bt x (p + 1) ≤ 255 * 255 := Nat.mul_le_mul (by have := bt_le x p; omega) (by have := bt_le x (p + 1); omega)
    have HTS := hide hts
    clear hts
    generalize bt x p = S at *
    generalize bt x (p + 1) = C at *
    generalize p + 1 = p1 at *
    have e3 : (258 : Int) + (S : Int) = ((258 + S : Nat) : Int) := by omega
    have e4 : (S : Int) * (C : Int) = ((S * C : Nat) : Int) := by rw [Int.natCast_mul]
    have e5 : ((258 + S : Nat) : Int) + ((S * C : Nat) : Int) = ((258 + S + S * C : Nat) : Int) := by omega
    have e6 : (p : Int) + ((258 + S + S * C : Nat) : Int) = ((p + (258 + S + S * C) : Nat) : Int) := by omega
    have w3 := wrap_i64 (258 + S) (by omega)
    have w4 := wrap_i64 (S * C) (by omega)
    have w5 := wrap_i64 (258 + S + S * C) (by omega)
    have w6 := wrap_i64 (p + (258 + S + S * C)) (by omega)
    have hsc : ((S : Int) < 1) ∨ (1 ≤ (S : Int) ∧ 24 < (S : Int)) ∨ (1 ≤ (S : Int) ∧ (S : Int) ≤ 24 ∧ (C : Int) < 1) ∨ (1 ≤ (S : Int) ∧ (S : Int) ≤ 24 ∧ 1 ≤ (C : Int) ∧ 24 < (C : Int)) ∨ (1 ≤ (S : Int) ∧ (S : Int) ≤ 24 ∧ 1 ≤ (C : Int) ∧ (C : Int) ≤ 24 ∧ (x.size : Int) < ((p + (258 + S + S * C) : Nat) : Int)) ∨ (1 ≤ (S : Int) ∧ (S : Int) ≤ 24 ∧ 1 ≤ (C : Int) ∧ (C : Int) ≤ 24 ∧ ((p + (258 + S + S * C) : Nat) : Int) ≤ (x.size : Int)) := by omega
    rcases hsc with i1 | ⟨i1, i2⟩ | ⟨i1, i2, i3⟩ | ⟨i1, i2, i3, i4⟩ | ⟨i1, i2, i3, i4, i5⟩ | ⟨i1, i2, i3, i4, i5⟩
    iterate 5
      · have HF : Hid (¬ TOk x p) := fun h => by have := unhide HS1 h; have := unhide HS2 h; have := unhide HC1 h; have := unhide HC2 h; have := unhide HSZ h; omega
        clear hx hp hp2 h2 hmul
        generalize p + (258 + S + S * C) = y4 at *
        generalize 258 + S + S * C = y3 at *
        generalize 258 + S = y2 at *
        generalize S * C = y1 at *
        generalize p + 2 = y at *
        go_enter Try.func37, Try.ntmps37
        go_wp2_with fail
        go_ret
        exact ⟨⟨0, rfl, .inr ⟨unhide HF, rfl⟩⟩, rfl⟩
    have HB := hide (unhide HBN (by omega) (by omega) (by omega) (by omega) (by omega))
    have HLE : Hid (p + (258 + S + S * C) ≤ x.size) := by show _ ≤ _; omega
    have HP2 := hide hp2
    have hy3 : (258 + S + S * C : Nat) ≤ 100000 := by omega
    have hy3I : ((258 + S + S * C : Nat) : Int) ≤ 100000 := by omega
    have hy32 : 2 ≤ 258 + S + S * C := by omega
    have HY2 := hide (rfl : 258 + S = 258 + S)
    clear hx hp hp2 h2 hmul HBN HS1 HS2 HC1 HC2 HSZ
    generalize hy4 : p + (258 + S + S * C) = y4 at *
    generalize hy3' : 258 + S + S * C = y3 at *
    generalize hy2 : 258 + S = y2 at *
    generalize S * C = y1 at *
    generalize p + 2 = y at *
    have HY4 := hide hy4
    have HY2' := hide hy2
    have HY32 := hide hy32
    have HY3 := hide hy3
    clear hy4 hy3' hy2 hy32 hy3 HY2
    go_enter Try.func37, Try.ntmps37
    go_wp2_with fail
    go_loop [8] (fun kx => ∃ k : Nat, kx = .int .i64 (k : Int) ∧ Hid (2 ≤ k ∧ k ≤ y3 ∧ ∀ j, 2 ≤ j → j < k → bt x (p + j) < bnd S C j)) (fun kx => lenLeft y3 kx)
    case atStart => exact ⟨2, rfl, Nat.le_refl _, unhide HY32, fun j h1 h2 => by omega⟩
    case round =>
      obtain ⟨k, rfl, HH⟩ := hrel
      obtain ⟨hk2, hk, hj⟩ := unhide HH
      clear HH
      by_cases hlt : k < y3
      · have hltI : (k : Int) < (y3 : Int) := by omega
        have ek : (p : Int) + (k : Int) = ((p + k : Nat) : Int) := by omega
        have wk := wrap_i64 (p + k) (by have := unhide HP2; have := unhide HY3; omega)
        have nk : (((p + k : Nat) : Int)).toNat = p + k := by omega
        have mk : p + k < x.size := by have := unhide HLE; have := unhide HY4; omega
        have lk : ((p + k : Nat) : Int) < (x.size : Int) := by omega
        have bk := bt_at x (p + k)
        have bkI : ((bt x (p + k) : Nat) : Int) < 256 := by have := bt_le x (p + k); omega
        have HLT := hide hlt
        have HJ := hide hj
        have HNEXT : Hid (bt x (p + k) < bnd S C k → ∀ j, 2 ≤ j → j < k + 1 → bt x (p + j) < bnd S C j) := fun h j h1 h2 => by
          by_cases e : j = k
          · rw [e]; exact h
          · exact hj j h1 (by omega)
        have HSTOP : Hid (¬ bt x (p + k) < bnd S C k → ¬ TOk x p) := fun h ht => h ((unhide HB).1 ht k hk2 hlt)
        have HK2 := hide hk2
        clear hk hj hk2
        generalize bt x (p + k) = b at *
        have hc : ((k : Int) < 258 ∧ (b : Int) < (C : Int) ∧ b < bnd S C k) ∨ ((k : Int) < 258 ∧ (C : Int) ≤ (b : Int) ∧ ¬ b < bnd S C k) ∨ (258 ≤ (k : Int) ∧ (k : Int) < (y2 : Int) ∧ (b : Int) < 2 ∧ b < bnd S C k) ∨ (258 ≤ (k : Int) ∧ (k : Int) < (y2 : Int) ∧ 2 ≤ (b : Int) ∧ ¬ b < bnd S C k) ∨ (258 ≤ (k : Int) ∧ (y2 : Int) ≤ (k : Int) ∧ (b : Int) < (S : Int) ∧ b < bnd S C k) ∨ (258 ≤ (k : Int) ∧ (y2 : Int) ≤ (k : Int) ∧ (S : Int) ≤ (b : Int) ∧ ¬ b < bnd S C k) := by
          have hy2 := unhide HY2'
          unfold bnd
          rw [hy2]
          split
          · omega
          · split <;> omega
        generalize p + k = pk at *
        rcases hc with ⟨i6, i7, i8⟩ | ⟨i6, i7, i8⟩ | ⟨i6, i7, i8, i9⟩ | ⟨i6, i7, i8, i9⟩ | ⟨i6, i7, i8, i9⟩ | ⟨i6, i7, i8, i9⟩
        · have HN := hide (unhide HNEXT i8)
          clear HNEXT HSTOP i8
          go_wp2_with fail
          go_round
          case rel => exact ⟨k + 1, by go_num, by have := unhide HK2; omega, unhide HLT, unhide HN⟩
          case measure => have := unhide HLT; simp [lenLeft, intOf]; omega
        · have HF := hide (unhide HSTOP i8)
          clear HNEXT HSTOP i8
          go_wp2_with fail
          go_ret
          exact ⟨⟨0, rfl, .inr ⟨unhide HF, rfl⟩⟩, rfl⟩
        · have HN := hide (unhide HNEXT i9)
          clear HNEXT HSTOP i9
          go_wp2_with fail
          go_round
          case rel => exact ⟨k + 1, by go_num, by have := unhide HK2; omega, unhide HLT, unhide HN⟩
          case measure => have := unhide HLT; simp [lenLeft, intOf]; omega
        · have HF := hide (unhide HSTOP i9)
          clear HNEXT HSTOP i9
          go_wp2_with fail
          go_ret
          exact ⟨⟨0, rfl, .inr ⟨unhide HF, rfl⟩⟩, rfl⟩
        · have HN := hide (unhide HNEXT i9)
          clear HNEXT HSTOP i9
          go_wp2_with fail
          go_round
          case rel => exact ⟨k + 1, by go_num, by have := unhide HK2; omega, unhide HLT, unhide HN⟩
          case measure => have := unhide HLT; simp [lenLeft, intOf]; omega
        · have HF := hide (unhide HSTOP i9)
          clear HNEXT HSTOP i9
          go_wp2_with fail
          go_ret
          exact ⟨⟨0, rfl, .inr ⟨unhide HF, rfl⟩⟩, rfl⟩
      · have hk3 : k = y3 := by omega
        subst hk3
        have HT := hide ((unhide HB).2 hj)
        have hltI : ¬ (k : Int) < (k : Int) := by omega
        clear hk hj hlt hk2
        go_wp2_with fail
        go_ret
        exact ⟨⟨k, rfl, .inl ⟨unhide HT, (unhide HTS).symm⟩⟩, rfl⟩

end Mc
end Go.Proofs.Ytlafngfoejngaaa
namespace Go.Proofs.Ytlafngfoejngaaa
namespace Mc
open Go.RowKit
attribute [local go_sem ↓] Go.wp_at_zero Go.wp_at_succ

/-- What the document's formula answers from a place on. -/
def VF (T : ByteArray) (M : Nat) (i : Nat) (v : Bool) (j : Nat) : Prop := ∀ w, Calls Try.prog 41 #[.string T, .int .i64 (i : Int), .int .i64 (M : Int)] w fun e w' => e = .returned (.tuple #[.bool v, .int .i64 (j : Int)]) ∧ w' = w
/-- Formulas one behind the other, so many of them true. -/
inductive Chain (T : ByteArray) (M : Nat) : Nat → Nat → Nat → Prop
  | nil (k : Nat) : Chain T M k k 0
  | cons {i j k c : Nat} {v : Bool} : i < T.size → bt T i ≠ 41 → i < j → j ≤ T.size → VF T M i v j → Chain T M j k c → Chain T M i k (v.toNat + c)

theorem Chain.le {T : ByteArray} {M i k c : Nat} (h : Chain T M i k c) : i ≤ k := by
  induction h with
  | nil => exact Nat.le_refl _
  | cons _ _ h3 _ _ _ ih => omega

theorem vbit (tr : List Bool) (k : Nat) (hl : tr.length ≤ 4) : (bits BinOp.and IntKind.i64 (((sumG 0 tr : Nat) : Int) / 2 ^ k) 1 == 1) = tr.getD k false := by
  have e1 : ((sumG 0 tr : Nat) : Int) / 2 ^ k = ((sumG 0 tr / 2 ^ k : Nat) : Int) := by rw [Int.natCast_ediv, Int.natCast_pow]; rfl
  have hm := sumG_le tr hl
  have hq : sumG 0 tr / 2 ^ k ≤ 15 := Nat.le_trans (Nat.div_le_self _ _) hm
  rw [e1, show (1 : Int) = ((1 : Nat) : Int) from rfl, and_nat _ _ (by omega) (by omega), Nat.and_one_is_mod, sumG_bit]
  cases tr.getD k false <;> rfl

set_option maxRecDepth 20000 in
set_option maxHeartbeats 1000000 in
theorem vf_atom {T : ByteArray} {tr : List Bool} {i R : Nat} (hl : tr.length ≤ 4) (hR : R ≤ 4) (hT : T.size ≤ 1000) (h1 : i < T.size) (h2 : 97 ≤ bt T i) (h3 : bt T i < 97 + R) : VF T (sumG 0 tr) i (tr.getD (bt T i - 97) false) (i + 1) := by
  intro w
  have hlI : (i : Int) < (T.size : Int) := by omega
  have hT2 : (T.size : Int) ≤ 1000 := by omega
  have h0 : (0 : Int) ≤ (i : Int) := by omega
  have n0 : ((i : Int)).toNat = i := by omega
  have hb := bt_at T i
  have hb1 : (97 : Int) ≤ ((bt T i : Nat) : Int) := by omega
  have hb2 : ((bt T i : Nat) : Int) < 256 := by omega
  have e1 : ((bt T i : Nat) : Int) - 97 = ((bt T i - 97 : Nat) : Int) := by omega
  have w1 : IntKind.u8.wrap ((bt T i - 97 : Nat) : Int) = ((bt T i - 97 : Nat) : Int) := u8_wrap _ (by omega)
  have hk4 : ((bt T i - 97 : Nat) : Int) < 4 := by omega
  have hm := sumG_le tr hl
  have hmI : ((sumG 0 tr : Nat) : Int) ≤ 15 := by omega
  have HV := hide (vbit tr (bt T i - 97) hl)
  clear hT h1 h2 h3 hl hR hm
  generalize tr.getD (bt T i - 97) false = v at *
  generalize sumG 0 tr = M at *
  generalize bt T i - 97 = d at *
  go_enter Try.func41, Try.ntmps41
  go_wp2_with fail
  refine bodyPost_ret (v := .tuple #[.bool v, .int .i64 ((i + 1 : Nat) : Int)]) (by simp [results, Try.results41, go_sem, ← unhide HV]) rfl ?_
  exact ⟨rfl, rfl⟩

set_option maxRecDepth 20000 in
set_option maxHeartbeats 1000000 in
theorem vf_neg {T : ByteArray} {M i j : Nat} {v : Bool} (hT : T.size ≤ 1000) (h1 : i < T.size) (h2 : bt T i = 33) (hv : VF T M (i + 1) v j) : VF T M i (!v) j := by
  intro w
  have hlI : (i : Int) < (T.size : Int) := by omega
  have hT2 : (T.size : Int) ≤ 1000 := by omega
  have h0 : (0 : Int) ≤ (i : Int) := by omega
  have n0 : ((i : Int)).toNat = i := by omega
  have hb := bt_at T i
  rw [h2] at hb
  have e1 : (i : Int) + 1 = ((i + 1 : Nat) : Int) := by omega
  have w1 := wrap_i64 (i + 1) (by omega)
  have HV := hide (hv w)
  clear hT h1 h2 hv
  generalize i + 1 = i1 at *
  go_enter Try.func41, Try.ntmps41
  go_wp2_with fail
  refine (unhide HV).mono ?_
  rintro e w' ⟨rfl, hww⟩
  obtain rfl : w = w' := hww.symm
  clear hww
  go_wp2_with fail
  refine bodyPost_ret (v := .tuple #[.bool (!v), .int .i64 ((j : Nat) : Int)]) (by simp [results, Try.results41, go_sem]) rfl ?_
  exact ⟨rfl, rfl⟩

set_option maxRecDepth 20000 in
set_option maxHeartbeats 1000000 in
theorem vf_brk {T : ByteArray} {M i k c : Nat} (hT : T.size ≤ 1000) (h1 : i < T.size) (h2 : 48 ≤ bt T i) (h3 : bt T i ≤ 57) (h4 : i + 2 ≤ k) (h5 : k < T.size) (h6 : bt T k = 41) (hc : Chain T M (i + 2) k c) : VF T M i (decide (bt T i - 48 ≤ c)) (k + 1) := by
  intro w
  have hlI : (i : Int) < (T.size : Int) := by omega
  have hT2 : (T.size : Int) ≤ 1000 := by omega
  have h0 : (0 : Int) ≤ (i : Int) := by omega
  have n0 : ((i : Int)).toNat = i := by omega
  have hb := bt_at T i
  have hb1 : (48 : Int) ≤ ((bt T i : Nat) : Int) := by omega
  have hb2 : ((bt T i : Nat) : Int) ≤ 57 := by omega
  have hb3 : (((bt T i : Nat) : Int) == 33) = false := beq_eq_false_iff_ne.2 (by omega)
  have e2 : (i : Int) + 2 = ((i + 2 : Nat) : Int) := by omega
  have w2 := wrap_i64 (i + 2) (by omega)
  have e4 : ((bt T i : Nat) : Int) - 48 = ((bt T i - 48 : Nat) : Int) := by omega
  have w4 : IntKind.u8.wrap ((bt T i - 48 : Nat) : Int) = ((bt T i - 48 : Nat) : Int) := u8_wrap _ (by omega)
  have w5 : IntKind.i64.wrap ((bt T i - 48 : Nat) : Int) = ((bt T i - 48 : Nat) : Int) := wrap_i64 _ (by omega)
  have HC := hide hc
  have HT := hide hT
  have H5 := hide h5
  have H6 := hide h6
  have H4 := hide h4
  clear hT h1 h2 h3 h4 h5 h6 hc
  generalize bt T i - 48 = d at *
  generalize bt T i = b at *
  generalize i + 2 = i2 at *
  go_enter Try.func41, Try.ntmps41
  go_wp2_with fail
  go_loop [11, 12] (fun nx jx => ∃ (n j : Nat), nx = .int .i64 (n : Int) ∧ jx = .int .i64 (j : Int) ∧ Hid (j ≤ k ∧ n ≤ j ∧ ∃ c', Chain T M j k c' ∧ n + c' = c)) (fun _ jx => lenLeft (k + 1) jx)
  case atStart => exact ⟨0, i2, rfl, rfl, unhide H4, Nat.zero_le _, c, unhide HC, Nat.zero_add _⟩
  case round =>
    clear HC
    obtain ⟨n, j, rfl, rfl, HH⟩ := hrel
    obtain ⟨hjk, hnj, c', hch, hsum⟩ := unhide HH
    have hjI : (j : Int) < (T.size : Int) := by have := unhide H5; omega
    have hj0 : (0 : Int) ≤ (j : Int) := by omega
    have hjn : ((j : Int)).toNat = j := by omega
    have hjT : j < T.size := by have := unhide H5; omega
    have hbj := bt_at T j
    have hnI : (n : Int) ≤ 1000 := by have := unhide HT; omega
    have hbjI : ((bt T j : Nat) : Int) < 256 := by have := bt_le T j; omega
    clear HH
    cases hch with
    | nil =>
      rw [unhide H6] at hbj hbjI
      have hn : n = c := by omega
      have ek : (k : Int) + 1 = ((k + 1 : Nat) : Int) := by omega
      have wk := wrap_i64 (k + 1) (by have := unhide HT; omega)
      have hdc : (decide ((d : Int) ≤ (n : Int))) = decide (d ≤ c) := by rw [hn]; exact decide_eq_decide.2 (by omega)
      obtain ⟨v, hv⟩ : ∃ v, decide (d ≤ c) = v := ⟨_, rfl⟩
      rw [hv] at hdc
      have HDC := hide hdc
      have HVV := hide hv
      clear hjk hnj hsum hdc hn hv
      generalize k + 1 = j1 at *
      go_wp2_with fail
      refine bodyPost_ret (v := .tuple #[.bool v, .int .i64 ((j1 : Nat) : Int)]) (by simp [results, Try.results41, go_sem, ← unhide HDC]) rfl ?_
      exact ⟨by rw [unhide HVV], rfl⟩
    | @cons _ j2 _ c2 v q1 q2 q3 q4 q5 q6 =>
      have hne : ¬ ((bt T j : Nat) : Int) = 41 := by omega
      have HV := hide (q5 w)
      have HQ3 := hide q3
      have HQ6 := hide q6
      have HJ2 : Hid (j2 ≤ k) := q6.le
      have HSUM := hide hsum
      have HNJ := hide hnj
      have HJK := hide hjk
      clear hjk hnj hsum q1 q2 q3 q4 q5 q6
      generalize bt T j = bj at *
      go_wp2_with fail
      refine (unhide HV).mono ?_
      rintro e w' ⟨rfl, hww⟩
      obtain rfl : w = w' := hww.symm
      clear hww
      cases v
      · go_wp2_with fail
        go_round
        case rel => exact ⟨n, j2, rfl, rfl, unhide HJ2, by have := unhide HNJ; have := unhide HQ3; omega, c2, unhide HQ6, by have := unhide HSUM; simpa using this⟩
        case measure => have := unhide HQ3; have := unhide HJ2; have := unhide HJK; simp [lenLeft, intOf]; omega
      · go_wp2_with fail
        go_round
        case rel => exact ⟨n + 1, j2, by go_num, rfl, unhide HJ2, by have := unhide HNJ; have := unhide HQ3; omega, c2, unhide HQ6, by have := unhide HSUM; simp at this; omega⟩
        case measure => have := unhide HQ3; have := unhide HJ2; have := unhide HJK; simp [lenLeft, intOf]; omega

end Mc
end Go.Proofs.Ytlafngfoejngaaa
namespace Go.Proofs.Ytlafngfoejngaaa
namespace Mc
open Go.RowKit
attribute [local go_sem ↓] Go.wp_at_zero Go.wp_at_succ

theorem vform_FG {R : Nat} {T : ByteArray} (tr : List Bool) (hl : tr.length ≤ 4) (hR : R ≤ 4) (hT : T.size ≤ 1000) {b : Bool} {i j : Nat} (h : FG R T b i j) :
    (b = false → ∃ v, (∀ n, T.size < n + i → frm T tr n i = (v, j)) ∧ VF T (sumG 0 tr) i v j) ∧ (b = true → j < T.size → bt T j = 41 → ∃ c, (∀ n m c0, T.size < n + i → j ≤ m + i → lp T (frm T tr n) m i c0 = (c0 + c, j)) ∧ Chain T (sumG 0 tr) i j c) := by
  induction h with
  | @atom i h1 h2 h3 =>
    refine ⟨fun _ => ⟨tr.getD (bt T i - 97) false, fun n hn => ?_, vf_atom hl hR hT h1 h2 h3⟩, fun h => by cases h⟩
    obtain ⟨n, rfl⟩ : ∃ n', n = n' + 1 := ⟨n - 1, by omega⟩
    rw [frm, if_neg (by omega), if_neg (by omega), if_pos h2, tk_lt h1]
  | @neg i j h1 h2 _ ih =>
    obtain ⟨v, hv, hvf⟩ := ih.1 rfl
    refine ⟨fun _ => ⟨!v, fun n hn => ?_, vf_neg hT h1 h2 hvf⟩, fun h => by cases h⟩
    obtain ⟨n, rfl⟩ : ∃ n', n = n' + 1 := ⟨n - 1, by omega⟩
    rw [frm, if_pos h2, tk_lt h1, hv n (by omega)]
  | @brk i k h1 h2 h3 h4 h5 h6 h7 h8 ih =>
    obtain ⟨c, hc, hch⟩ := ih.2 rfl h7 h8
    refine ⟨fun _ => ⟨decide (bt T i - 48 ≤ c), fun n hn => ?_, vf_brk hT h1 h2 h3 h6.le.2 h7 h8 hch⟩, fun h => by cases h⟩
    obtain ⟨n, rfl⟩ : ∃ n', n = n' + 1 := ⟨n - 1, by omega⟩
    rw [frm, if_neg (by omega), if_pos ⟨h2, h3⟩, tk_lt h1]
    unfold sev
    rw [tk_lt h4, hc n T.size 0 (by omega) (by omega), tk_lt h7, Nat.zero_add]
  | @nil i =>
    refine ⟨fun h => (by cases h), fun _ h1 h2 => ⟨0, fun n m c0 _ _ => ?_, .nil _⟩⟩
    cases m with
    | zero => rfl
    | succ m => rw [lp, if_neg (by simp [h2])]; rfl
  | @cons i j k h1 h2 ih1 ih2 =>
    refine ⟨fun h => (by cases h), fun _ h3 h4 => ?_⟩
    obtain ⟨v, hv, hvf⟩ := ih1.1 rfl
    obtain ⟨c, hc, hch⟩ := ih2.2 rfl h3 h4
    obtain ⟨q1, q2, q3, q4⟩ := h1.le.1 rfl
    refine ⟨v.toNat + c, fun n m c0 hn hm => ?_, .cons q2 q4 q1 q3 hvf hch⟩
    have q5 := h2.le.2
    obtain ⟨m, rfl⟩ : ∃ m', m = m' + 1 := ⟨m - 1, by omega⟩
    rw [lp, if_pos ⟨q2, q4⟩, hv n hn, hc n m _ (by omega) (by omega), Nat.add_assoc]
/-- The document finds of a formula what the program finds. -/
theorem vform_true {R : Nat} {T : ByteArray} (tr : List Bool) (hl : tr.length ≤ 4) (hR : R ≤ 4) (hT : T.size ≤ 1000) (h : fscan R T T.size 0 0 0 = none) : VF T (sumG 0 tr) 0 (trueF T tr) T.size := by
  obtain ⟨v, h1, h2⟩ := (vform_FG tr hl hR hT (scan_ok h)).1 rfl
  have := h1 (T.size + 1) (by omega)
  unfold trueF
  rw [this]
  exact h2

/-- The text of the table at a place. -/
def tblX (x : ByteArray) (p : Nat) : ByteArray := x.extract p (p + tsz x p)
theorem tblX_size {x : ByteArray} {p : Nat} (h : TOk x p) : (tblX x p).size = tsz x p := by unfold tblX; rw [ByteArray.size_extract]; have := h.size; omega
theorem tblX_bt {x : ByteArray} {p k : Nat} (h : k < tsz x p) : bt (tblX x p) k = bt x (p + k) := by unfold tblX; rw [bt_ext, if_pos (by omega)]
set_option maxRecDepth 20000 in
set_option maxHeartbeats 1000000 in
theorem step_any (w : World) (x : ByteArray) (p q b : Nat) (h : TOk x p) (hq : q < bt x p) (hb : b < 256) :
    Calls Try.prog 55 #[.string (tblX x p), .int .i64 (q : Int), .int .i64 (b : Int)] w fun e w' => e = .returned (.int .i64 (((tabAt x p).nx q ((tabAt x p).cl b) : Nat) : Int)) ∧ w' = w := by
  have hsz := tblX_size h
  have hts : tsz x p = 258 + bt x p + bt x p * bt x (p + 1) := rfl
  have t0 : bt (tblX x p) 0 = bt x p := by rw [tblX_bt (by omega), Nat.add_zero]
  have t1 : bt (tblX x p) 1 = bt x (p + 1) := tblX_bt (by omega)
  have t2 : bt (tblX x p) (2 + b) = (tabAt x p).cl b := by rw [tblX_bt (by omega), ← Nat.add_assoc]; rfl
  have hcl := h.cl b hb
  have hmul : (q + 1) * bt x (p + 1) ≤ bt x p * bt x (p + 1) := Nat.mul_le_mul_right _ hq
  rw [Nat.add_mul, Nat.one_mul] at hmul
  have hc' : (tabAt x p).cl b < bt x (p + 1) := hcl
  have t3 : bt (tblX x p) (258 + bt x p + q * bt x (p + 1) + (tabAt x p).cl b) = (tabAt x p).nx q ((tabAt x p).cl b) := by
    rw [tblX_bt (by omega)]
    show _ = bt x (p + 258 + bt x p + (q * bt x (p + 1) + (tabAt x p).cl b))
    congr 1; omega
  have hS := h.s2
  have hC := h.c2
  have hprod : q * bt x (p + 1) ≤ 24 * 24 := Nat.mul_le_mul (by omega) hC
  have f0 := bt_at (tblX x p) 0
  have f1 := bt_at (tblX x p) 1
  have f2 := bt_at (tblX x p) (2 + b)
  have f3 := bt_at (tblX x p) (258 + bt x p + q * bt x (p + 1) + (tabAt x p).cl b)
  rw [t0] at f0
  rw [t1] at f1
  rw [t2] at f2
  rw [t3] at f3
  have hnx : (tabAt x p).nx q ((tabAt x p).cl b) < 256 := bt_le _ _
  have m0 : 0 < (tblX x p).size := by omega
  have m1 : 1 < (tblX x p).size := by omega
  have m2 : 2 + b < (tblX x p).size := by omega
  have m3 : 258 + bt x p + q * bt x (p + 1) + (tabAt x p).cl b < (tblX x p).size := by omega
  clear h hcl hts hsz t0 t1 t2 t3 hmul
  generalize (tabAt x p).nx q ((tabAt x p).cl b) = z at *
  generalize (tabAt x p).cl b = cl at *
  generalize bt x p = S at *
  generalize bt x (p + 1) = C at *
  generalize tblX x p = t at *
  have e1 : (258 : Int) + (S : Int) = ((258 + S : Nat) : Int) := by omega
  have e2 : (q : Int) * (C : Int) = ((q * C : Nat) : Int) := by rw [Int.natCast_mul]
  have e3 : ((258 + S : Nat) : Int) + ((q * C : Nat) : Int) = ((258 + S + q * C : Nat) : Int) := by omega
  have e4 : (2 : Int) + (b : Int) = ((2 + b : Nat) : Int) := by omega
  have e5 : ((258 + S + q * C : Nat) : Int) + (cl : Int) = ((258 + S + q * C + cl : Nat) : Int) := by omega
  have w1 := wrap_i64 (258 + S) (by omega)
  have w2 := wrap_i64 (q * C) (by omega)
  have w3 := wrap_i64 (258 + S + q * C) (by omega)
  have w4 := wrap_i64 (2 + b) (by omega)
  have w5 := wrap_i64 (258 + S + q * C + cl) (by omega)
  have l2 : ((2 + b : Nat) : Int) < (t.size : Int) := by omega
  have l3 : ((258 + S + q * C + cl : Nat) : Int) < (t.size : Int) := by omega
  have n2 : (((2 + b : Nat) : Int)).toNat = 2 + b := by omega
  have n3 : (((258 + S + q * C + cl : Nat) : Int)).toNat = 258 + S + q * C + cl := by omega
  have g2 : (0 : Int) ≤ ((2 + b : Nat) : Int) := by omega
  have g3 : (0 : Int) ≤ ((258 + S + q * C + cl : Nat) : Int) := by omega
  have zI : ((z : Nat) : Int) < 256 := by omega
  have sI : ((S : Nat) : Int) ≤ 24 := by omega
  have cI : ((C : Nat) : Int) ≤ 24 := by omega
  have clI : ((cl : Nat) : Int) < 24 := by omega
  clear hq hb hc' hS hC hprod hnx
  generalize 258 + S + q * C + cl = y5 at *
  generalize 258 + S + q * C = y3 at *
  generalize 258 + S = y1 at *
  generalize q * C = y2 at *
  generalize 2 + b = y4 at *
  go_enter Try.func55, Try.ntmps55
  go_wp2_with fail
  go_ret
  exact ⟨rfl, rfl⟩
set_option maxRecDepth 20000 in
set_option maxHeartbeats 1000000 in
theorem granted_any (w : World) (x : ByteArray) (p q : Nat) (h : TOk x p) (hq : q < bt x p) :
    Calls Try.prog 40 #[.string (tblX x p), .int .i64 (q : Int)] w fun e w' => e = .returned (.bool ((tabAt x p).gr q)) ∧ w' = w := by
  have hsz := tblX_size h
  have hts : tsz x p = 258 + bt x p + bt x p * bt x (p + 1) := rfl
  have t3 : bt (tblX x p) (258 + q) = bt x (p + 258 + q) := by rw [tblX_bt (by omega), Nat.add_assoc]
  have f3 := bt_at (tblX x p) (258 + q)
  rw [t3] at f3
  have m3 : 258 + q < (tblX x p).size := by omega
  have hv : (((bt x (p + 258 + q) : Nat) : Int) == 1) = (tabAt x p).gr q := by
    show _ = decide (bt x (p + 258 + q) = 1)
    by_cases h : bt x (p + 258 + q) = 1
    · rw [h]; rfl
    · rw [decide_eq_false h]; exact beq_eq_false_iff_ne.2 (by omega)
  have hb : bt x (p + 258 + q) < 256 := bt_le _ _
  have hS := h.s2
  clear h hts hsz t3
  generalize (tabAt x p).gr q = v at *
  generalize bt x (p + 258 + q) = z at *
  generalize bt x p = S at *
  generalize tblX x p = t at *
  have e1 : (258 : Int) + (q : Int) = ((258 + q : Nat) : Int) := by omega
  have w1 := wrap_i64 (258 + q) (by omega)
  have l3 : ((258 + q : Nat) : Int) < (t.size : Int) := by omega
  have n3 : (((258 + q : Nat) : Int)).toNat = 258 + q := by omega
  have g3 : (0 : Int) ≤ ((258 + q : Nat) : Int) := by omega
  have zI : ((z : Nat) : Int) < 256 := by omega
  clear hq hS hb
  generalize 258 + q = y at *
  go_enter Try.func40, Try.ntmps40
  go_wp2_with fail
  go_ret
  exact ⟨rfl, rfl⟩

end Mc
end Go.Proofs.Ytlafngfoejngaaa
