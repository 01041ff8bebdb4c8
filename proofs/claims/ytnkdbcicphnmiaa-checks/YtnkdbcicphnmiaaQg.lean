/-
  veilref.tableSize.
-/
import Derived.Test.YtnkdbcicphnmiaaQd
namespace Go.Proofs.Ytnkdbcicphnmiaa
namespace Mc
open Go.RowKit
attribute [local go_sem ↓] Go.wp_at_zero Go.wp_at_succ

def bnd (S C j : Nat) : Nat := if j < 258 then C else if j < 258 + S then 2 else S
theorem TOk_bnd {x : ByteArray} {p : Nat} (h1 : 1 ≤ bt x p) (h2 : bt x p ≤ 24) (h3 : 1 ≤ bt x (p + 1)) (h4 : bt x (p + 1) ≤ 24) (h5 : p + tsz x p ≤ x.size) :
    TOk x p ↔ ∀ j, 2 ≤ j → j < tsz x p → bt x (p + j) < bnd (bt x p) (bt x (p + 1)) j := by
  constructor
  · intro h j hj1 hj2
    unfold bnd
    by_cases a : j < 258
    · rw [if_pos a]
      have := h.cl (j - 2) (by omega)
      rwa [show p + 2 + (j - 2) = p + j by omega] at this
    · rw [if_neg a]
      by_cases b : j < 258 + bt x p
      · rw [if_pos b]
        have := h.gr (j - 258) (by omega)
        rwa [show p + 258 + (j - 258) = p + j by omega] at this
      · rw [if_neg b]
        have := h.nx (j - 258 - bt x p) (by unfold tsz at hj2; omega)
        rwa [show p + 258 + bt x p + (j - 258 - bt x p) = p + j by omega] at this
  · intro h
    refine ⟨h1, h2, h3, h4, h5, fun b hb => ?_, fun q hq => ?_, fun k hk => ?_⟩
    · have := h (2 + b) (by omega) (by unfold tsz; omega)
      unfold bnd at this
      rw [if_pos (by omega)] at this
      rwa [Nat.add_assoc]
    · have := h (258 + q) (by omega) (by unfold tsz; omega)
      unfold bnd at this
      rw [if_neg (by omega), if_pos (by omega)] at this
      rwa [Nat.add_assoc]
    · have := h (258 + bt x p + k) (by omega) (by unfold tsz; omega)
      unfold bnd at this
      rw [if_neg (by omega), if_neg (by omega)] at this
      rwa [show p + 258 + bt x p + k = p + (258 + bt x p + k) by omega]
/-- What tableSize answers. -/
def TsA (x : ByteArray) (p : Nat) (e : Ending) : Prop := ∃ n : Nat, e = .returned (.int .i64 (n : Int)) ∧ ((TOk x p ∧ n = tsz x p) ∨ (¬ TOk x p ∧ n = 0))

set_option maxRecDepth 20000 in
set_option maxHeartbeats 2000000 in
theorem tableSize_any (w : World) (x : ByteArray) (p : Nat) (hx : x.size ≤ 9223372036854775807) (hp : p ≤ x.size) (hp2 : p ≤ 100000) :
    Calls Try.prog 63 #[.string x, .int .i64 (p : Int)] w fun e w' => TsA x p e ∧ w' = w := by
  have hxI : (x.size : Int) ≤ 9223372036854775807 := by omega
  have hpI : (p : Int) ≤ 100000 := by omega
  have e2 : (p : Int) + 2 = ((p + 2 : Nat) : Int) := by omega
  have w2 := wrap_i64 (p + 2) (by omega)
  by_cases h2 : x.size < p + 2
  · have hI : (x.size : Int) < ((p + 2 : Nat) : Int) := by omega
    have HF : Hid (¬ TOk x p) := fun h => by have := h.size; have := tsz_pos x p; omega
    clear hx hp hp2 h2
    generalize p + 2 = y at *
    go_enter Try.func63, Try.ntmps63
    go_wp2_with fail
    go_ret
    exact ⟨⟨0, rfl, .inr ⟨unhide HF, rfl⟩⟩, rfl⟩
  · have hI : ((p + 2 : Nat) : Int) ≤ (x.size : Int) := by omega
    have e1 : (p : Int) + 1 = ((p + 1 : Nat) : Int) := by omega
    have w1 := wrap_i64 (p + 1) (by omega)
    have n0 : ((p : Int)).toNat = p := by omega
    have n1 : (((p + 1 : Nat) : Int)).toNat = p + 1 := by omega
    have l0 : (p : Int) < (x.size : Int) := by omega
    have l1 : ((p + 1 : Nat) : Int) < (x.size : Int) := by omega
    have m0 : p < x.size := by omega
    have m1 : p + 1 < x.size := by omega
    have b0 := bt_at x p
    have b1 := bt_at x (p + 1)
    have b0I : ((bt x p : Nat) : Int) < 256 := by have := bt_le x p; omega
    have b1I : ((bt x (p + 1) : Nat) : Int) < 256 := by have := bt_le x (p + 1); omega
    have hts : tsz x p = 258 + bt x p + bt x p * bt x (p + 1) := rfl
    have HBN := hide (TOk_bnd (x := x) (p := p))
    have HS1 := hide (fun h : TOk x p => h.s1)
    have HS2 := hide (fun h : TOk x p => h.s2)
    have HC1 := hide (fun h : TOk x p => h.c1)
    have HC2 := hide (fun h : TOk x p => h.c2)
    have HSZ := hide (fun h : TOk x p => h.size)
    rw [hts] at HBN HSZ
    have hmul : bt x p * bt x (p + 1) ≤ 255 * 255 := Nat.mul_le_mul (by have := bt_le x p; omega) (by have := bt_le x (p + 1); omega)
    have HTS := hide hts
    clear hts
    generalize bt x p = S at *
    generalize bt x (p + 1) = C at *
    generalize p + 1 = p1 at *
    have e3 : (258 : Int) + (S : Int) = ((258 + S : Nat) : Int) := by omega
    have e4 : (S : Int) * (C : Int) = ((S * C : Nat) : Int) := by rw [Int.natCast_mul]
    have e5 : ((258 + S : Nat) : Int) + ((S * C : Nat) : Int) = ((258 + S + S * C : Nat) : Int) := by omega
    have e6 : (p : Int) + ((258 + S + S * C : Nat) : Int) = ((p + (258 + S + S * C) : Nat) : Int) := by omega
    have w3 := wrap_i64 (258 + S) (by omega)
    have w4 := wrap_i64 (S * C) (by omega)
    have w5 := wrap_i64 (258 + S + S * C) (by omega)
    have w6 := wrap_i64 (p + (258 + S + S * C)) (by omega)
    have hsc : ((S : Int) < 1) ∨ (1 ≤ (S : Int) ∧ 24 < (S : Int)) ∨ (1 ≤ (S : Int) ∧ (S : Int) ≤ 24 ∧ (C : Int) < 1) ∨ (1 ≤ (S : Int) ∧ (S : Int) ≤ 24 ∧ 1 ≤ (C : Int) ∧ 24 < (C : Int)) ∨ (1 ≤ (S : Int) ∧ (S : Int) ≤ 24 ∧ 1 ≤ (C : Int) ∧ (C : Int) ≤ 24 ∧ (x.size : Int) < ((p + (258 + S + S * C) : Nat) : Int)) ∨ (1 ≤ (S : Int) ∧ (S : Int) ≤ 24 ∧ 1 ≤ (C : Int) ∧ (C : Int) ≤ 24 ∧ ((p + (258 + S + S * C) : Nat) : Int) ≤ (x.size : Int)) := by omega
    rcases hsc with i1 | ⟨i1, i2⟩ | ⟨i1, i2, i3⟩ | ⟨i1, i2, i3, i4⟩ | ⟨i1, i2, i3, i4, i5⟩ | ⟨i1, i2, i3, i4, i5⟩
    iterate 5
      · have HF : Hid (¬ TOk x p) := fun h => by have := unhide HS1 h; have := unhide HS2 h; have := unhide HC1 h; have := unhide HC2 h; have := unhide HSZ h; omega
        clear hx hp hp2 h2 hmul
        generalize p + (258 + S + S * C) = y4 at *
        generalize 258 + S + S * C = y3 at *
        generalize 258 + S = y2 at *
        generalize S * C = y1 at *
        generalize p + 2 = y at *
        go_enter Try.func63, Try.ntmps63
        go_wp2_with fail
        go_ret
        exact ⟨⟨0, rfl, .inr ⟨unhide HF, rfl⟩⟩, rfl⟩
    have HB := hide (unhide HBN (by omega) (by omega) (by omega) (by omega) (by omega))
    have HLE : Hid (p + (258 + S + S * C) ≤ x.size) := by show _ ≤ _; omega
    have HP2 := hide hp2
    have hy3 : (258 + S + S * C : Nat) ≤ 100000 := by omega
    have hy3I : ((258 + S + S * C : Nat) : Int) ≤ 100000 := by omega
    have hy32 : 2 ≤ 258 + S + S * C := by omega
    have HY2 := hide (rfl : 258 + S = 258 + S)
    clear hx hp hp2 h2 hmul HBN HS1 HS2 HC1 HC2 HSZ
    generalize hy4 : p + (258 + S + S * C) = y4 at *
    generalize hy3' : 258 + S + S * C = y3 at *
    generalize hy2 : 258 + S = y2 at *
    generalize S * C = y1 at *
    generalize p + 2 = y at *
    have HY4 := hide hy4
    have HY2' := hide hy2
    have HY32 := hide hy32
    have HY3 := hide hy3
    clear hy4 hy3' hy2 hy32 hy3 HY2
    go_enter Try.func63, Try.ntmps63
    go_wp2_with fail
    go_loop [8] (fun kx => ∃ k : Nat, kx = .int .i64 (k : Int) ∧ Hid (2 ≤ k ∧ k ≤ y3 ∧ ∀ j, 2 ≤ j → j < k → bt x (p + j) < bnd S C j)) (fun kx => lenLeft y3 kx)
    case atStart => exact ⟨2, rfl, Nat.le_refl _, unhide HY32, fun j h1 h2 => by omega⟩
    case round =>
      obtain ⟨k, rfl, HH⟩ := hrel
      obtain ⟨hk2, hk, hj⟩ := unhide HH
      clear HH
      by_cases hlt : k < y3
      · have hltI : (k : Int) < (y3 : Int) := by omega
        have ek : (p : Int) + (k : Int) = ((p + k : Nat) : Int) := by omega
        have wk := wrap_i64 (p + k) (by have := unhide HP2; have := unhide HY3; omega)
        have nk : (((p + k : Nat) : Int)).toNat = p + k := by omega
        have mk : p + k < x.size := by have := unhide HLE; have := unhide HY4; omega
        have lk : ((p + k : Nat) : Int) < (x.size : Int) := by omega
        have bk := bt_at x (p + k)
        have bkI : ((bt x (p + k) : Nat) : Int) < 256 := by have := bt_le x (p + k); omega
        have HLT := hide hlt
        have HJ := hide hj
        have HNEXT : Hid (bt x (p + k) < bnd S C k → ∀ j, 2 ≤ j → j < k + 1 → bt x (p + j) < bnd S C j) := fun h j h1 h2 => by
          by_cases e : j = k
          · rw [e]; exact h
          · exact hj j h1 (by omega)
        have HSTOP : Hid (¬ bt x (p + k) < bnd S C k → ¬ TOk x p) := fun h ht => h ((unhide HB).1 ht k hk2 hlt)
        have HK2 := hide hk2
        clear hk hj hk2
        generalize bt x (p + k) = b at *
        have hc : ((k : Int) < 258 ∧ (b : Int) < (C : Int) ∧ b < bnd S C k) ∨ ((k : Int) < 258 ∧ (C : Int) ≤ (b : Int) ∧ ¬ b < bnd S C k) ∨ (258 ≤ (k : Int) ∧ (k : Int) < (y2 : Int) ∧ (b : Int) < 2 ∧ b < bnd S C k) ∨ (258 ≤ (k : Int) ∧ (k : Int) < (y2 : Int) ∧ 2 ≤ (b : Int) ∧ ¬ b < bnd S C k) ∨ (258 ≤ (k : Int) ∧ (y2 : Int) ≤ (k : Int) ∧ (b : Int) < (S : Int) ∧ b < bnd S C k) ∨ (258 ≤ (k : Int) ∧ (y2 : Int) ≤ (k : Int) ∧ (S : Int) ≤ (b : Int) ∧ ¬ b < bnd S C k) := by
          have hy2 := unhide HY2'
          unfold bnd
          rw [hy2]
          split
          · omega
          · split <;> omega
        generalize p + k = pk at *
        rcases hc with ⟨i6, i7, i8⟩ | ⟨i6, i7, i8⟩ | ⟨i6, i7, i8, i9⟩ | ⟨i6, i7, i8, i9⟩ | ⟨i6, i7, i8, i9⟩ | ⟨i6, i7, i8, i9⟩
        · have HN := hide (unhide HNEXT i8)
          clear HNEXT HSTOP i8
          go_wp2_with fail
          go_round
          case rel => exact ⟨k + 1, by go_num, by have := unhide HK2; omega, unhide HLT, unhide HN⟩
          case measure => have := unhide HLT; simp [lenLeft, intOf]; omega
        · have HF := hide (unhide HSTOP i8)
          clear HNEXT HSTOP i8
          go_wp2_with fail
          go_ret
          exact ⟨⟨0, rfl, .inr ⟨unhide HF, rfl⟩⟩, rfl⟩
        · have HN := hide (unhide HNEXT i9)
          clear HNEXT HSTOP i9
          go_wp2_with fail
          go_round
          case rel => exact ⟨k + 1, by go_num, by have := unhide HK2; omega, unhide HLT, unhide HN⟩
          case measure => have := unhide HLT; simp [lenLeft, intOf]; omega
        · have HF := hide (unhide HSTOP i9)
          clear HNEXT HSTOP i9
          go_wp2_with fail
          go_ret
          exact ⟨⟨0, rfl, .inr ⟨unhide HF, rfl⟩⟩, rfl⟩
        · have HN := hide (unhide HNEXT i9)
          clear HNEXT HSTOP i9
          go_wp2_with fail
          go_round
          case rel => exact ⟨k + 1, by go_num, by have := unhide HK2; omega, unhide HLT, unhide HN⟩
          case measure => have := unhide HLT; simp [lenLeft, intOf]; omega
        · have HF := hide (unhide HSTOP i9)
          clear HNEXT HSTOP i9
          go_wp2_with fail
          go_ret
          exact ⟨⟨0, rfl, .inr ⟨unhide HF, rfl⟩⟩, rfl⟩
      · have hk3 : k = y3 := by omega
        subst hk3
        have HT := hide ((unhide HB).2 hj)
        have hltI : ¬ (k : Int) < (k : Int) := by omega
        clear hk hj hlt hk2
        go_wp2_with fail
        go_ret
        exact ⟨⟨k, rfl, .inl ⟨unhide HT, (unhide HTS).symm⟩⟩, rfl⟩

end Mc
end Go.Proofs.Ytnkdbcicphnmiaa
