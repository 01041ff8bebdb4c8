/-
  veilref.formula: whether a formula is true.
  The document's reader of formulas and the program's agree; veilref.step, veilref.granted.
-/
import Derived.Test.YtnkdbcicphnmiaaQd
namespace Go.Proofs.Ytnkdbcicphnmiaa
namespace Mc
open Go.RowKit
attribute [local go_sem ↓] Go.wp_at_zero Go.wp_at_succ

/-- What the document's formula answers from a place on. -/
def VF (T : ByteArray) (M : Nat) (i : Nat) (v : Bool) (j : Nat) : Prop := ∀ w, Calls Try.prog 67 #[.string T, .int .i64 (i : Int), .int .i64 (M : Int)] w fun e w' => e = .returned (.tuple #[.bool v, .int .i64 (j : Int)]) ∧ w' = w
/-- Formulas one behind the other, so many of them true: the least relation of the kind. -/
def Chain (T : ByteArray) (M i k c : Nat) : Prop := ∀ P : Nat → Nat → Nat → Prop, (∀ k, P k k 0) →
  (∀ i j k c v, i < T.size → bt T i ≠ 41 → i < j → j ≤ T.size → VF T M i v j → P j k c → P i k (v.toNat + c)) → P i k c
section
variable {T : ByteArray} {M i j k c : Nat}
theorem Chain.nil (k : Nat) : Chain T M k k 0 := fun _ p _ => p k
theorem Chain.cons {v : Bool} (h1 : i < T.size) (h2 : bt T i ≠ 41) (h3 : i < j) (h4 : j ≤ T.size) (h5 : VF T M i v j) (h : Chain T M j k c) : Chain T M i k (v.toNat + c) := fun P p1 p2 => p2 i j k c v h1 h2 h3 h4 h5 (h P p1 p2)
theorem Chain.le (h : Chain T M i k c) : i ≤ k := h (fun i k _ => i ≤ k) (fun _ => Nat.le_refl _) (fun _ _ _ _ _ _ _ h3 _ _ ih => by omega)
/-- The last one, or one and others behind it. -/
theorem Chain.parts (h : Chain T M i k c) : (k = i ∧ c = 0) ∨ ∃ j c2 v, c = Bool.toNat v + c2 ∧ i < T.size ∧ bt T i ≠ 41 ∧ i < j ∧ j ≤ T.size ∧ VF T M i v j ∧ Chain T M j k c2 :=
  (h (fun i k c => Chain T M i k c ∧ ((k = i ∧ c = 0) ∨ ∃ j c2 v, c = Bool.toNat v + c2 ∧ i < T.size ∧ bt T i ≠ 41 ∧ i < j ∧ j ≤ T.size ∧ VF T M i v j ∧ Chain T M j k c2))
    (fun k => ⟨Chain.nil k, Or.inl ⟨rfl, rfl⟩⟩)
    (fun _ j _ c v h1 h2 h3 h4 h5 ih => ⟨Chain.cons h1 h2 h3 h4 h5 ih.1, Or.inr ⟨j, c, v, rfl, h1, h2, h3, h4, h5, ih.1⟩⟩)).2
end

theorem vbit (tr : List Bool) (k : Nat) (hl : tr.length ≤ 4) : (bits BinOp.and IntKind.i64 (((sumG 0 tr : Nat) : Int) / 2 ^ k) 1 == 1) = tr.getD k false := by
  have e1 : ((sumG 0 tr : Nat) : Int) / 2 ^ k = ((sumG 0 tr / 2 ^ k : Nat) : Int) := by rw [Int.natCast_ediv, Int.natCast_pow]; rfl
  have hm := sumG_le tr hl
  have hq : sumG 0 tr / 2 ^ k ≤ 15 := Nat.le_trans (Nat.div_le_self _ _) hm
  rw [e1, show (1 : Int) = ((1 : Nat) : Int) from rfl, and_nat _ _ (by omega) (by omega), Nat.and_one_is_mod, sumG_bit]
  cases tr.getD k false <;> rfl

set_option maxRecDepth 20000 in
set_option maxHeartbeats 1000000 in
theorem vf_atom {T : ByteArray} {tr : List Bool} {i R : Nat} (hl : tr.length ≤ 4) (hR : R ≤ 4) (hT : T.size ≤ 1000) (h1 : i < T.size) (h2 : 97 ≤ bt T i) (h3 : bt T i < 97 + R) : VF T (sumG 0 tr) i (tr.getD (bt T i - 97) false) (i + 1) := by
  intro w
  have hlI : (i : Int) < (T.size : Int) := by omega
  have hT2 : (T.size : Int) ≤ 1000 := by omega
  have h0 : (0 : Int) ≤ (i : Int) := by omega
  have n0 : ((i : Int)).toNat = i := by omega
  have hb := bt_at T i
  have hb1 : (97 : Int) ≤ ((bt T i : Nat) : Int) := by omega
  have hb2 : ((bt T i : Nat) : Int) < 256 := by omega
  have e1 : ((bt T i : Nat) : Int) - 97 = ((bt T i - 97 : Nat) : Int) := by omega
  have w1 : IntKind.u8.wrap ((bt T i - 97 : Nat) : Int) = ((bt T i - 97 : Nat) : Int) := u8_wrap _ (by omega)
  have hk4 : ((bt T i - 97 : Nat) : Int) < 4 := by omega
  have hm := sumG_le tr hl
  have hmI : ((sumG 0 tr : Nat) : Int) ≤ 15 := by omega
  have HV := hide (vbit tr (bt T i - 97) hl)
  clear hT h1 h2 h3 hl hR hm
  generalize tr.getD (bt T i - 97) false = v at *
  generalize sumG 0 tr = M at *
  generalize bt T i - 97 = d at *
  go_enter Try.func67, Try.ntmps67
  go_wp2_with fail
  refine bodyPost_ret (v := .tuple #[.bool v, .int .i64 ((i + 1 : Nat) : Int)]) (by simp [results, Try.results67, go_sem, ← unhide HV]) rfl ?_
  exact ⟨rfl, rfl⟩

set_option maxRecDepth 20000 in
set_option maxHeartbeats 1000000 in
theorem vf_neg {T : ByteArray} {M i j : Nat} {v : Bool} (hT : T.size ≤ 1000) (h1 : i < T.size) (h2 : bt T i = 33) (hv : VF T M (i + 1) v j) : VF T M i (!v) j := by
  intro w
  have hlI : (i : Int) < (T.size : Int) := by omega
  have hT2 : (T.size : Int) ≤ 1000 := by omega
  have h0 : (0 : Int) ≤ (i : Int) := by omega
  have n0 : ((i : Int)).toNat = i := by omega
  have hb := bt_at T i
  rw [h2] at hb
  have e1 : (i : Int) + 1 = ((i + 1 : Nat) : Int) := by omega
  have w1 := wrap_i64 (i + 1) (by omega)
  have HV := hide (hv w)
  clear hT h1 h2 hv
  generalize i + 1 = i1 at *
  go_enter Try.func67, Try.ntmps67
  go_wp2_with fail
  refine (unhide HV).mono ?_
  rintro e w' ⟨rfl, hww⟩
  obtain rfl : w = w' := hww.symm
  clear hww
  go_wp2_with fail
  refine bodyPost_ret (v := .tuple #[.bool (!v), .int .i64 ((j : Nat) : Int)]) (by simp [results, Try.results67, go_sem]) rfl ?_
  exact ⟨rfl, rfl⟩

set_option maxRecDepth 20000 in
set_option maxHeartbeats 1000000 in
theorem vf_brk {T : ByteArray} {M i k c : Nat} (hT : T.size ≤ 1000) (h1 : i < T.size) (h2 : 48 ≤ bt T i) (h3 : bt T i ≤ 57) (h4 : i + 2 ≤ k) (h5 : k < T.size) (h6 : bt T k = 41) (hc : Chain T M (i + 2) k c) : VF T M i (decide (bt T i - 48 ≤ c)) (k + 1) := by
  intro w
  have hlI : (i : Int) < (T.size : Int) := by omega
  have hT2 : (T.size : Int) ≤ 1000 := by omega
  have h0 : (0 : Int) ≤ (i : Int) := by omega
  have n0 : ((i : Int)).toNat = i := by omega
  have hb := bt_at T i
  have hb1 : (48 : Int) ≤ ((bt T i : Nat) : Int) := by omega
  have hb2 : ((bt T i : Nat) : Int) ≤ 57 := by omega
  have hb3 : (((bt T i : Nat) : Int) == 33) = false := beq_eq_false_iff_ne.2 (by omega)
  have e2 : (i : Int) + 2 = ((i + 2 : Nat) : Int) := by omega
  have w2 := wrap_i64 (i + 2) (by omega)
  have e4 : ((bt T i : Nat) : Int) - 48 = ((bt T i - 48 : Nat) : Int) := by omega
  have w4 : IntKind.u8.wrap ((bt T i - 48 : Nat) : Int) = ((bt T i - 48 : Nat) : Int) := u8_wrap _ (by omega)
  have w5 : IntKind.i64.wrap ((bt T i - 48 : Nat) : Int) = ((bt T i - 48 : Nat) : Int) := wrap_i64 _ (by omega)
  have HC := hide hc
  have HT := hide hT
  have H5 := hide h5
  have H6 := hide h6
  have H4 := hide h4
  clear hT h1 h2 h3 h4 h5 h6 hc
  generalize bt T i - 48 = d at *
  generalize bt T i = b at *
  generalize i + 2 = i2 at *
  go_enter Try.func67, Try.ntmps67
  go_wp2_with fail
  go_loop [11, 12] (fun nx jx => ∃ (n j : Nat), nx = .int .i64 (n : Int) ∧ jx = .int .i64 (j : Int) ∧ Hid (j ≤ k ∧ n ≤ j ∧ ∃ c', Chain T M j k c' ∧ n + c' = c)) (fun _ jx => lenLeft (k + 1) jx)
  case atStart => exact ⟨0, i2, rfl, rfl, unhide H4, Nat.zero_le _, c, unhide HC, Nat.zero_add _⟩
  case round =>
    clear HC
    obtain ⟨n, j, rfl, rfl, HH⟩ := hrel
    obtain ⟨hjk, hnj, c', hch, hsum⟩ := unhide HH
    have hjI : (j : Int) < (T.size : Int) := by have := unhide H5; omega
    have hj0 : (0 : Int) ≤ (j : Int) := by omega
    have hjn : ((j : Int)).toNat = j := by omega
    have hjT : j < T.size := by have := unhide H5; omega
    have hbj := bt_at T j
    have hnI : (n : Int) ≤ 1000 := by have := unhide HT; omega
    have hbjI : ((bt T j : Nat) : Int) < 256 := by have := bt_le T j; omega
    clear HH
    rcases hch.parts with ⟨rfl, rfl⟩ | ⟨j2, c2, v, rfl, q1, q2, q3, q4, q5, q6⟩
    · clear hch
      rw [unhide H6] at hbj hbjI
      have hn : n = c := by omega
      have ek : (k : Int) + 1 = ((k + 1 : Nat) : Int) := by omega
      have wk := wrap_i64 (k + 1) (by have := unhide HT; omega)
      have hdc : (decide ((d : Int) ≤ (n : Int))) = decide (d ≤ c) := by rw [hn]; exact decide_eq_decide.2 (by omega)
      obtain ⟨v, hv⟩ : ∃ v, decide (d ≤ c) = v := ⟨_, rfl⟩
      rw [hv] at hdc
      have HDC := hide hdc
      have HVV := hide hv
      clear hjk hnj hsum hdc hn hv
      generalize k + 1 = j1 at *
      go_wp2_with fail
      refine bodyPost_ret (v := .tuple #[.bool v, .int .i64 ((j1 : Nat) : Int)]) (by simp [results, Try.results67, go_sem, ← unhide HDC]) rfl ?_
      exact ⟨by rw [unhide HVV], rfl⟩
    · clear hch
      have hne : ¬ ((bt T j : Nat) : Int) = 41 := by omega
      have HV := hide (q5 w)
      have HQ3 := hide q3
      have HQ6 := hide q6
      have HJ2 : Hid (j2 ≤ k) := q6.le
      have HSUM := hide hsum
      have HNJ := hide hnj
      have HJK := hide hjk
      clear hjk hnj hsum q1 q2 q3 q4 q5 q6
      generalize bt T j = bj at *
      go_wp2_with fail
      refine (unhide HV).mono ?_
      rintro e w' ⟨rfl, hww⟩
      obtain rfl : w = w' := hww.symm
      clear hww
      cases v
      · go_wp2_with fail
        go_round
        case rel => exact ⟨n, j2, rfl, rfl, unhide HJ2, by have := unhide HNJ; have := unhide HQ3; omega, c2, unhide HQ6, by have := unhide HSUM; simpa using this⟩
        case measure => have := unhide HQ3; have := unhide HJ2; have := unhide HJK; simp [lenLeft, intOf]; omega
      · go_wp2_with fail
        go_round
        case rel => exact ⟨n + 1, j2, by go_num, rfl, unhide HJ2, by have := unhide HNJ; have := unhide HQ3; omega, c2, unhide HQ6, by have := unhide HSUM; simp at this; omega⟩
        case measure => have := unhide HQ3; have := unhide HJ2; have := unhide HJK; simp [lenLeft, intOf]; omega

end Mc
end Go.Proofs.Ytnkdbcicphnmiaa
namespace Go.Proofs.Ytnkdbcicphnmiaa
namespace Mc
open Go.RowKit
attribute [local go_sem ↓] Go.wp_at_zero Go.wp_at_succ

theorem vform_FG {R : Nat} {T : ByteArray} (tr : List Bool) (hl : tr.length ≤ 4) (hR : R ≤ 4) (hT : T.size ≤ 1000) {b : Bool} {i j : Nat} (h : FG R T b i j) :
    (b = false → ∃ v, (∀ n, T.size < n + i → frm T tr n i = (v, j)) ∧ VF T (sumG 0 tr) i v j) ∧ (b = true → j < T.size → bt T j = 41 → ∃ c, (∀ n m c0, T.size < n + i → j ≤ m + i → lp T (frm T tr n) m i c0 = (c0 + c, j)) ∧ Chain T (sumG 0 tr) i j c) := by
  refine FG.ind (P := fun b i j => (b = false → ∃ v, (∀ n, T.size < n + i → frm T tr n i = (v, j)) ∧ VF T (sumG 0 tr) i v j) ∧ (b = true → j < T.size → bt T j = 41 → ∃ c, (∀ n m c0, T.size < n + i → j ≤ m + i → lp T (frm T tr n) m i c0 = (c0 + c, j)) ∧ Chain T (sumG 0 tr) i j c)) ?_ ?_ ?_ ?_ ?_ h
  · intro i h1 h2 h3
    refine ⟨fun _ => ⟨tr.getD (bt T i - 97) false, fun n hn => ?_, vf_atom hl hR hT h1 h2 h3⟩, fun h => by cases h⟩
    obtain ⟨n, rfl⟩ : ∃ n', n = n' + 1 := ⟨n - 1, by omega⟩
    rw [frm, if_neg (by omega), if_neg (by omega), if_pos h2, tk_lt h1]
  · intro i j h1 h2 _ ih
    obtain ⟨v, hv, hvf⟩ := ih.1 rfl
    refine ⟨fun _ => ⟨!v, fun n hn => ?_, vf_neg hT h1 h2 hvf⟩, fun h => by cases h⟩
    obtain ⟨n, rfl⟩ : ∃ n', n = n' + 1 := ⟨n - 1, by omega⟩
    rw [frm, if_pos h2, tk_lt h1, hv n (by omega)]
  · intro i k h1 h2 h3 h4 h5 h6 h7 h8 ih
    obtain ⟨c, hc, hch⟩ := ih.2 rfl h7 h8
    refine ⟨fun _ => ⟨decide (bt T i - 48 ≤ c), fun n hn => ?_, vf_brk hT h1 h2 h3 h6.le.2 h7 h8 hch⟩, fun h => by cases h⟩
    obtain ⟨n, rfl⟩ : ∃ n', n = n' + 1 := ⟨n - 1, by omega⟩
    rw [frm, if_neg (by omega), if_pos ⟨h2, h3⟩, tk_lt h1]
    unfold sev
    rw [tk_lt h4, hc n T.size 0 (by omega) (by omega), tk_lt h7, Nat.zero_add]
  · intro i
    refine ⟨fun h => (by cases h), fun _ h1 h2 => ⟨0, fun n m c0 _ _ => ?_, .nil _⟩⟩
    cases m with
    | zero => rfl
    | succ m => rw [lp, if_neg (by simp [h2])]; rfl
  · intro i j k h1 h2 ih1 ih2
    refine ⟨fun h => (by cases h), fun _ h3 h4 => ?_⟩
    obtain ⟨v, hv, hvf⟩ := ih1.1 rfl
    obtain ⟨c, hc, hch⟩ := ih2.2 rfl h3 h4
    obtain ⟨q1, q2, q3, q4⟩ := h1.le.1 rfl
    refine ⟨v.toNat + c, fun n m c0 hn hm => ?_, .cons q2 q4 q1 q3 hvf hch⟩
    have q5 := h2.le.2
    obtain ⟨m, rfl⟩ : ∃ m', m = m' + 1 := ⟨m - 1, by omega⟩
    rw [lp, if_pos ⟨q2, q4⟩, hv n hn, hc n m _ (by omega) (by omega), Nat.add_assoc]
/-- The document finds of a formula what the program finds. -/
theorem vform_true {R : Nat} {T : ByteArray} (tr : List Bool) (hl : tr.length ≤ 4) (hR : R ≤ 4) (hT : T.size ≤ 1000) (h : fscan R T T.size 0 0 0 = none) : VF T (sumG 0 tr) 0 (trueF T tr) T.size := by
  obtain ⟨v, h1, h2⟩ := (vform_FG tr hl hR hT (scan_ok h)).1 rfl
  have := h1 (T.size + 1) (by omega)
  unfold trueF
  rw [this]
  exact h2

/-- The text of the table at a place. -/
def tblX (x : ByteArray) (p : Nat) : ByteArray := x.extract p (p + tsz x p)
theorem tblX_size {x : ByteArray} {p : Nat} (h : TOk x p) : (tblX x p).size = tsz x p := by unfold tblX; rw [ByteArray.size_extract]; have := h.size; omega
theorem tblX_bt {x : ByteArray} {p k : Nat} (h : k < tsz x p) : bt (tblX x p) k = bt x (p + k) := by unfold tblX; rw [bt_ext, if_pos (by omega)]
set_option maxRecDepth 20000 in
set_option maxHeartbeats 1000000 in
theorem step_any (w : World) (x : ByteArray) (p q b : Nat) (h : TOk x p) (hq : q < bt x p) (hb : b < 256) :
    Calls Try.prog 65 #[.string (tblX x p), .int .i64 (q : Int), .int .i64 (b : Int)] w fun e w' => e = .returned (.int .i64 (((tabAt x p).nx q ((tabAt x p).cl b) : Nat) : Int)) ∧ w' = w := by
  have hsz := tblX_size h
  have hts : tsz x p = 258 + bt x p + bt x p * bt x (p + 1) := rfl
  have t0 : bt (tblX x p) 0 = bt x p := by rw [tblX_bt (by omega), Nat.add_zero]
  have t1 : bt (tblX x p) 1 = bt x (p + 1) := tblX_bt (by omega)
  have t2 : bt (tblX x p) (2 + b) = (tabAt x p).cl b := by rw [tblX_bt (by omega), ← Nat.add_assoc]; rfl
  have hcl := h.cl b hb
  have hmul : (q + 1) * bt x (p + 1) ≤ bt x p * bt x (p + 1) := Nat.mul_le_mul_right _ hq
  rw [Nat.add_mul, Nat.one_mul] at hmul
  have hc' : (tabAt x p).cl b < bt x (p + 1) := hcl
  have t3 : bt (tblX x p) (258 + bt x p + q * bt x (p + 1) + (tabAt x p).cl b) = (tabAt x p).nx q ((tabAt x p).cl b) := by
    rw [tblX_bt (by omega)]
    show _ = bt x (p + 258 + bt x p + (q * bt x (p + 1) + (tabAt x p).cl b))
    congr 1; omega
  have hS := h.s2
  have hC := h.c2
  have hprod : q * bt x (p + 1) ≤ 24 * 24 := Nat.mul_le_mul (by omega) hC
  have f0 := bt_at (tblX x p) 0
  have f1 := bt_at (tblX x p) 1
  have f2 := bt_at (tblX x p) (2 + b)
  have f3 := bt_at (tblX x p) (258 + bt x p + q * bt x (p + 1) + (tabAt x p).cl b)
  rw [t0] at f0
  rw [t1] at f1
  rw [t2] at f2
  rw [t3] at f3
  have hnx : (tabAt x p).nx q ((tabAt x p).cl b) < 256 := bt_le _ _
  have m0 : 0 < (tblX x p).size := by omega
  have m1 : 1 < (tblX x p).size := by omega
  have m2 : 2 + b < (tblX x p).size := by omega
  have m3 : 258 + bt x p + q * bt x (p + 1) + (tabAt x p).cl b < (tblX x p).size := by omega
  clear h hcl hts hsz t0 t1 t2 t3 hmul
  generalize (tabAt x p).nx q ((tabAt x p).cl b) = z at *
  generalize (tabAt x p).cl b = cl at *
  generalize bt x p = S at *
  generalize bt x (p + 1) = C at *
  generalize tblX x p = t at *
  have e1 : (258 : Int) + (S : Int) = ((258 + S : Nat) : Int) := by omega
  have e2 : (q : Int) * (C : Int) = ((q * C : Nat) : Int) := by rw [Int.natCast_mul]
  have e3 : ((258 + S : Nat) : Int) + ((q * C : Nat) : Int) = ((258 + S + q * C : Nat) : Int) := by omega
  have e4 : (2 : Int) + (b : Int) = ((2 + b : Nat) : Int) := by omega
  have e5 : ((258 + S + q * C : Nat) : Int) + (cl : Int) = ((258 + S + q * C + cl : Nat) : Int) := by omega
  have w1 := wrap_i64 (258 + S) (by omega)
  have w2 := wrap_i64 (q * C) (by omega)
  have w3 := wrap_i64 (258 + S + q * C) (by omega)
  have w4 := wrap_i64 (2 + b) (by omega)
  have w5 := wrap_i64 (258 + S + q * C + cl) (by omega)
  have l2 : ((2 + b : Nat) : Int) < (t.size : Int) := by omega
  have l3 : ((258 + S + q * C + cl : Nat) : Int) < (t.size : Int) := by omega
  have n2 : (((2 + b : Nat) : Int)).toNat = 2 + b := by omega
  have n3 : (((258 + S + q * C + cl : Nat) : Int)).toNat = 258 + S + q * C + cl := by omega
  have g2 : (0 : Int) ≤ ((2 + b : Nat) : Int) := by omega
  have g3 : (0 : Int) ≤ ((258 + S + q * C + cl : Nat) : Int) := by omega
  have zI : ((z : Nat) : Int) < 256 := by omega
  have sI : ((S : Nat) : Int) ≤ 24 := by omega
  have cI : ((C : Nat) : Int) ≤ 24 := by omega
  have clI : ((cl : Nat) : Int) < 24 := by omega
  clear hq hb hc' hS hC hprod hnx
  generalize 258 + S + q * C + cl = y5 at *
  generalize 258 + S + q * C = y3 at *
  generalize 258 + S = y1 at *
  generalize q * C = y2 at *
  generalize 2 + b = y4 at *
  go_enter Try.func65, Try.ntmps65
  go_wp2_with fail
  go_ret
  exact ⟨rfl, rfl⟩
set_option maxRecDepth 20000 in
set_option maxHeartbeats 1000000 in
theorem granted_any (w : World) (x : ByteArray) (p q : Nat) (h : TOk x p) (hq : q < bt x p) :
    Calls Try.prog 66 #[.string (tblX x p), .int .i64 (q : Int)] w fun e w' => e = .returned (.bool ((tabAt x p).gr q)) ∧ w' = w := by
  have hsz := tblX_size h
  have hts : tsz x p = 258 + bt x p + bt x p * bt x (p + 1) := rfl
  have t3 : bt (tblX x p) (258 + q) = bt x (p + 258 + q) := by rw [tblX_bt (by omega), Nat.add_assoc]
  have f3 := bt_at (tblX x p) (258 + q)
  rw [t3] at f3
  have m3 : 258 + q < (tblX x p).size := by omega
  have hv : (((bt x (p + 258 + q) : Nat) : Int) == 1) = (tabAt x p).gr q := by
    show _ = decide (bt x (p + 258 + q) = 1)
    by_cases h : bt x (p + 258 + q) = 1
    · rw [h]; rfl
    · rw [decide_eq_false h]; exact beq_eq_false_iff_ne.2 (by omega)
  have hb : bt x (p + 258 + q) < 256 := bt_le _ _
  have hS := h.s2
  clear h hts hsz t3
  generalize (tabAt x p).gr q = v at *
  generalize bt x (p + 258 + q) = z at *
  generalize bt x p = S at *
  generalize tblX x p = t at *
  have e1 : (258 : Int) + (q : Int) = ((258 + q : Nat) : Int) := by omega
  have w1 := wrap_i64 (258 + q) (by omega)
  have l3 : ((258 + q : Nat) : Int) < (t.size : Int) := by omega
  have n3 : (((258 + q : Nat) : Int)).toNat = 258 + q := by omega
  have g3 : (0 : Int) ≤ ((258 + q : Nat) : Int) := by omega
  have zI : ((z : Nat) : Int) < 256 := by omega
  clear hq hS hb
  generalize 258 + q = y at *
  go_enter Try.func66, Try.ntmps66
  go_wp2_with fail
  go_ret
  exact ⟨rfl, rfl⟩

end Mc
end Go.Proofs.Ytnkdbcicphnmiaa
