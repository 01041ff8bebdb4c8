/-
  What a formula is; the two readers go past it.
  What an image is.
  The rules that are true, as the bits of a number.
  veilref.digit, veilref.formPlace.
-/
import Derived.Test.YtohefinejdfhaaaP9
namespace Go.Proofs.Ytohefinejdfhaaa
namespace Mc
open Go.RowKit

/-- A formula (false), or some one behind the other (true), from a place to a place. -/
inductive FG (R : Nat) (T : ByteArray) : Bool → Nat → Nat → Prop
  | atom {i : Nat} : i < T.size → 97 ≤ bt T i → bt T i < 97 + R → FG R T false i (i + 1)
  | neg {i j : Nat} : i < T.size → bt T i = 33 → FG R T false (i + 1) j → FG R T false i j
  | brk {i k : Nat} : i < T.size → 48 ≤ bt T i → bt T i ≤ 57 → i + 1 < T.size → bt T (i + 1) = 40 → FG R T true (i + 2) k → k < T.size → bt T k = 41 → FG R T false i (k + 1)
  | nil {i : Nat} : FG R T true i i
  | cons {i j k : Nat} : FG R T false i j → FG R T true j k → FG R T true i k
theorem FG.le {R : Nat} {T : ByteArray} {b : Bool} {i j : Nat} (h : FG R T b i j) : (b = false → i < j ∧ i < T.size ∧ j ≤ T.size ∧ bt T i ≠ 41) ∧ i ≤ j := by
  induction h with
  | atom h1 h2 h3 => exact ⟨fun _ => ⟨by omega, h1, by omega, by omega⟩, by omega⟩
  | neg h1 h2 _ ih => exact ⟨fun _ => ⟨by have := (ih.1 rfl).1; omega, h1, (ih.1 rfl).2.2.1, by omega⟩, by omega⟩
  | brk h1 h2 h3 h4 h5 _ h7 h8 ih => exact ⟨fun _ => ⟨by have := ih.2; omega, h1, by omega, by omega⟩, by have := ih.2; omega⟩
  | nil => exact ⟨fun h => (by cases h), Nat.le_refl _⟩
  | cons _ _ ih1 ih2 => exact ⟨fun h => (by cases h), by have := ih1.2; have := ih2.2; omega⟩

/-- What closes so many brackets. -/
def Clo (R : Nat) (T : ByteArray) : Nat → Nat → Prop
  | 0, i => i = T.size
  | o + 1, i => ∃ k, FG R T true i k ∧ k < T.size ∧ bt T k = 41 ∧ Clo R T o (k + 1)
def Due (R : Nat) (T : ByteArray) (o : Nat) (i : Nat) : Nat → Prop
  | 0 => ∃ j, FG R T false i j ∧ Clo R T o j
  | 1 => i < T.size ∧ bt T i = 40 ∧ ∃ k, FG R T true (i + 1) k ∧ k < T.size ∧ bt T k = 41 ∧ Clo R T o (k + 1)
  | _ => Clo R T o i
theorem fbeg_due {R : Nat} {T : ByteArray} {o i d : Nat} (hi : i < T.size) (hf : fbeg R (bt T i) = some d) (h : Due R T o (i + 1) d) : ∃ j, FG R T false i j ∧ Clo R T o j := by
  unfold fbeg at hf
  split at hf
  · next hb => cases hf; exact ⟨_, .atom hi hb.1 hb.2, h⟩
  · split at hf
    · next hb =>
      cases hf
      obtain ⟨j, h1, h2⟩ := h
      exact ⟨j, .neg hi hb h1, h2⟩
    · split at hf
      · next hb =>
        cases hf
        obtain ⟨h1, h2, k, h3, h4, h5, h6⟩ := h
        exact ⟨_, .brk hi hb.1 hb.2 h1 h2 h3 h4 h5, h6⟩
      · cases hf
theorem scan_due {R : Nat} {T : ByteArray} : ∀ (n i o d : Nat), i + n = T.size → d ≤ 2 → fscan R T n i o d = none → Due R T o i d
  | 0, i, o, d, hi, hd, h => by
    unfold fscan at h
    split at h
    · cases h
    · next hn =>
      have e1 : o = 0 := by omega
      have e2 : d = 2 := by omega
      subst e1; subst e2
      show i = T.size
      omega
  | n + 1, i, o, d, hi, hd, h => by
    have hlt : i < T.size := by omega
    rw [fscan] at h
    split at h
    · cases h
    · next p hp =>
      have hp2 := (ftake_le hp hd).2
      have ih := scan_due n (i + 1) p.1 p.2 (by omega) hp2 h
      have key : ((fbeg R (bt T i)).map fun d' => (o, d')) = some p → ∃ j, FG R T false i j ∧ Clo R T o j := fun hm => by
        cases hf : fbeg R (bt T i) with
        | none => rw [hf] at hm; cases hm
        | some d' =>
          rw [hf] at hm
          simp only [Option.map_some, Option.some.injEq] at hm
          subst hm
          exact fbeg_due hlt hf ih
      unfold ftake at hp
      split at hp
      · next e => subst e; exact key hp
      · split at hp
        · next e =>
          subst e
          split at hp
          · next hb =>
            cases hp
            obtain ⟨j, h1, k, h2, h3, h4, h5⟩ := ih
            exact ⟨hlt, hb, k, .cons h1 h2, h3, h4, h5⟩
          · cases hp
        · next e0 e1 =>
          have e2 : d = 2 := by omega
          subst e2
          split at hp
          · cases hp
          · next ho =>
            obtain ⟨o', rfl⟩ : ∃ o', o = o' + 1 := ⟨o - 1, by omega⟩
            show Clo R T (o' + 1) i
            split at hp
            · next hb =>
              cases hp
              exact ⟨i, .nil, hlt, hb, ih⟩
            · obtain ⟨j, h1, k, h2, h3, h4, h5⟩ := key hp
              exact ⟨k, .cons h1 h2, h3, h4, h5⟩
/-- A text that is read to its end is a formula. -/
theorem scan_ok {R : Nat} {T : ByteArray} (h : fscan R T T.size 0 0 0 = none) : FG R T false 0 T.size := by
  obtain ⟨j, h1, h2⟩ := scan_due T.size 0 0 0 (by omega) (by omega) h
  have : j = T.size := h2
  rwa [this] at h1

theorem tk_lt {T : ByteArray} {k : Nat} (h : k < T.size) : tk T k = k + 1 := by unfold tk; rw [if_pos h]
/-- What the program's reader finds of a formula: the truth, and the place behind. -/
theorem frm_FG {R : Nat} {T : ByteArray} (tr : List Bool) {b : Bool} {i j : Nat} (h : FG R T b i j) :
    (b = false → ∃ v, ∀ n, T.size < n + i → frm T tr n i = (v, j)) ∧ (b = true → j < T.size → bt T j = 41 → ∃ c, ∀ n m c0, T.size < n + i → j ≤ m + i → lp T (frm T tr n) m i c0 = (c0 + c, j)) := by
  induction h with
  | @atom i h1 h2 h3 =>
    refine ⟨fun _ => ⟨tr.getD (bt T i - 97) false, fun n hn => ?_⟩, fun h => by cases h⟩
    obtain ⟨n, rfl⟩ : ∃ n', n = n' + 1 := ⟨n - 1, by omega⟩
    rw [frm, if_neg (by omega), if_neg (by omega), if_pos h2, tk_lt h1]
  | @neg i j h1 h2 _ ih =>
    obtain ⟨v, hv⟩ := ih.1 rfl
    refine ⟨fun _ => ⟨!v, fun n hn => ?_⟩, fun h => by cases h⟩
    obtain ⟨n, rfl⟩ : ∃ n', n = n' + 1 := ⟨n - 1, by omega⟩
    rw [frm, if_pos h2, tk_lt h1, hv n (by omega)]
  | @brk i k h1 h2 h3 h4 h5 h6 h7 h8 ih =>
    obtain ⟨c, hc⟩ := ih.2 rfl h7 h8
    refine ⟨fun _ => ⟨decide (bt T i - 48 ≤ c), fun n hn => ?_⟩, fun h => by cases h⟩
    obtain ⟨n, rfl⟩ : ∃ n', n = n' + 1 := ⟨n - 1, by omega⟩
    rw [frm, if_neg (by omega), if_pos ⟨h2, h3⟩, tk_lt h1]
    unfold sev
    rw [tk_lt h4, hc n T.size 0 (by omega) (by omega), tk_lt h7, Nat.zero_add]
  | @nil i =>
    refine ⟨fun h => (by cases h), fun _ h1 h2 => ⟨0, fun n m c0 _ _ => ?_⟩⟩
    cases m with
    | zero => rfl
    | succ m => rw [lp, if_neg (by simp [h2])]; rfl
  | @cons i j k h1 h2 ih1 ih2 =>
    refine ⟨fun h => (by cases h), fun _ h3 h4 => ?_⟩
    obtain ⟨v, hv⟩ := ih1.1 rfl
    obtain ⟨c, hc⟩ := ih2.2 rfl h3 h4
    obtain ⟨q1, q2, q3, q4⟩ := h1.le.1 rfl
    refine ⟨v.toNat + c, fun n m c0 hn hm => ?_⟩
    have q5 := h2.le.2
    obtain ⟨m, rfl⟩ : ∃ m', m = m' + 1 := ⟨m - 1, by omega⟩
    rw [lp, if_pos ⟨q2, q4⟩, hv n hn, hc n m _ (by omega) (by omega), Nat.add_assoc]

end Mc
end Go.Proofs.Ytohefinejdfhaaa
namespace Go.Proofs.Ytohefinejdfhaaa
namespace Mc
open Go.RowKit

theorem bt_ext (T : ByteArray) (a b k : Nat) : bt (T.extract a b) k = if a + k < b then bt T (a + k) else 0 := by
  have hs : (T.extract a b).size = min b T.size - a := ByteArray.size_extract
  unfold bt
  by_cases h : k < (T.extract a b).size
  · rw [dif_pos h, if_pos (by omega), dif_pos (by omega)]
    rw [ByteArray.getElem_extract]
  · rw [dif_neg h]
    by_cases h2 : a + k < b
    · rw [if_pos h2, dif_neg (by omega)]
    · rw [if_neg h2]
theorem bt_rest (T : ByteArray) (a k : Nat) : bt (T.extract a T.size) k = bt T (a + k) := by
  rw [bt_ext]
  split
  · rfl
  · next h => rw [bt_end h]
theorem ext_ext (T : ByteArray) (a b : Nat) : (T.extract a T.size).extract b (T.extract a T.size).size = T.extract (a + b) T.size := by
  rw [ByteArray.extract_extract, ByteArray.size_extract]
  congr 1
  omega

/-- The table that a text has at a place. -/
def tabAt (x : ByteArray) (p : Nat) : TabN := ⟨bt x p, bt x (p + 1), fun b => bt x (p + 2 + b), fun q => decide (bt x (p + 258 + q) = 1), fun q c => bt x (p + 258 + bt x p + (q * bt x (p + 1) + c))⟩
def tsz (x : ByteArray) (p : Nat) : Nat := 258 + bt x p + bt x p * bt x (p + 1)
structure TOk (x : ByteArray) (p : Nat) : Prop where
  s1 : 1 ≤ bt x p
  s2 : bt x p ≤ 24
  c1 : 1 ≤ bt x (p + 1)
  c2 : bt x (p + 1) ≤ 24
  size : p + tsz x p ≤ x.size
  cl : ∀ b, b < 256 → bt x (p + 2 + b) < bt x (p + 1)
  gr : ∀ q, q < bt x p → bt x (p + 258 + q) < 2
  nx : ∀ k, k < bt x p * bt x (p + 1) → bt x (p + 258 + bt x p + k) < bt x p
theorem TOk.ok {x : ByteArray} {p : Nat} (h : TOk x p) : (tabAt x p).Ok := by
  refine ⟨h.s1, h.c1, h.s2, h.c2, h.cl, fun q c hq hc => h.nx _ ?_⟩
  have h1 : (q + 1) * bt x (p + 1) ≤ bt x p * bt x (p + 1) := Nat.mul_le_mul_right _ hq
  rw [Nat.add_mul, Nat.one_mul] at h1
  have : c < bt x (p + 1) := hc
  omega
theorem tabAt_rest (x : ByteArray) (a p : Nat) : tabAt (x.extract a x.size) p = tabAt x (a + p) := by
  unfold tabAt
  simp only [bt_rest, Nat.add_assoc]
theorem tsz_rest (x : ByteArray) (a p : Nat) : tsz (x.extract a x.size) p = tsz x (a + p) := by
  unfold tsz
  simp only [bt_rest, Nat.add_assoc]
theorem TOk_rest {x : ByteArray} {a p : Nat} (ha : a ≤ x.size) : TOk (x.extract a x.size) p ↔ TOk x (a + p) := by
  have e : (x.extract a x.size).size = x.size - a := by rw [ByteArray.size_extract]; omega
  constructor
  · rintro ⟨h1, h2, h3, h4, h5, h6, h7, h8⟩
    simp only [bt_rest, tsz_rest, e, ← Nat.add_assoc] at h1 h2 h3 h4 h5 h6 h7 h8
    exact ⟨h1, h2, h3, h4, by omega, h6, h7, h8⟩
  · rintro ⟨h1, h2, h3, h4, h5, h6, h7, h8⟩
    refine ⟨?_, ?_, ?_, ?_, ?_, ?_, ?_, ?_⟩ <;> simp only [bt_rest, tsz_rest, e, ← Nat.add_assoc] <;> first | assumption | omega
theorem tsz_pos (x : ByteArray) (p : Nat) : 258 ≤ tsz x p := by unfold tsz; omega
theorem TOk.tsz_le {x : ByteArray} {p : Nat} (h : TOk x p) : tsz x p ≤ 858 := by
  unfold tsz
  have : bt x p * bt x (p + 1) ≤ 24 * 24 := Nat.mul_le_mul h.s2 h.c2
  have := h.s2
  omega
/-- Where the tables begin. -/
def tpos (x : ByteArray) (p : Nat) : Nat → Nat
  | 0 => p
  | i + 1 => tpos x p i + tsz x (tpos x p i)
/-- So many tables stand there, and nothing behind them. -/
def TsOk (x : ByteArray) (p r : Nat) : Prop := (∀ i, i < r → TOk x (tpos x p i)) ∧ tpos x p r = x.size
theorem tpos_le {x : ByteArray} {p : Nat} (hp : p ≤ x.size) : ∀ i, (∀ j, j < i → TOk x (tpos x p j)) → tpos x p i ≤ x.size
  | 0, _ => hp
  | i + 1, h => (h i (by omega)).size
theorem tpos_bound {x : ByteArray} {p : Nat} : ∀ i, (∀ j, j < i → TOk x (tpos x p j)) → tpos x p i ≤ p + 858 * i
  | 0, _ => by rw [tpos]; omega
  | i + 1, h => by
    have := tpos_bound i (fun j hj => h j (by omega))
    have := (h i (by omega)).tsz_le
    rw [tpos]; omega
/-- The formula of an image. -/
def imF (x : ByteArray) : ByteArray := x.extract 5 (5 + bt x 4)
structure ImOk (x : ByteArray) : Prop where
  len : 5 ≤ x.size
  b0 : bt x 0 = 86
  b1 : bt x 1 = 80
  n : bt x 2 ≤ 16
  r1 : 1 ≤ bt x 3
  r2 : bt x 3 ≤ 4
  f1 : 1 ≤ bt x 4
  f2 : bt x 4 ≤ 40
  fl : 5 + bt x 4 ≤ x.size
  fm : fscan (bt x 3) (imF x) (imF x).size 0 0 0 = none
  ts : TsOk x (5 + bt x 4) (bt x 3)
def imT (x : ByteArray) (i : Nat) : TabN := tabAt x (tpos x (5 + bt x 4) i)
theorem imF_size {x : ByteArray} (h : 5 + bt x 4 ≤ x.size) : (imF x).size = bt x 4 := by unfold imF; rw [ByteArray.size_extract]; omega

end Mc
end Go.Proofs.Ytohefinejdfhaaa
namespace Go.Proofs.Ytohefinejdfhaaa
namespace Mc
open Go.RowKit

theorem sumG_snoc : ∀ (l : List Bool) (i : Nat) (b : Bool), sumG i (l ++ [b]) = sumG i l + if b then 2 ^ (i + l.length) else 0
  | [], i, b => by simp [sumG]
  | c :: l, i, b => by
    rw [List.cons_append, sumG, sumG, sumG_snoc l (i + 1) b, List.length_cons, show i + 1 + l.length = i + (l.length + 1) by omega]
    omega
theorem sumG_bit : ∀ (l : List Bool) (k : Nat), sumG 0 l / 2 ^ k % 2 = (l.getD k false).toNat
  | [], k => by simp [sumG]
  | b :: l, 0 => by
    rw [sumG, sumG_succ]
    cases b <;> simp <;> omega
  | b :: l, k + 1 => by
    rw [sumG, sumG_succ, Nat.pow_succ, Nat.mul_comm (2 ^ k) 2, ← Nat.div_div_eq_div_mul]
    have e : ((if b then 2 ^ 0 else 0) + 2 * sumG 0 l) / 2 = sumG 0 l := by cases b <;> simp <;> omega
    rw [e, sumG_bit l k]
    rfl
theorem sumG_or (l : List Bool) : sumG 0 l ||| 2 ^ l.length = sumG 0 l + 2 ^ l.length := by
  have h := sumG_lt l 0
  rw [Nat.zero_add, Nat.pow_zero] at h
  have := Nat.two_pow_add_eq_or_of_lt (i := l.length) (b := sumG 0 l) (by omega) 1
  rw [Nat.mul_one] at this
  rw [Nat.or_comm, ← this, Nat.add_comm]
theorem sumG_le (l : List Bool) (h : l.length ≤ 4) : sumG 0 l ≤ 15 := by
  have h1 := sumG_lt l 0
  rw [Nat.zero_add, Nat.pow_zero] at h1
  have : 2 ^ l.length ≤ 2 ^ 4 := Nat.pow_le_pow_right (by decide) h
  omega

end Mc
end Go.Proofs.Ytohefinejdfhaaa
namespace Go.Proofs.Ytohefinejdfhaaa
namespace Mc
open Go.RowKit
attribute [local go_sem ↓] Go.wp_at_zero Go.wp_at_succ

/-- What formPlace answers. -/
def fpl : Option Nat → Int
  | none => -1
  | some k => (k : Int)
def isD (b : Nat) : Bool := decide (48 ≤ b ∧ b ≤ 57)
set_option maxRecDepth 20000 in
theorem digit_any (w : World) (b : Nat) : Calls Try.prog 107 #[.int .u8 (b : Int)] w fun e w' => e = .returned (.bool (isD b)) ∧ w' = w := by
  unfold isD
  have hc : (48 ≤ (b : Int) ∧ (b : Int) ≤ 57 ∧ (48 ≤ b ∧ b ≤ 57)) ∨ (48 ≤ (b : Int) ∧ 57 < (b : Int) ∧ ¬ (48 ≤ b ∧ b ≤ 57)) ∨ ((b : Int) < 48 ∧ (b : Int) < 48 ∧ ¬ (48 ≤ b ∧ b ≤ 57)) := by omega
  rcases hc with ⟨i1, i2, i3⟩ | ⟨i1, i2, i3⟩ | ⟨i1, i2, i3⟩
  · rw [decide_eq_true i3]
    clear i3
    go_enter Try.func107, Try.ntmps107
    go_wp2
    go_ret
    exact ⟨rfl, rfl⟩
  · rw [decide_eq_false i3]
    clear i3
    go_enter Try.func107, Try.ntmps107
    go_wp2
    go_ret
    exact ⟨by simpa using i2, rfl⟩
  · rw [decide_eq_false i3]
    clear i3
    go_enter Try.func107, Try.ntmps107
    go_wp2
    go_ret
    exact ⟨rfl, rfl⟩
theorem ft0 (R o b : Nat) : ftake R o 0 b = (fbeg R b).map fun d' => (o, d') := by unfold ftake; rw [if_pos rfl]
theorem ft2 {R o b : Nat} (ho : o ≠ 0) (hb : b ≠ 41) : ftake R o 2 b = (fbeg R b).map fun d' => (o, d') := by unfold ftake; rw [if_neg (by decide), if_neg (by decide), if_neg ho, if_neg hb]
theorem ft41 {R o : Nat} (ho : o ≠ 0) : ftake R o 2 41 = some (o - 1, 2) := by unfold ftake; rw [if_neg (by decide), if_neg (by decide), if_neg ho, if_pos rfl]
theorem fb_let {R b : Nat} (h1 : 97 ≤ b) (h2 : b < 97 + R) : fbeg R b = some 2 := by unfold fbeg; rw [if_pos ⟨h1, h2⟩]
theorem fb_bang (R : Nat) : fbeg R 33 = some 0 := by unfold fbeg; rw [if_neg (by omega), if_pos rfl]
theorem fb_dig {R b : Nat} (h1 : 48 ≤ b) (h2 : b ≤ 57) : fbeg R b = some 1 := by unfold fbeg; rw [if_neg (by omega), if_neg (by omega), if_pos ⟨h1, h2⟩]
theorem fb_no {R b : Nat} (h1 : ¬ (97 ≤ b ∧ b < 97 + R)) (h2 : b ≠ 33) (h3 : ¬ (48 ≤ b ∧ b ≤ 57)) : fbeg R b = none := by unfold fbeg; rw [if_neg h1, if_neg h2, if_neg h3]
/-- What is due, by need and head. -/
def NH (d : Nat) (nd hd : Bool) : Prop := (d = 0 ∧ nd = true ∧ hd = false) ∨ (d = 1 ∧ hd = true) ∨ (d = 2 ∧ nd = false ∧ hd = false)
theorem fscan_none {R : Nat} {T : ByteArray} {i o d : Nat} (hi : i < T.size) (h : ftake R o d (bt T i) = none) : fscan R T (T.size - i) i o d = some i := by
  rw [show T.size - i = (T.size - (i + 1)) + 1 by omega, fscan, h]
theorem fscan_some {R : Nat} {T : ByteArray} {i o d o' d' : Nat} (hi : i < T.size) (h : ftake R o d (bt T i) = some (o', d')) : fscan R T (T.size - i) i o d = fscan R T (T.size - (i + 1)) (i + 1) o' d' := by
  rw [show T.size - i = (T.size - (i + 1)) + 1 by omega, fscan, h]
/-- The loop's state. -/
def FpI (R : Nat) (T : ByteArray) (i o d : Nat) (nd hd : Bool) : Prop := i ≤ T.size ∧ o ≤ i ∧ NH d nd hd ∧ fscan R T (T.size - i) i o d = fscan R T T.size 0 0 0
theorem FpI.next {R : Nat} {T : ByteArray} {i o d : Nat} {nd hd : Bool} (h : FpI R T i o d nd hd) (hi : i < T.size) {o' d' : Nat} (ht : ftake R o d (bt T i) = some (o', d')) (ho : o' ≤ o + 1) {nd' hd' : Bool} (hn : NH d' nd' hd') : FpI R T (i + 1) o' d' nd' hd' := by
  obtain ⟨h1, h2, h3, h4⟩ := h
  exact ⟨hi, by omega, hn, by rw [← fscan_some hi ht]; exact h4⟩
theorem FpI.stop {R : Nat} {T : ByteArray} {i o d : Nat} {nd hd : Bool} (h : FpI R T i o d nd hd) (hi : i < T.size) (ht : ftake R o d (bt T i) = none) : (i : Int) = fpl (fscan R T T.size 0 0 0) := by
  obtain ⟨h1, h2, h3, h4⟩ := h
  rw [← h4, fscan_none hi ht]; rfl

set_option maxRecDepth 20000 in
set_option maxHeartbeats 4000000 in
theorem formPlace_any (w : World) (T : ByteArray) (R : Nat) (hR : R ≤ 100) (hT : T.size ≤ 100000) :
    Calls Try.prog 82 #[.string T, .int .i64 (R : Int)] w fun e w' => e = .returned (.int .i64 (fpl (fscan R T T.size 0 0 0))) ∧ w' = w := by
  have hTI : (T.size : Int) ≤ 100000 := by omega
  have hRI : (R : Int) ≤ 100 := by omega
  go_enter Try.func82, Try.ntmps82
  go_wp2_with fail
  go_loop [5, 6, 7, 8] (fun ox nx hx ix => ∃ (i o d : Nat) (nd hd : Bool), ox = .int .i64 (o : Int) ∧ nx = .bool nd ∧ hx = .bool hd ∧ ix = .int .i64 (i : Int) ∧ Hid (FpI R T i o d nd hd)) (fun _ _ _ ix => lenLeft T.size ix)
  case atStart => exact ⟨0, 0, 0, true, false, rfl, rfl, rfl, rfl, Nat.zero_le _, Nat.zero_le _, Or.inl ⟨rfl, rfl, rfl⟩, rfl⟩
  case round =>
    obtain ⟨i, o, d, nd, hd, rfl, rfl, rfl, rfl, HH⟩ := hrel
    obtain ⟨hi, hoi, hnh, hsc⟩ := unhide HH
    have hoI : (o : Int) ≤ 100000 := by omega
    have ho0 : (0 : Int) ≤ (o : Int) := by omega
    by_cases hlt : i < T.size
    · have hltI : (i : Int) < (T.size : Int) := by omega
      have HLT := hide hlt
      have hbt := bt_at T i
      have hbI : ((bt T i : Nat) : Int) < 256 := by have := bt_le T i; omega
      have h0 : (0 : Int) ≤ (i : Int) := by omega
      have h1 : ((i : Int)).toNat = i := by omega
      have HDG := hide (digit_any w (bt T i))
      have HNX := hide (fun (o' d' : Nat) (nd' hd' : Bool) => (unhide HH).next hlt (o' := o') (d' := d') (nd' := nd') (hd' := hd'))
      have HST := hide ((unhide HH).stop hlt)
      have e1 : 97 ≤ bt T i → ((bt T i : Nat) : Int) - 97 = ((bt T i - 97 : Nat) : Int) := fun h => by omega
      have w1 : IntKind.u8.wrap ((bt T i - 97 : Nat) : Int) = ((bt T i - 97 : Nat) : Int) := u8_wrap _ (by have := bt_le T i; omega)
      have hbq : bt T i < 256 := bt_le T i
      generalize bt T i = b at *
      generalize hdg : isD b = dg at *
      unfold isD at hdg
      clear hi hoi hsc HH hlt
      rcases hnh with ⟨rfl, rfl, rfl⟩ | ⟨rfl, rfl⟩ | ⟨rfl, rfl, rfl⟩
      · skip
        have hc : (97 ≤ (b : Int) ∧ b < 97 + R ∧ ((b - 97 : Nat) : Int) < (R : Int)) ∨ (b : Int) = 33 ∨ (48 ≤ (b : Int) ∧ (b : Int) ≤ 57 ∧ dg = true) ∨ (97 ≤ (b : Int) ∧ ¬ b < 97 + R ∧ ¬ ((b - 97 : Nat) : Int) < (R : Int) ∧ dg = false) ∨ ((b : Int) < 97 ∧ ¬ (b : Int) = 33 ∧ ¬ (48 ≤ b ∧ b ≤ 57) ∧ (b : Int) = 41 ∧ dg = false) ∨ ((b : Int) < 97 ∧ ¬ (b : Int) = 33 ∧ ¬ (48 ≤ b ∧ b ≤ 57) ∧ ¬ (b : Int) = 41 ∧ dg = false) := by
          by_cases hh : 48 ≤ b ∧ b ≤ 57
          · rw [decide_eq_true hh] at hdg; subst hdg; simp; omega
          · rw [decide_eq_false hh] at hdg; subst hdg; simp; omega
        rcases hc with ⟨i1, i2, i3⟩ | i1 | ⟨i1, i2, i3⟩ | ⟨i1, i2, i3, i4⟩ | ⟨i1, i2, i3, i4, i5⟩ | ⟨i1, i2, i3, i4, i5⟩
        · have e2 := e1 (by omega)
          have HN := hide (unhide HNX o 2 false false (by rw [ft0, fb_let (by omega) (by omega)]; rfl) (by omega) (Or.inr (Or.inr ⟨rfl, rfl, rfl⟩)))
          clear HNX HST hdg e1 hbq
          go_wp2_with fail
          refine (unhide HDG).mono ?_
          rintro e w' ⟨rfl, hww⟩
          obtain rfl : w = w' := hww.symm
          clear hww
          go_wp2_with fail
          go_round
          case rel => exact ⟨i + 1, o, 2, false, false, rfl, rfl, rfl, by go_num, unhide HN⟩
          case measure => have := unhide HLT; simp [lenLeft, intOf]; omega
        · obtain rfl : b = 33 := by omega
          have HN := hide (unhide HNX o 0 true false (by rw [ft0, fb_bang]; rfl) (by omega) (Or.inl ⟨rfl, rfl, rfl⟩))
          clear HNX HST hdg e1 hbq
          go_wp2_with fail
          refine (unhide HDG).mono ?_
          rintro e w' ⟨rfl, hww⟩
          obtain rfl : w = w' := hww.symm
          clear hww
          go_wp2_with fail
          go_round
          case rel => exact ⟨i + 1, o, 0, true, false, rfl, rfl, rfl, by go_num, unhide HN⟩
          case measure => have := unhide HLT; simp [lenLeft, intOf]; omega
        · subst i3
          have HN := hide (unhide HNX o 1 true true (by rw [ft0, fb_dig (by omega) (by omega)]; rfl) (by omega) (Or.inr (Or.inl ⟨rfl, rfl⟩)))
          clear HNX HST hdg e1 hbq
          go_wp2_with fail
          refine (unhide HDG).mono ?_
          rintro e w' ⟨rfl, hww⟩
          obtain rfl : w = w' := hww.symm
          clear hww
          go_wp2_with fail
          go_round
          case rel => exact ⟨i + 1, o, 1, true, true, rfl, rfl, rfl, by go_num, unhide HN⟩
          case measure => have := unhide HLT; simp [lenLeft, intOf]; omega
        · subst i4
          have e2 := e1 (by omega)
          have HA := hide (unhide HST (by rw [ft0, fb_no (by omega) (by omega) (by omega)]; rfl))
          clear HNX HST hdg e1 hbq
          go_wp2_with fail
          refine (unhide HDG).mono ?_
          rintro e w' ⟨rfl, hww⟩
          obtain rfl : w = w' := hww.symm
          clear hww
          go_wp2_with fail
          go_ret
          exact ⟨ret_int (unhide HA), rfl⟩
        · subst i5
          obtain rfl : b = 41 := by omega
          have HA := hide (unhide HST (by rw [ft0, fb_no (by omega) (by omega) (by omega)]; rfl))
          clear HNX HST hdg e1 hbq
          go_wp2_with fail
          refine (unhide HDG).mono ?_
          rintro e w' ⟨rfl, hww⟩
          obtain rfl : w = w' := hww.symm
          clear hww
          go_wp2_with fail
          go_ret
          exact ⟨ret_int (unhide HA), rfl⟩
        · subst i5
          have HA := hide (unhide HST (by rw [ft0, fb_no (by omega) (by omega) (by omega)]; rfl))
          clear HNX HST hdg e1 hbq
          go_wp2_with fail
          refine (unhide HDG).mono ?_
          rintro e w' ⟨rfl, hww⟩
          obtain rfl : w = w' := hww.symm
          clear hww
          go_wp2_with fail
          go_ret
          exact ⟨ret_int (unhide HA), rfl⟩
      · have hc : ((b : Int) = 40 ∧ b = 40) ∨ (¬ (b : Int) = 40 ∧ b ≠ 40) := by omega
        rcases hc with ⟨i1, rfl⟩ | ⟨i1, i2⟩
        · have HN := hide (unhide HNX (o + 1) 0 true false (by simp [ftake]) (by omega) (Or.inl ⟨rfl, rfl, rfl⟩))
          clear HNX HST hdg e1 w1 hbq
          go_wp2_with fail
          refine (unhide HDG).mono ?_
          rintro e w' ⟨rfl, hww⟩
          obtain rfl : w = w' := hww.symm
          clear hww
          go_wp2_with fail
          go_round
          case rel => exact ⟨i + 1, o + 1, 0, true, false, by go_num, rfl, rfl, by go_num, unhide HN⟩
          case measure => have := unhide HLT; simp [lenLeft, intOf]; omega
        · have HA := hide (unhide HST (by simp [ftake, i2]))
          clear HNX HST hdg e1 w1 hbq
          go_wp2_with fail
          refine (unhide HDG).mono ?_
          rintro e w' ⟨rfl, hww⟩
          obtain rfl : w = w' := hww.symm
          clear hww
          go_wp2_with fail
          go_ret
          exact ⟨ret_int (unhide HA), rfl⟩
      · by_cases ho : o = 0
        · subst ho
          have HA := hide (unhide HST (by simp [ftake]))
          clear HNX HST hdg e1 hbq
          go_wp2_with fail
          refine (unhide HDG).mono ?_
          rintro e w' ⟨rfl, hww⟩
          obtain rfl : w = w' := hww.symm
          clear hww
          go_wp2_with fail
          go_ret
          exact ⟨ret_int (unhide HA), rfl⟩
        have hoP : (0 : Int) < (o : Int) := by omega
        have hoN : ¬ (o : Int) = 0 := by omega
        have hc : (97 ≤ (b : Int) ∧ b < 97 + R ∧ ((b - 97 : Nat) : Int) < (R : Int)) ∨ (b : Int) = 33 ∨ (48 ≤ (b : Int) ∧ (b : Int) ≤ 57 ∧ dg = true) ∨ ((b : Int) = 41 ∧ dg = false) ∨ (97 ≤ (b : Int) ∧ ¬ b < 97 + R ∧ ¬ ((b - 97 : Nat) : Int) < (R : Int) ∧ dg = false) ∨ ((b : Int) < 97 ∧ ¬ (b : Int) = 33 ∧ ¬ (48 ≤ b ∧ b ≤ 57) ∧ ¬ (b : Int) = 41 ∧ dg = false) := by
          by_cases hh : 48 ≤ b ∧ b ≤ 57
          · rw [decide_eq_true hh] at hdg; subst hdg; simp; omega
          · rw [decide_eq_false hh] at hdg; subst hdg; simp; omega
        rcases hc with ⟨i1, i2, i3⟩ | i1 | ⟨i1, i2, i3⟩ | ⟨i1, i2⟩ | ⟨i1, i2, i3, i4⟩ | ⟨i1, i2, i3, i4, i5⟩
        · have e2 := e1 (by omega)
          have HN := hide (unhide HNX o 2 false false (by rw [ft2 (by omega) (by omega), fb_let (by omega) (by omega)]; rfl) (by omega) (Or.inr (Or.inr ⟨rfl, rfl, rfl⟩)))
          clear HNX HST hdg e1 hbq
          go_wp2_with fail
          refine (unhide HDG).mono ?_
          rintro e w' ⟨rfl, hww⟩
          obtain rfl : w = w' := hww.symm
          clear hww
          go_wp2_with fail
          go_round
          case rel => exact ⟨i + 1, o, 2, false, false, rfl, rfl, rfl, by go_num, unhide HN⟩
          case measure => have := unhide HLT; simp [lenLeft, intOf]; omega
        · obtain rfl : b = 33 := by omega
          have HN := hide (unhide HNX o 0 true false (by rw [ft2 (by omega) (by omega), fb_bang]; rfl) (by omega) (Or.inl ⟨rfl, rfl, rfl⟩))
          clear HNX HST hdg e1 hbq
          go_wp2_with fail
          refine (unhide HDG).mono ?_
          rintro e w' ⟨rfl, hww⟩
          obtain rfl : w = w' := hww.symm
          clear hww
          go_wp2_with fail
          go_round
          case rel => exact ⟨i + 1, o, 0, true, false, rfl, rfl, rfl, by go_num, unhide HN⟩
          case measure => have := unhide HLT; simp [lenLeft, intOf]; omega
        · subst i3
          have HN := hide (unhide HNX o 1 false true (by rw [ft2 (by omega) (by omega), fb_dig (by omega) (by omega)]; rfl) (by omega) (Or.inr (Or.inl ⟨rfl, rfl⟩)))
          clear HNX HST hdg e1 hbq
          go_wp2_with fail
          refine (unhide HDG).mono ?_
          rintro e w' ⟨rfl, hww⟩
          obtain rfl : w = w' := hww.symm
          clear hww
          go_wp2_with fail
          go_round
          case rel => exact ⟨i + 1, o, 1, false, true, rfl, rfl, rfl, by go_num, unhide HN⟩
          case measure => have := unhide HLT; simp [lenLeft, intOf]; omega
        · obtain rfl : b = 41 := by omega
          subst i2
          have e3 : (o : Int) - 1 = ((o - 1 : Nat) : Int) := by omega
          have w3 := wrap_i64 (o - 1) (by omega)
          have HN := hide (unhide HNX (o - 1) 2 false false (ft41 (by omega)) (by omega) (Or.inr (Or.inr ⟨rfl, rfl, rfl⟩)))
          clear HNX HST hdg e1 hbq
          go_wp2_with fail
          refine (unhide HDG).mono ?_
          rintro e w' ⟨rfl, hww⟩
          obtain rfl : w = w' := hww.symm
          clear hww
          go_wp2_with fail
          go_round
          case rel => exact ⟨i + 1, (o - 1), 2, false, false, by go_num, rfl, rfl, by go_num, unhide HN⟩
          case measure => have := unhide HLT; simp [lenLeft, intOf]; omega
        · subst i4
          have e2 := e1 (by omega)
          have HA := hide (unhide HST (by rw [ft2 (by omega) (by omega), fb_no (by omega) (by omega) (by omega)]; rfl))
          clear HNX HST hdg e1 hbq
          go_wp2_with fail
          refine (unhide HDG).mono ?_
          rintro e w' ⟨rfl, hww⟩
          obtain rfl : w = w' := hww.symm
          clear hww
          go_wp2_with fail
          go_ret
          exact ⟨ret_int (unhide HA), rfl⟩
        · subst i5
          have HA := hide (unhide HST (by rw [ft2 (by omega) (by omega), fb_no (by omega) (by omega) (by omega)]; rfl))
          clear HNX HST hdg e1 hbq
          go_wp2_with fail
          refine (unhide HDG).mono ?_
          rintro e w' ⟨rfl, hww⟩
          obtain rfl : w = w' := hww.symm
          clear hww
          go_wp2_with fail
          go_ret
          exact ⟨ret_int (unhide HA), rfl⟩
    · have hi2 : i = T.size := by omega
      have hltI : ¬ (i : Int) < (T.size : Int) := by omega
      have hz : T.size - i = 0 := by omega
      rw [hz, fscan] at hsc
      rcases hnh with ⟨rfl, rfl, rfl⟩ | ⟨rfl, rfl⟩ | ⟨rfl, rfl, rfl⟩
      · rw [if_pos (Or.inr (by decide))] at hsc
        have HA : Hid ((T.size : Int) = fpl (fscan R T T.size 0 0 0)) := by show _ = _; rw [← hsc, hi2]; rfl
        clear hi hoi hsc hz HH hi2
        go_wp2_with fail
        go_ret
        exact ⟨ret_int (unhide HA), rfl⟩
      · rw [if_pos (Or.inr (by decide))] at hsc
        have HA : Hid ((T.size : Int) = fpl (fscan R T T.size 0 0 0)) := by show _ = _; rw [← hsc, hi2]; rfl
        clear hi hoi hsc hz HH hi2
        cases nd
        all_goals
          go_wp2_with fail
          go_ret
          exact ⟨ret_int (unhide HA), rfl⟩
      · by_cases ho : o = 0
        · subst ho
          rw [if_neg (by decide)] at hsc
          have HA : Hid ((-1 : Int) = fpl (fscan R T T.size 0 0 0)) := by show _ = _; rw [← hsc]; rfl
          clear hi hoi hsc hz HH hi2
          go_wp2_with fail
          go_ret
          exact ⟨ret_int (unhide HA), rfl⟩
        · rw [if_pos (Or.inl (by omega))] at hsc
          have hoP : (0 : Int) < (o : Int) := by omega
          have HA : Hid ((T.size : Int) = fpl (fscan R T T.size 0 0 0)) := by show _ = _; rw [← hsc, hi2]; rfl
          clear hi hoi hsc hz HH hi2 ho
          go_wp2_with fail
          go_ret
          exact ⟨ret_int (unhide HA), rfl⟩

end Mc
end Go.Proofs.Ytohefinejdfhaaa
