/-
  policies.checkFormula.
  What a formula is; the two readers go past it.
  What an image is.
  The rules that are true, as the bits of a number.
-/
import Derived.Test.YtnkdbcicphnmiaaPu
namespace Go.Proofs.Ytnkdbcicphnmiaa
namespace Mc
open Go.RowKit
attribute [local go_sem ↓] Go.wp_at_zero Go.wp_at_succ

/-- The place of an error in a formula, read from a place on. -/
def fscan (R : Nat) (T : ByteArray) : Nat → Nat → Nat → Nat → Option Nat
  | 0, i, o, d => if 0 < o ∨ d ≠ 2 then some i else none
  | n + 1, i, o, d => match ftake R o d (bt T i) with
    | none => some i
    | some p => fscan R T n (i + 1) p.1 p.2
def fans : Option Nat → Nat × Nat
  | none => (0, 0)
  | some k => (6, k)
/-- The error and its place. -/
def fcheck (R : Nat) (T : ByteArray) : Nat × Nat := if 40 < T.size then (6, 40) else fans (fscan R T T.size 0 0 0)
theorem fbeg_le {R b d : Nat} (h : fbeg R b = some d) : d ≤ 2 := by
  unfold fbeg at h
  split at h
  · cases h; decide
  · split at h
    · cases h; decide
    · split at h
      · cases h; decide
      · cases h
theorem ftake_le {R o d b : Nat} {p : Nat × Nat} (h : ftake R o d b = some p) (hd : d ≤ 2) : p.1 ≤ o + 1 ∧ p.2 ≤ 2 := by
  have key : ∀ q, ((fbeg R b).map fun d' => (o, d')) = some q → q.1 ≤ o + 1 ∧ q.2 ≤ 2 := fun q hq => by
    cases hf : fbeg R b with
    | none => rw [hf] at hq; cases hq
    | some d' => rw [hf] at hq; cases hq; exact ⟨by simp, fbeg_le hf⟩
  unfold ftake at h
  split at h
  · exact key p h
  · split at h
    · split at h
      · cases h; exact ⟨Nat.le_refl _, Nat.zero_le _⟩
      · cases h
    · split at h
      · cases h
      · split at h
        · cases h; exact ⟨by simp only []; omega, hd⟩
        · exact key p h

set_option maxRecDepth 20000 in
set_option maxHeartbeats 1000000 in
theorem checkFormula_any (w : World) (T : ByteArray) (R : Nat) (hR : R ≤ 100) (hT : T.size ≤ 9223372036854775807) :
    Calls Try.prog 68 #[.string T, .int .i64 (R : Int)] w fun e w' => e = .returned (.tuple #[.int .i64 ((fcheck R T).1 : Int), .int .i64 ((fcheck R T).2 : Int)]) ∧ Below w.heap.size w w' := by
  have hTI : (T.size : Int) ≤ 9223372036854775807 := by omega
  have hRI : (R : Int) ≤ 100 := by omega
  unfold fcheck
  by_cases h40 : 40 < T.size
  · rw [if_pos h40]
    have h40I : (40 : Int) < (T.size : Int) := by omega
    go_enter Try.func68, Try.ntmps68
    go_wp2_with fail
    go_ret2
    exact ⟨rfl, Below.refl _ _⟩
  · rw [if_neg h40]
    have h40I : (T.size : Int) ≤ 40 := by omega
    have HR := hide hR
    have H40 : Hid (T.size ≤ 40) := by show _ ≤ _; omega
    clear hR h40 hT
    have hr0 : fscan R T T.size 0 0 0 = fscan R T T.size 0 0 0 := rfl
    generalize hr : fscan R T T.size 0 0 0 = r at hr0 ⊢
    clear hr0
    have HRR := hide hr
    clear hr
    go_enter Try.func68, Try.ntmps68
    go_wp2_with fail
    have HF0 : Hid (Fr [] w (w.alloc (Obj.cells #[.int .i64 (R : Int), .int .i64 0, .int .i64 0] 159)) ∧ FB (w.alloc (Obj.cells #[.int .i64 (R : Int), .int .i64 0, .int .i64 0] 159)) w.heap.size R 0 0) := ⟨Fr.ofAlloc _ _, ⟨heap_alloc_new _ _⟩⟩
    go_loopw [7] (fun ix wr => ∃ (i o d : Nat), ix = .int .i64 (i : Int) ∧ Hid (i ≤ T.size ∧ o ≤ i ∧ d ≤ 2 ∧ Fr [] w wr ∧ FB wr w.heap.size R o d ∧ fscan R T (T.size - i) i o d = r)) (fun ix _ => lenLeft T.size ix)
    case atStart => exact ⟨0, 0, 0, rfl, Nat.zero_le _, Nat.le_refl _, Nat.zero_le _, (unhide HF0).1, (unhide HF0).2, unhide HRR⟩
    case round =>
      clear HF0
      rename World => wr
      obtain ⟨i, o, d, rfl, HH⟩ := hrel
      obtain ⟨hi, ho, hd, hfr, hfb, he⟩ := unhide HH
      clear HH
      by_cases hlt : i < T.size
      · have hltI : (i : Int) < (T.size : Int) := by omega
        have hb := bt_at T i
        have hbI : ((bt T i : Nat) : Int) < 256 := by have := bt_le T i; omega
        have h0 : (0 : Int) ≤ (i : Int) := by omega
        have h1 : ((i : Int)).toNat = i := by omega
        have HTK := hide (ftake_any wr w.heap.size R o d (bt T i) hfb (unhide HR) (bt_le T i) (by have := unhide H40; omega) hd)
        rw [show T.size - i = (T.size - (i + 1)) + 1 by omega, fscan] at he
        have HLT := hide hlt
        have HFR := hide hfr
        cases hx : ftake R o d (bt T i) with
        | none =>
          rw [hx] at he HTK
          have HE : Hid (some i = r) := he
          clear hi ho hd hfr hfb he
          go_wp2_with fail
          refine (unhide HTK).mono ?_
          rintro e w2 ⟨rfl, hf2⟩
          have HF2 := hide hf2
          clear hf2
          go_wp2_with fail
          go_ret2
          rw [← show some i = r from unhide HE]
          exact ⟨rfl, ((unhide HFR).and (unhide HF2) (fun x hx => Or.inr (by simp at hx; omega))).below (fun x hx => by cases hx)⟩
        | some p =>
          rw [hx] at he HTK
          have hle := ftake_le hx hd
          have HE : Hid (i + 1 ≤ T.size ∧ p.1 ≤ i + 1 ∧ p.2 ≤ 2 ∧ fscan R T (T.size - (i + 1)) (i + 1) p.1 p.2 = r) := ⟨hlt, by omega, hle.2, he⟩
          clear hi ho hd hfr hfb he hle hx
          go_wp2_with fail
          refine (unhide HTK).mono ?_
          rintro e w2 ⟨rfl, hf2, hfb2⟩
          have HF2 := hide hf2
          have HFB2 := hide hfb2
          clear hf2 hfb2
          go_wp2_with fail
          go_roundw
          case rel =>
            obtain ⟨r1, r2, r3, r4⟩ := unhide HE
            exact ⟨i + 1, p.1, p.2, by go_num, r1, r2, r3, (unhide HFR).and (unhide HF2) (fun x hx => Or.inr (by simp at hx; omega)), unhide HFB2, r4⟩
          case measure => have := unhide HLT; simp [lenLeft, intOf]; omega
      · have hi2 : i = T.size := by omega
        subst hi2
        rw [Nat.sub_self, fscan] at he
        have HFR := hide hfr
        have c1 := hfb.c1
        have c2 := hfb.c2
        by_cases hbad : 0 < o ∨ d ≠ 2
        · rw [if_pos hbad] at he
          have HE := hide he
          have hbI : (0 : Int) < (o : Int) ∨ ¬ (0 : Int) < (o : Int) ∧ ¬ (d : Int) = 2 := by omega
          clear hi ho hd hfr hfb he hbad
          rcases hbI with k1 | ⟨k1, k2⟩
          all_goals
            go_wp2_with fail
            go_ret2
            rw [← unhide HE]
            exact ⟨rfl, (unhide HFR).below (fun x hx => by cases hx)⟩
        · rw [if_neg hbad] at he
          have HE := hide he
          have ho0 : o = 0 := by omega
          have hd2 : d = 2 := by omega
          subst ho0
          subst hd2
          clear hi ho hd hfr hfb he hbad
          go_wp2_with fail
          go_ret2
          rw [← unhide HE]
          exact ⟨rfl, (unhide HFR).below (fun x hx => by cases hx)⟩

end Mc
end Go.Proofs.Ytnkdbcicphnmiaa
namespace Go.Proofs.Ytnkdbcicphnmiaa
namespace Mc
open Go.RowKit

/-- A formula (false), or some one behind the other (true), from a place to a place: the least relation of the kind. -/
def FG (R : Nat) (T : ByteArray) (b : Bool) (i j : Nat) : Prop := ∀ P : Bool → Nat → Nat → Prop,
  (∀ i, i < T.size → 97 ≤ bt T i → bt T i < 97 + R → P false i (i + 1)) →
  (∀ i j, i < T.size → bt T i = 33 → P false (i + 1) j → P false i j) →
  (∀ i k, i < T.size → 48 ≤ bt T i → bt T i ≤ 57 → i + 1 < T.size → bt T (i + 1) = 40 → P true (i + 2) k → k < T.size → bt T k = 41 → P false i (k + 1)) →
  (∀ i, P true i i) → (∀ i j k, P false i j → P true j k → P true i k) → P b i j
section
variable {R : Nat} {T : ByteArray} {i j k : Nat}
theorem FG.atom (h1 : i < T.size) (h2 : 97 ≤ bt T i) (h3 : bt T i < 97 + R) : FG R T false i (i + 1) := fun _ p _ _ _ _ => p i h1 h2 h3
theorem FG.neg (h1 : i < T.size) (h2 : bt T i = 33) (h : FG R T false (i + 1) j) : FG R T false i j := fun P p1 p2 p3 p4 p5 => p2 i j h1 h2 (h P p1 p2 p3 p4 p5)
theorem FG.brk (h1 : i < T.size) (h2 : 48 ≤ bt T i) (h3 : bt T i ≤ 57) (h4 : i + 1 < T.size) (h5 : bt T (i + 1) = 40) (h : FG R T true (i + 2) k) (h7 : k < T.size) (h8 : bt T k = 41) : FG R T false i (k + 1) := fun P p1 p2 p3 p4 p5 => p3 i k h1 h2 h3 h4 h5 (h P p1 p2 p3 p4 p5) h7 h8
theorem FG.nil : FG R T true i i := fun _ _ _ _ p _ => p i
theorem FG.cons (h1 : FG R T false i j) (h2 : FG R T true j k) : FG R T true i k := fun P p1 p2 p3 p4 p5 => p5 i j k (h1 P p1 p2 p3 p4 p5) (h2 P p1 p2 p3 p4 p5)
theorem FG.ind {P : Bool → Nat → Nat → Prop} (atom : ∀ i, i < T.size → 97 ≤ bt T i → bt T i < 97 + R → P false i (i + 1))
    (neg : ∀ i j, i < T.size → bt T i = 33 → FG R T false (i + 1) j → P false (i + 1) j → P false i j)
    (brk : ∀ i k, i < T.size → 48 ≤ bt T i → bt T i ≤ 57 → i + 1 < T.size → bt T (i + 1) = 40 → FG R T true (i + 2) k → k < T.size → bt T k = 41 → P true (i + 2) k → P false i (k + 1))
    (nil : ∀ i, P true i i) (cons : ∀ i j k, FG R T false i j → FG R T true j k → P false i j → P true j k → P true i k) {b : Bool} {i j : Nat} (h : FG R T b i j) : P b i j :=
  (h (fun b i j => FG R T b i j ∧ P b i j) (fun i a b c => ⟨FG.atom a b c, atom i a b c⟩) (fun i j a b c => ⟨FG.neg a b c.1, neg i j a b c.1 c.2⟩)
    (fun i k a b c d e f g h => ⟨FG.brk a b c d e f.1 g h, brk i k a b c d e f.1 g h f.2⟩) (fun i => ⟨FG.nil, nil i⟩) (fun i j k a b => ⟨FG.cons a.1 b.1, cons i j k a.1 b.1 a.2 b.2⟩)).2
end
theorem FG.le {R : Nat} {T : ByteArray} {b : Bool} {i j : Nat} (h : FG R T b i j) : (b = false → i < j ∧ i < T.size ∧ j ≤ T.size ∧ bt T i ≠ 41) ∧ i ≤ j := by
  refine FG.ind (P := fun b i j => (b = false → i < j ∧ i < T.size ∧ j ≤ T.size ∧ bt T i ≠ 41) ∧ i ≤ j) ?_ ?_ ?_ ?_ ?_ h
  · intro i h1 h2 h3
    exact ⟨fun _ => ⟨by omega, h1, by omega, by omega⟩, by omega⟩
  · intro i j h1 h2 _ ih
    have ih1 := ih.1 rfl
    exact ⟨fun _ => ⟨by omega, h1, ih1.2.2.1, by omega⟩, by omega⟩
  · intro i k h1 h2 h3 h4 h5 _ h7 h8 ih
    have ih2 := ih.2
    exact ⟨fun _ => ⟨by omega, h1, by omega, by omega⟩, by omega⟩
  · intro i
    exact ⟨fun h => (by cases h), Nat.le_refl _⟩
  · intro i j k _ _ ih1 ih2
    have := ih1.2
    have := ih2.2
    exact ⟨fun h => (by cases h), by omega⟩

/-- What closes so many brackets. -/
def Clo (R : Nat) (T : ByteArray) : Nat → Nat → Prop
  | 0, i => i = T.size
  | o + 1, i => ∃ k, FG R T true i k ∧ k < T.size ∧ bt T k = 41 ∧ Clo R T o (k + 1)
def Due (R : Nat) (T : ByteArray) (o : Nat) (i : Nat) : Nat → Prop
  | 0 => ∃ j, FG R T false i j ∧ Clo R T o j
  | 1 => i < T.size ∧ bt T i = 40 ∧ ∃ k, FG R T true (i + 1) k ∧ k < T.size ∧ bt T k = 41 ∧ Clo R T o (k + 1)
  | _ => Clo R T o i
theorem fbeg_due {R : Nat} {T : ByteArray} {o i d : Nat} (hi : i < T.size) (hf : fbeg R (bt T i) = some d) (h : Due R T o (i + 1) d) : ∃ j, FG R T false i j ∧ Clo R T o j := by
  unfold fbeg at hf
  split at hf
  · next hb => cases hf; exact ⟨_, .atom hi hb.1 hb.2, h⟩
  · split at hf
    · next hb =>
      cases hf
      obtain ⟨j, h1, h2⟩ := h
      exact ⟨j, .neg hi hb h1, h2⟩
    · split at hf
      · next hb =>
        cases hf
        obtain ⟨h1, h2, k, h3, h4, h5, h6⟩ := h
        exact ⟨_, .brk hi hb.1 hb.2 h1 h2 h3 h4 h5, h6⟩
      · cases hf
theorem scan_due {R : Nat} {T : ByteArray} : ∀ (n i o d : Nat), i + n = T.size → d ≤ 2 → fscan R T n i o d = none → Due R T o i d
  | 0, i, o, d, hi, hd, h => by
    unfold fscan at h
    split at h
    · cases h
    · next hn =>
      have e1 : o = 0 := by omega
      have e2 : d = 2 := by omega
      subst e1; subst e2
      show i = T.size
      omega
  | n + 1, i, o, d, hi, hd, h => by
    have hlt : i < T.size := by omega
    rw [fscan] at h
    split at h
    · cases h
    · next p hp =>
      have hp2 := (ftake_le hp hd).2
      have ih := scan_due n (i + 1) p.1 p.2 (by omega) hp2 h
      have key : ((fbeg R (bt T i)).map fun d' => (o, d')) = some p → ∃ j, FG R T false i j ∧ Clo R T o j := fun hm => by
        cases hf : fbeg R (bt T i) with
        | none => rw [hf] at hm; cases hm
        | some d' =>
          rw [hf] at hm
          simp only [Option.map_some, Option.some.injEq] at hm
          subst hm
          exact fbeg_due hlt hf ih
      unfold ftake at hp
      split at hp
      · next e => subst e; exact key hp
      · split at hp
        · next e =>
          subst e
          split at hp
          · next hb =>
            cases hp
            obtain ⟨j, h1, k, h2, h3, h4, h5⟩ := ih
            exact ⟨hlt, hb, k, .cons h1 h2, h3, h4, h5⟩
          · cases hp
        · next e0 e1 =>
          have e2 : d = 2 := by omega
          subst e2
          split at hp
          · cases hp
          · next ho =>
            obtain ⟨o', rfl⟩ : ∃ o', o = o' + 1 := ⟨o - 1, by omega⟩
            show Clo R T (o' + 1) i
            split at hp
            · next hb =>
              cases hp
              exact ⟨i, .nil, hlt, hb, ih⟩
            · obtain ⟨j, h1, k, h2, h3, h4, h5⟩ := key hp
              exact ⟨k, .cons h1 h2, h3, h4, h5⟩
/-- A text that is read to its end is a formula. -/
theorem scan_ok {R : Nat} {T : ByteArray} (h : fscan R T T.size 0 0 0 = none) : FG R T false 0 T.size := by
  obtain ⟨j, h1, h2⟩ := scan_due T.size 0 0 0 (by omega) (by omega) h
  have : j = T.size := h2
  rwa [this] at h1

theorem tk_lt {T : ByteArray} {k : Nat} (h : k < T.size) : tk T k = k + 1 := by unfold tk; rw [if_pos h]
/-- What the program's reader finds of a formula: the truth, and the place behind. -/
theorem frm_FG {R : Nat} {T : ByteArray} (tr : List Bool) {b : Bool} {i j : Nat} (h : FG R T b i j) :
    (b = false → ∃ v, ∀ n, T.size < n + i → frm T tr n i = (v, j)) ∧ (b = true → j < T.size → bt T j = 41 → ∃ c, ∀ n m c0, T.size < n + i → j ≤ m + i → lp T (frm T tr n) m i c0 = (c0 + c, j)) := by
  refine FG.ind (P := fun b i j => (b = false → ∃ v, ∀ n, T.size < n + i → frm T tr n i = (v, j)) ∧ (b = true → j < T.size → bt T j = 41 → ∃ c, ∀ n m c0, T.size < n + i → j ≤ m + i → lp T (frm T tr n) m i c0 = (c0 + c, j))) ?_ ?_ ?_ ?_ ?_ h
  · intro i h1 h2 h3
    refine ⟨fun _ => ⟨tr.getD (bt T i - 97) false, fun n hn => ?_⟩, fun h => by cases h⟩
    obtain ⟨n, rfl⟩ : ∃ n', n = n' + 1 := ⟨n - 1, by omega⟩
    rw [frm, if_neg (by omega), if_neg (by omega), if_pos h2, tk_lt h1]
  · intro i j h1 h2 _ ih
    obtain ⟨v, hv⟩ := ih.1 rfl
    refine ⟨fun _ => ⟨!v, fun n hn => ?_⟩, fun h => by cases h⟩
    obtain ⟨n, rfl⟩ : ∃ n', n = n' + 1 := ⟨n - 1, by omega⟩
    rw [frm, if_pos h2, tk_lt h1, hv n (by omega)]
  · intro i k h1 h2 h3 h4 h5 h6 h7 h8 ih
    obtain ⟨c, hc⟩ := ih.2 rfl h7 h8
    refine ⟨fun _ => ⟨decide (bt T i - 48 ≤ c), fun n hn => ?_⟩, fun h => by cases h⟩
    obtain ⟨n, rfl⟩ : ∃ n', n = n' + 1 := ⟨n - 1, by omega⟩
    rw [frm, if_neg (by omega), if_pos ⟨h2, h3⟩, tk_lt h1]
    unfold sev
    rw [tk_lt h4, hc n T.size 0 (by omega) (by omega), tk_lt h7, Nat.zero_add]
  · intro i
    refine ⟨fun h => (by cases h), fun _ h1 h2 => ⟨0, fun n m c0 _ _ => ?_⟩⟩
    cases m with
    | zero => rfl
    | succ m => rw [lp, if_neg (by simp [h2])]; rfl
  · intro i j k h1 h2 ih1 ih2
    refine ⟨fun h => (by cases h), fun _ h3 h4 => ?_⟩
    obtain ⟨v, hv⟩ := ih1.1 rfl
    obtain ⟨c, hc⟩ := ih2.2 rfl h3 h4
    obtain ⟨q1, q2, q3, q4⟩ := h1.le.1 rfl
    refine ⟨v.toNat + c, fun n m c0 hn hm => ?_⟩
    have q5 := h2.le.2
    obtain ⟨m, rfl⟩ : ∃ m', m = m' + 1 := ⟨m - 1, by omega⟩
    rw [lp, if_pos ⟨q2, q4⟩, hv n hn, hc n m _ (by omega) (by omega), Nat.add_assoc]

end Mc
end Go.Proofs.Ytnkdbcicphnmiaa
namespace Go.Proofs.Ytnkdbcicphnmiaa
namespace Mc
open Go.RowKit

theorem bt_ext (T : ByteArray) (a b k : Nat) : bt (T.extract a b) k = if a + k < b then bt T (a + k) else 0 := by
  have hs : (T.extract a b).size = min b T.size - a := ByteArray.size_extract
  unfold bt
  by_cases h : k < (T.extract a b).size
  · rw [dif_pos h, if_pos (by omega), dif_pos (by omega)]
    rw [ByteArray.getElem_extract]
  · rw [dif_neg h]
    by_cases h2 : a + k < b
    · rw [if_pos h2, dif_neg (by omega)]
    · rw [if_neg h2]
theorem bt_rest (T : ByteArray) (a k : Nat) : bt (T.extract a T.size) k = bt T (a + k) := by
  rw [bt_ext]
  split
  · rfl
  · next h => rw [bt_end h]
theorem ext_ext (T : ByteArray) (a b : Nat) : (T.extract a T.size).extract b (T.extract a T.size).size = T.extract (a + b) T.size := by
  rw [ByteArray.extract_extract, ByteArray.size_extract]
  congr 1
  omega

/-- The table that a text has at a place. -/
def tabAt (x : ByteArray) (p : Nat) : TabN := ⟨bt x p, bt x (p + 1), fun b => bt x (p + 2 + b), fun q => decide (bt x (p + 258 + q) = 1), fun q c => bt x (p + 258 + bt x p + (q * bt x (p + 1) + c))⟩
def tsz (x : ByteArray) (p : Nat) : Nat := 258 + bt x p + bt x p * bt x (p + 1)
structure TOk (x : ByteArray) (p : Nat) : Prop where
  s1 : 1 ≤ bt x p
  s2 : bt x p ≤ 24
  c1 : 1 ≤ bt x (p + 1)
  c2 : bt x (p + 1) ≤ 24
  size : p + tsz x p ≤ x.size
  cl : ∀ b, b < 256 → bt x (p + 2 + b) < bt x (p + 1)
  gr : ∀ q, q < bt x p → bt x (p + 258 + q) < 2
  nx : ∀ k, k < bt x p * bt x (p + 1) → bt x (p + 258 + bt x p + k) < bt x p
theorem TOk.ok {x : ByteArray} {p : Nat} (h : TOk x p) : (tabAt x p).Ok := by
  refine ⟨h.s1, h.c1, h.s2, h.c2, h.cl, fun q c hq hc => h.nx _ ?_⟩
  have h1 : (q + 1) * bt x (p + 1) ≤ bt x p * bt x (p + 1) := Nat.mul_le_mul_right _ hq
  rw [Nat.add_mul, Nat.one_mul] at h1
  have : c < bt x (p + 1) := hc
  omega
theorem tabAt_rest (x : ByteArray) (a p : Nat) : tabAt (x.extract a x.size) p = tabAt x (a + p) := by
  unfold tabAt
  simp only [bt_rest, Nat.add_assoc]
theorem tsz_rest (x : ByteArray) (a p : Nat) : tsz (x.extract a x.size) p = tsz x (a + p) := by
  unfold tsz
  simp only [bt_rest, Nat.add_assoc]
theorem TOk_rest {x : ByteArray} {a p : Nat} (ha : a ≤ x.size) : TOk (x.extract a x.size) p ↔ TOk x (a + p) := by
  have e : (x.extract a x.size).size = x.size - a := by rw [ByteArray.size_extract]; omega
  constructor
  · rintro ⟨h1, h2, h3, h4, h5, h6, h7, h8⟩
    simp only [bt_rest, tsz_rest, e, ← Nat.add_assoc] at h1 h2 h3 h4 h5 h6 h7 h8
    exact ⟨h1, h2, h3, h4, by omega, h6, h7, h8⟩
  · rintro ⟨h1, h2, h3, h4, h5, h6, h7, h8⟩
    refine ⟨?_, ?_, ?_, ?_, ?_, ?_, ?_, ?_⟩ <;> simp only [bt_rest, tsz_rest, e, ← Nat.add_assoc] <;> first | assumption | omega
theorem tsz_pos (x : ByteArray) (p : Nat) : 258 ≤ tsz x p := by unfold tsz; omega
theorem TOk.tsz_le {x : ByteArray} {p : Nat} (h : TOk x p) : tsz x p ≤ 858 := by
  unfold tsz
  have : bt x p * bt x (p + 1) ≤ 24 * 24 := Nat.mul_le_mul h.s2 h.c2
  have := h.s2
  omega
/-- Where the tables begin. -/
def tpos (x : ByteArray) (p : Nat) : Nat → Nat
  | 0 => p
  | i + 1 => tpos x p i + tsz x (tpos x p i)
/-- So many tables stand there, and nothing behind them. -/
def TsOk (x : ByteArray) (p r : Nat) : Prop := (∀ i, i < r → TOk x (tpos x p i)) ∧ tpos x p r = x.size
theorem tpos_le {x : ByteArray} {p : Nat} (hp : p ≤ x.size) : ∀ i, (∀ j, j < i → TOk x (tpos x p j)) → tpos x p i ≤ x.size
  | 0, _ => hp
  | i + 1, h => (h i (by omega)).size
theorem tpos_bound {x : ByteArray} {p : Nat} : ∀ i, (∀ j, j < i → TOk x (tpos x p j)) → tpos x p i ≤ p + 858 * i
  | 0, _ => by rw [tpos]; omega
  | i + 1, h => by
    have := tpos_bound i (fun j hj => h j (by omega))
    have := (h i (by omega)).tsz_le
    rw [tpos]; omega
/-- The formula of an image. -/
def imF (x : ByteArray) : ByteArray := x.extract 5 (5 + bt x 4)
structure ImOk (x : ByteArray) : Prop where
  len : 5 ≤ x.size
  b0 : bt x 0 = 86
  b1 : bt x 1 = 80
  n : bt x 2 ≤ 16
  r1 : 1 ≤ bt x 3
  r2 : bt x 3 ≤ 4
  f1 : 1 ≤ bt x 4
  f2 : bt x 4 ≤ 40
  fl : 5 + bt x 4 ≤ x.size
  fm : fscan (bt x 3) (imF x) (imF x).size 0 0 0 = none
  ts : TsOk x (5 + bt x 4) (bt x 3)
def imT (x : ByteArray) (i : Nat) : TabN := tabAt x (tpos x (5 + bt x 4) i)
theorem imF_size {x : ByteArray} (h : 5 + bt x 4 ≤ x.size) : (imF x).size = bt x 4 := by unfold imF; rw [ByteArray.size_extract]; omega

end Mc
end Go.Proofs.Ytnkdbcicphnmiaa
namespace Go.Proofs.Ytnkdbcicphnmiaa
namespace Mc
open Go.RowKit

theorem sumG_snoc : ∀ (l : List Bool) (i : Nat) (b : Bool), sumG i (l ++ [b]) = sumG i l + if b then 2 ^ (i + l.length) else 0
  | [], i, b => by simp [sumG]
  | c :: l, i, b => by
    rw [List.cons_append, sumG, sumG, sumG_snoc l (i + 1) b, List.length_cons, show i + 1 + l.length = i + (l.length + 1) by omega]
    omega
theorem sumG_bit : ∀ (l : List Bool) (k : Nat), sumG 0 l / 2 ^ k % 2 = (l.getD k false).toNat
  | [], k => by simp [sumG]
  | b :: l, 0 => by
    rw [sumG, sumG_succ]
    cases b <;> simp <;> omega
  | b :: l, k + 1 => by
    rw [sumG, sumG_succ, Nat.pow_succ, Nat.mul_comm (2 ^ k) 2, ← Nat.div_div_eq_div_mul]
    have e : ((if b then 2 ^ 0 else 0) + 2 * sumG 0 l) / 2 = sumG 0 l := by cases b <;> simp <;> omega
    rw [e, sumG_bit l k]
    rfl
theorem sumG_or (l : List Bool) : sumG 0 l ||| 2 ^ l.length = sumG 0 l + 2 ^ l.length := by
  have h := sumG_lt l 0
  rw [Nat.zero_add, Nat.pow_zero] at h
  have := Nat.two_pow_add_eq_or_of_lt (i := l.length) (b := sumG 0 l) (by omega) 1
  rw [Nat.mul_one] at this
  rw [Nat.or_comm, ← this, Nat.add_comm]
theorem sumG_le (l : List Bool) (h : l.length ≤ 4) : sumG 0 l ≤ 15 := by
  have h1 := sumG_lt l 0
  rw [Nat.zero_add, Nat.pow_zero] at h1
  have : 2 ^ l.length ≤ 2 ^ 4 := Nat.pow_le_pow_right (by decide) h
  omega

end Mc
end Go.Proofs.Ytnkdbcicphnmiaa
