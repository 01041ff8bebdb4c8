/-
  What a formula is; the two readers go past it.
-/
import Derived.Test.YtlafngfoejngaaaPv
namespace Go.Proofs.Ytlafngfoejngaaa
namespace Mc
open Go.RowKit

/-- A formula (false), or some one behind the other (true), from a place to a place. -/
inductive FG (R : Nat) (T : ByteArray) : Bool → Nat → Nat → Prop
  | atom {i : Nat} : i < T.size → 97 ≤ bt T i → bt T i < 97 + R → FG R T false i (i + 1)
  | neg {i j : Nat} : i < T.size → bt T i = 33 → FG R T false (i + 1) j → FG R T false i j
  | brk {i k : Nat} : i < T.size → 48 ≤ bt T i → bt T i ≤ 57 → i + 1 < T.size → bt T (i + 1) = 40 → FG R T true (i + 2) k → k < T.size → bt T k = 41 → FG R T false i (k + 1)
  | nil {i : Nat} : FG R T true i i
  | cons {i j k : Nat} : FG R T false i j → FG R T true j k → FG R T true i k
theorem FG.le {R : Nat} {T : ByteArray} {b : Bool} {i j : Nat} (h : FG R T b i j) : (b = false → i < j ∧ i < T.size ∧ j ≤ T.size ∧ bt T i ≠ 41) ∧ i ≤ j := by
  induction h with
  | atom h1 h2 h3 => exact ⟨fun _ => ⟨by omega, h1, by omega, by omega⟩, by omega⟩
  | neg h1 h2 _ ih => exact ⟨fun _ => ⟨by have := (ih.1 rfl).1; omega, h1, (ih.1 rfl).2.2.1, by omega⟩, by omega⟩
  | brk h1 h2 h3 h4 h5 _ h7 h8 ih => exact ⟨fun _ => ⟨by have := ih.2; omega, h1, by omega, by omega⟩, by have := ih.2; omega⟩
  | nil => exact ⟨fun h => (by cases h), Nat.le_refl _⟩
  | cons _ _ ih1 ih2 => exact ⟨fun h => (by cases h), by have := ih1.2; have := ih2.2; omega⟩

/-- What closes so many brackets. -/
def Clo (R : Nat) (T : ByteArray) : Nat → Nat → Prop
  | 0, i => i = T.size
  | o + 1, i => ∃ k, FG R T true i k ∧ k < T.size ∧ bt T k = 41 ∧ Clo R T o (k + 1)
def Due (R : Nat) (T : ByteArray) (o : Nat) (i : Nat) : Nat → Prop
  | 0 => ∃ j, FG R T false i j ∧ Clo R T o j
  | 1 => i < T.size ∧ bt T i = 40 ∧ ∃ k, FG R T true (i + 1) k ∧ k < T.size ∧ bt T k = 41 ∧ Clo R T o (k + 1)
  | _ => Clo R T o i
theorem fbeg_due {R : Nat} {T : ByteArray} {o i d : Nat} (hi : i < T.size) (hf : fbeg R (bt T i) = some d) (h : Due R T o (i + 1) d) : ∃ j, FG R T false i j ∧ Clo R T o j := by
  unfold fbeg at hf
  split at hf
  · next hb => cases hf; exact ⟨_, .atom hi hb.1 hb.2, h⟩
  · split at hf
    · next hb =>
      cases hf
      obtain ⟨j, h1, h2⟩ := h
      exact ⟨j, .neg hi hb h1, h2⟩
    · split at hf
      · next hb =>
        cases hf
        obtain ⟨h1, h2, k, h3, h4, h5, h6⟩ := h
        exact ⟨_, .brk hi hb.1 hb.2 h1 h2 h3 h4 h5, h6⟩
      · cases hf
theorem scan_due {R : Nat} {T : ByteArray} : ∀ (n i o d : Nat), i + n = T.size → d ≤ 2 → fscan R T n i o d = none → Due R T o i d
  | 0, i, o, d, hi, hd, h => by
    unfold fscan at h
    split at h
    · cases h
    · next hn =>
      have e1 : o = 0 := by omega
      have e2 : d = 2 := by omega
      subst e1; subst e2
      show i = T.size
      omega
  | n + 1, i, o, d, hi, hd, h => by
    have hlt : i < T.size := by omega
    rw [fscan] at h
    split at h
    · cases h
    · next p hp =>
      have hp2 := (ftake_le hp hd).2
      have ih := scan_due n (i + 1) p.1 p.2 (by omega) hp2 h
      have key : ((fbeg R (bt T i)).map fun d' => (o, d')) = some p → ∃ j, FG R T false i j ∧ Clo R T o j := fun hm => by
        cases hf : fbeg R (bt T i) with
        | none => rw [hf] at hm; cases hm
        | some d' =>
          rw [hf] at hm
          simp only [Option.map_some, Option.some.injEq] at hm
          subst hm
          exact fbeg_due hlt hf ih
      unfold ftake at hp
      split at hp
      · next e => subst e; exact key hp
      · split at hp
        · next e =>
          subst e
          split at hp
          · next hb =>
            cases hp
            obtain ⟨j, h1, k, h2, h3, h4, h5⟩ := ih
            exact ⟨hlt, hb, k, .cons h1 h2, h3, h4, h5⟩
          · cases hp
        · next e0 e1 =>
          have e2 : d = 2 := by omega
          subst e2
          split at hp
          · cases hp
          · next ho =>
            obtain ⟨o', rfl⟩ : ∃ o', o = o' + 1 := ⟨o - 1, by omega⟩
            show Clo R T (o' + 1) i
            split at hp
            · next hb =>
              cases hp
              exact ⟨i, .nil, hlt, hb, ih⟩
            · obtain ⟨j, h1, k, h2, h3, h4, h5⟩ := key hp
              exact ⟨k, .cons h1 h2, h3, h4, h5⟩
/-- A text that is read to its end is a formula. -/
theorem scan_ok {R : Nat} {T : ByteArray} (h : fscan R T T.size 0 0 0 = none) : FG R T false 0 T.size := by
  obtain ⟨j, h1, h2⟩ := scan_due T.size 0 0 0 (by omega) (by omega) h
  have : j = T.size := h2
  rwa [this] at h1

theorem tk_lt {T : ByteArray} {k : Nat} (h : k < T.size) : tk T k = k + 1 := by unfold tk; rw [if_pos h]
/-- What the program's reader finds of a formula: the truth, and the place behind. -/
theorem frm_FG {R : Nat} {T : ByteArray} (tr : List Bool) {b : Bool} {i j : Nat} (h : FG R T b i j) :
    (b = false → ∃ v, ∀ n, T.size < n + i → frm T tr n i = (v, j)) ∧ (b = true → j < T.size → bt T j = 41 → ∃ c, ∀ n m c0, T.size < n + i → j ≤ m + i → lp T (frm T tr n) m i c0 = (c0 + c, j)) := by
  induction h with
  | @atom i h1 h2 h3 =>
    refine ⟨fun _ => ⟨tr.getD (bt T i - 97) false, fun n hn => ?_⟩, fun h => by cases h⟩
    obtain ⟨n, rfl⟩ : ∃ n', n = n' + 1 := ⟨n - 1, by omega⟩
    rw [frm, if_neg (by omega), if_neg (by omega), if_pos h2, tk_lt h1]
  | @neg i j h1 h2 _ ih =>
    obtain ⟨v, hv⟩ := ih.1 rfl
    refine ⟨fun _ => ⟨!v, fun n hn => ?_⟩, fun h => by cases h⟩
    obtain ⟨n, rfl⟩ : ∃ n', n = n' + 1 := ⟨n - 1, by omega⟩
    rw [frm, if_pos h2, tk_lt h1, hv n (by omega)]
  | @brk i k h1 h2 h3 h4 h5 h6 h7 h8 ih =>
    obtain ⟨c, hc⟩ := ih.2 rfl h7 h8
    refine ⟨fun _ => ⟨decide (bt T i - 48 ≤ c), fun n hn => ?_⟩, fun h => by cases h⟩
    obtain ⟨n, rfl⟩ : ∃ n', n = n' + 1 := ⟨n - 1, by omega⟩
    rw [frm, if_neg (by omega), if_pos ⟨h2, h3⟩, tk_lt h1]
    unfold sev
    rw [tk_lt h4, hc n T.size 0 (by omega) (by omega), tk_lt h7, Nat.zero_add]
  | @nil i =>
    refine ⟨fun h => (by cases h), fun _ h1 h2 => ⟨0, fun n m c0 _ _ => ?_⟩⟩
    cases m with
    | zero => rfl
    | succ m => rw [lp, if_neg (by simp [h2])]; rfl
  | @cons i j k h1 h2 ih1 ih2 =>
    refine ⟨fun h => (by cases h), fun _ h3 h4 => ?_⟩
    obtain ⟨v, hv⟩ := ih1.1 rfl
    obtain ⟨c, hc⟩ := ih2.2 rfl h3 h4
    obtain ⟨q1, q2, q3, q4⟩ := h1.le.1 rfl
    refine ⟨v.toNat + c, fun n m c0 hn hm => ?_⟩
    have q5 := h2.le.2
    obtain ⟨m, rfl⟩ : ∃ m', m = m' + 1 := ⟨m - 1, by omega⟩
    rw [lp, if_pos ⟨q2, q4⟩, hv n hn, hc n m _ (by omega) (by omega), Nat.add_assoc]

end Mc
end Go.Proofs.Ytlafngfoejngaaa
