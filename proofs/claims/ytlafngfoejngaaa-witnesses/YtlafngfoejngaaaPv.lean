/-
  policies.checkFormula.
-/
import Derived.Test.YtlafngfoejngaaaPu
namespace Go.Proofs.Ytlafngfoejngaaa
namespace Mc
open Go.RowKit
attribute [local go_sem ↓] Go.wp_at_zero Go.wp_at_succ

/-- The place of an error in a formula, read from a place on. -/
def fscan (R : Nat) (T : ByteArray) : Nat → Nat → Nat → Nat → Option Nat
  | 0, i, o, d => if 0 < o ∨ d ≠ 2 then some i else none
  | n + 1, i, o, d => match ftake R o d (bt T i) with
    | none => some i
    | some p => fscan R T n (i + 1) p.1 p.2
def fans : Option Nat → Nat × Nat
  | none => (0, 0)
  | some k => (6, k)
/-- The error and its place. -/
def fcheck (R : Nat) (T : ByteArray) : Nat × Nat := if 40 < T.size then (6, 40) else fans (fscan R T T.size 0 0 0)
theorem fbeg_le {R b d : Nat} (h : fbeg R b = some d) : d ≤ 2 := by
  unfold fbeg at h
  split at h
  · cases h; decide
  · split at h
    · cases h; decide
    · split at h
      · cases h; decide
      · cases h
theorem ftake_le {R o d b : Nat} {p : Nat × Nat} (h : ftake R o d b = some p) (hd : d ≤ 2) : p.1 ≤ o + 1 ∧ p.2 ≤ 2 := by
  have key : ∀ q, ((fbeg R b).map fun d' => (o, d')) = some q → q.1 ≤ o + 1 ∧ q.2 ≤ 2 := fun q hq => by
    cases hf : fbeg R b with
    | none => rw [hf] at hq; cases hq
    | some d' => rw [hf] at hq; cases hq; exact ⟨by simp, fbeg_le hf⟩
  unfold ftake at h
  split at h
  · exact key p h
  · split at h
    · split at h
      · cases h; exact ⟨Nat.le_refl _, Nat.zero_le _⟩
      · cases h
    · split at h
      · cases h
      · split at h
        · cases h; exact ⟨by simp only []; omega, hd⟩
        · exact key p h

set_option maxRecDepth 20000 in
set_option maxHeartbeats 1000000 in
theorem checkFormula_any (w : World) (T : ByteArray) (R : Nat) (hR : R ≤ 100) (hT : T.size ≤ 9223372036854775807) :
    Calls Try.prog 30 #[.string T, .int .i64 (R : Int)] w fun e w' => e = .returned (.tuple #[.int .i64 ((fcheck R T).1 : Int), .int .i64 ((fcheck R T).2 : Int)]) ∧ Below w.heap.size w w' := by
  have hTI : (T.size : Int) ≤ 9223372036854775807 := by omega
  have hRI : (R : Int) ≤ 100 := by omega
  unfold fcheck
  by_cases h40 : 40 < T.size
  · rw [if_pos h40]
    have h40I : (40 : Int) < (T.size : Int) := by omega
    go_enter Try.func30, Try.ntmps30
    go_wp2_with fail
    go_ret2
    exact ⟨rfl, Below.refl _ _⟩
  · rw [if_neg h40]
    have h40I : (T.size : Int) ≤ 40 := by omega
    have HR := hide hR
    have H40 : Hid (T.size ≤ 40) := by show _ ≤ _; omega
    clear hR h40 hT
    have hr0 : fscan R T T.size 0 0 0 = fscan R T T.size 0 0 0 := rfl
    generalize hr : fscan R T T.size 0 0 0 = r at hr0 ⊢
    clear hr0
    have HRR := hide hr
    clear hr
    go_enter Try.func30, Try.ntmps30
    go_wp2_with fail
    have HF0 : Hid (Fr [] w (w.alloc (Obj.cells #[.int .i64 (R : Int), .int .i64 0, .int .i64 0] 92)) ∧ FB (w.alloc (Obj.cells #[.int .i64 (R : Int), .int .i64 0, .int .i64 0] 92)) w.heap.size R 0 0) := ⟨Fr.ofAlloc _ _, ⟨heap_alloc_new _ _⟩⟩
    go_loopw [7] (fun ix wr => ∃ (i o d : Nat), ix = .int .i64 (i : Int) ∧ Hid (i ≤ T.size ∧ o ≤ i ∧ d ≤ 2 ∧ Fr [] w wr ∧ FB wr w.heap.size R o d ∧ fscan R T (T.size - i) i o d = r)) (fun ix _ => lenLeft T.size ix)
    case atStart => exact ⟨0, 0, 0, rfl, Nat.zero_le _, Nat.le_refl _, Nat.zero_le _, (unhide HF0).1, (unhide HF0).2, unhide HRR⟩
    case round =>
      clear HF0
      rename World => wr
      obtain ⟨i, o, d, rfl, HH⟩ := hrel
      obtain ⟨hi, ho, hd, hfr, hfb, he⟩ := unhide HH
      clear HH
      by_cases hlt : i < T.size
      · have hltI : (i : Int) < (T.size : Int) := by omega
        have hb := bt_at T i
        have hbI : ((bt T i : Nat) : Int) < 256 := by have := bt_le T i; omega
        have h0 : (0 : Int) ≤ (i : Int) := by omega
        have h1 : ((i : Int)).toNat = i := by omega
        have HTK := hide (ftake_any wr w.heap.size R o d (bt T i) hfb (unhide HR) (bt_le T i) (by have := unhide H40; omega) hd)
        rw [show T.size - i = (T.size - (i + 1)) + 1 by omega, fscan] at he
        have HLT := hide hlt
        have HFR := hide hfr
        cases hx : ftake R o d (bt T i) with
        | none =>
          rw [hx] at he HTK
          have HE : Hid (some i = r) := he
          clear hi ho hd hfr hfb he
          go_wp2_with fail
          refine (unhide HTK).mono ?_
          rintro e w2 ⟨rfl, hf2⟩
          have HF2 := hide hf2
          clear hf2
          go_wp2_with fail
          go_ret2
          rw [← show some i = r from unhide HE]
          exact ⟨rfl, ((unhide HFR).and (unhide HF2) (fun x hx => Or.inr (by simp at hx; omega))).below (fun x hx => by cases hx)⟩
        | some p =>
          rw [hx] at he HTK
          have hle := ftake_le hx hd
          have HE : Hid (i + 1 ≤ T.size ∧ p.1 ≤ i + 1 ∧ p.2 ≤ 2 ∧ fscan R T (T.size - (i + 1)) (i + 1) p.1 p.2 = r) := ⟨hlt, by omega, hle.2, he⟩
          clear hi ho hd hfr hfb he hle hx
          go_wp2_with fail
          refine (unhide HTK).mono ?_
          rintro e w2 ⟨rfl, hf2, hfb2⟩
          have HF2 := hide hf2
          have HFB2 := hide hfb2
          clear hf2 hfb2
          go_wp2_with fail
          go_roundw
          case rel =>
            obtain ⟨r1, r2, r3, r4⟩ := unhide HE
            exact ⟨i + 1, p.1, p.2, by go_num, r1, r2, r3, (unhide HFR).and (unhide HF2) (fun x hx => Or.inr (by simp at hx; omega)), unhide HFB2, r4⟩
          case measure => have := unhide HLT; simp [lenLeft, intOf]; omega
      · have hi2 : i = T.size := by omega
        subst hi2
        rw [Nat.sub_self, fscan] at he
        have HFR := hide hfr
        have c1 := hfb.c1
        have c2 := hfb.c2
        by_cases hbad : 0 < o ∨ d ≠ 2
        · rw [if_pos hbad] at he
          have HE := hide he
          have hbI : (0 : Int) < (o : Int) ∨ ¬ (0 : Int) < (o : Int) ∧ ¬ (d : Int) = 2 := by omega
          clear hi ho hd hfr hfb he hbad
          rcases hbI with k1 | ⟨k1, k2⟩
          all_goals
            go_wp2_with fail
            go_ret2
            rw [← unhide HE]
            exact ⟨rfl, (unhide HFR).below (fun x hx => by cases hx)⟩
        · rw [if_neg hbad] at he
          have HE := hide he
          have ho0 : o = 0 := by omega
          have hd2 : d = 2 := by omega
          subst ho0
          subst hd2
          clear hi ho hd hfr hfb he hbad
          go_wp2_with fail
          go_ret2
          rw [← unhide HE]
          exact ⟨rfl, (unhide HFR).below (fun x hx => by cases hx)⟩

end Mc
end Go.Proofs.Ytlafngfoejngaaa
