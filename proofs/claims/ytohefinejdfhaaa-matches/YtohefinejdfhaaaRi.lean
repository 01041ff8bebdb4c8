/-
  The document's answer: read.
-/
import Derived.Test.YtohefinejdfhaaaRh
import Derived.Test.YtohefinejdfhaaaMM
namespace Go.Proofs.Ytohefinejdfhaaa
open Go.RowKit

/-- The function F makes what 'tag' says, with so much fuel. -/
def DoesT (F tag n : Nat) : Prop :=
  ∀ (p : ByteArray) (rs : List Rn) (r : List Rn × Int) (w : World) (b : Nat), p.size ≤ 60 → r.1.length ≤ 1000 → rfF n tag p 0 0 rs = some r → RtS w b rs →
    Calls Try.prog F #[.pointer (some ⟨b, 0, none⟩), .string p] w fun e w' => e = .returned (.int .i64 r.2) ∧ PostT w w' b r.1

theorem PostT.trans {w w1 w2 : World} {b : Nat} {rs rs' : List Rn} (h : PostT w w1 b rs) (k : PostT w1 w2 b rs') : PostT w w2 b rs' := ⟨h.1.trans k.1, k.2⟩

set_option maxHeartbeats 1000000 in
theorem read_of (n : Nat) (ih0 : ∀ m, m < n → DoesT 65 0 m) (ih2 : ∀ m, m < n → DoesT 110 2 m) : DoesT 65 0 n := by
  intro p rs r w b hp hr h hb
  have hp' : (p.size : Int) ≤ 60 := by omega
  obtain ⟨n, rfl⟩ : ∃ n', n = n' + 1 := by cases n with | zero => simp [rfF] at h | succ n => exact ⟨n, rfl⟩
  simp only [rfF] at h
  have I0 := hide ih0
  have I2 := hide ih2
  have H0 := hide h
  have HR := hide hr
  clear ih0 ih2 h hr
  go_enter Try.func65, Try.ntmps65
  go_wp2_with fail
  go_loopg [5] n (fun m s wr => ∃ q : Nat, s = .int .i64 (q : Int) ∧ w = wr ∧ Hid (rfF m 1 p q 0 rs = some r ∧ m ≤ n))
  case atStart => exact ⟨0, rfl, rfl, unhide H0, Nat.le_refl _⟩
  case round =>
    obtain ⟨q, rfl, rfl, H⟩ := hrel
    obtain ⟨h, hm⟩ := unhide H
    clear H H0
    obtain ⟨m, rfl⟩ : ∃ m', gk = m' + 1 := by cases gk with | zero => simp [rfF] at h | succ m => exact ⟨m, rfl⟩
    simp only [rfF] at h
    by_cases hc : q < p.size ∧ (byteAt p q == 124) = false
    · rw [if_pos hc, Option.bind_eq_some_iff] at h
      obtain ⟨j, hj, h⟩ := h
      obtain ⟨hq, hc2⟩ := hc
      rw [byteAt_eq hq] at hc2
      have hc3 : ((p[q].toNat : Int) != 124) = true := by rw [bne, hc2]; rfl
      have hq' : (q : Int) < (p.size : Int) := by omega
      have HC := hide (over_any p hp 200 q j w hj)
      have H2 := hide h
      clear hj h hc2
      go_wp2_with (go_at_call 109; refine (unhide HC).mono ?_; rintro e w' ⟨rfl, rfl⟩)
      go_roundg m
      case measure => omega
      case rel => exact ⟨j, rfl, rfl, unhide H2, by omega⟩
    · rw [if_neg hc] at h
      have hq : q ≤ p.size := by
        by_cases hq : q ≤ p.size
        · exact hq
        · rw [if_neg hq] at h; cases h
      rw [if_pos hq, Option.bind_eq_some_iff] at h
      obtain ⟨x, hx, h⟩ := h
      have hq' : (q : Int) ≤ (p.size : Int) := by omega
      by_cases he : q = p.size
      · rw [if_pos he] at h
        simp only [Option.some.injEq] at h
        subst h
        have he' : ((q : Int) == (p.size : Int)) = true := by simp [he]
        have hge : ¬ (q : Int) < (p.size : Int) := by omega
        have HB := hide (unhide I2 m (by omega) (p.extract 0 q) rs x w b (by simp; omega) (unhide HR) hx hb)
        clear hx hc he
        go_wp2_with fail
        refine (unhide HB).mono ?_
        rintro e w1 ⟨rfl, hw1⟩
        go_wp2
        go_ret
        exact ⟨rfl, hw1⟩
      · rw [if_neg he, Option.bind_eq_some_iff] at h
        obtain ⟨y, hy, h⟩ := h
        simp only [Option.some.injEq] at h
        subst h
        have g1 := rfF_grows _ _ _ _ _ _ _ hy
        have hrl := unhide HR
        simp only [List.length_append, List.length_cons, List.length_nil] at hrl
        have he' : ((q : Int) == (p.size : Int)) = false := by simp; omega
        have hlt : (q : Int) < (p.size : Int) := by omega
        have hqn : q < p.size := by omega
        have h124 : ((p[q].toNat : Int) != 124) = false := by
          have := hc
          rw [not_and, byteAt_eq hqn] at this
          have h3 := this hqn
          rw [bne]
          revert h3
          cases ((p[q].toNat : Int) == 124) <;> simp
        have HB := hide (unhide I2 m (by omega) (p.extract 0 q) rs x w b (by simp; omega) (by omega) hx hb)
        have HB2 := hide (fun w1 hb1 => unhide I0 m (by omega) (p.extract (q + 1) p.size) x.1 y w1 b (by simp; omega) (by omega) hy hb1)
        have hz : ((Try.zeroCells132.setIfInBounds 0 (.int .i64 4)).setIfInBounds 1 (.int .i64 x.2)).setIfInBounds 2 (.int .i64 y.2) = rnA ⟨4, x.2, y.2, 0, 0, noSet⟩ := by rw [zero78, rnA_kind, rnA_l, rnA_r]
        have HZ := hide hz
        have hyl : y.1.length ≤ 1000 := by omega
        clear hx hy hc he g1 hrl hz
        go_wp2_with fail
        refine (unhide HB).mono ?_
        rintro e w1 ⟨rfl, hw1⟩
        go_wp2_with fail
        refine (unhide HB2 w1 hw1.2).mono ?_
        rintro e w2 ⟨rfl, hw2⟩
        go_wp2_with fail
        rw [unhide HZ]
        refine (put_any _ b y.1 _ hw2.2 hyl).mono ?_
        rintro e w3 ⟨rfl, hw3⟩
        go_wp2
        go_ret
        exact ⟨rfl, (hw1.trans hw2).trans hw3⟩

end Go.Proofs.Ytohefinejdfhaaa
