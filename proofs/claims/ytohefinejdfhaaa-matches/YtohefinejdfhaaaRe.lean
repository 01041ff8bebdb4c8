/-
  The document's answer: over, nibble, named.
-/
import Derived.Test.YtohefinejdfhaaaRd0
import Derived.Test.YtohefinejdfhaaaMM
namespace Go.Proofs.Ytohefinejdfhaaa
open Go.RowKit

set_option maxHeartbeats 1000000 in
theorem over_any (p : ByteArray) (hp : p.size ≤ 60) : ∀ (f i j : Nat) (w : World), ovF p f 0 i = some j →
    Calls Try.prog 109 #[.string p, .int .i64 (i : Int)] w fun e w' => e = .returned (.int .i64 (j : Int)) ∧ w' = w := by
  intro f
  induction f using Nat.strongRecOn with
  | _ f ih =>
    intro i j w h
    have hp' : (p.size : Int) ≤ 60 := by omega
    have IH := hide ih
    clear ih
    obtain ⟨f, rfl⟩ : ∃ f', f = f' + 1 := by cases f with | zero => simp [ovF] at h | succ f => exact ⟨f, rfl⟩
    have hi : i < p.size := by
      by_cases hi : i < p.size
      · exact hi
      · simp [ovF, hi] at h
    have hi' : (i : Int) < (p.size : Int) := by omega
    have hb := byteAt_eq hi
    simp only [ovF, hi, if_true] at h
    by_cases c1 : (byteAt p i == 92) = true
    · rw [if_pos c1] at h
      have hi1 : i + 1 < p.size := by
        by_cases hi1 : i + 1 < p.size
        · exact hi1
        · rw [if_neg hi1] at h; cases h
      rw [if_pos hi1] at h
      have hi1' : (i : Int) + 1 < (p.size : Int) := by omega
      have hb1 := byteAt_eq hi1
      rw [hb] at c1
      simp only [Option.some.injEq] at h
      have HM := hide (fun w => marks_any (p[i + 1].toNat : Int) w)
      rw [hb1] at h
      by_cases cm : mayBeEscapedB (p[i + 1].toNat : Int) = true
      · rw [if_pos cm] at h
        subst h
        clear hb hb1 IH
        go_enter Try.func109, Try.ntmps109
        go_wp2_with (go_at_call 105; refine (unhide HM _).mono ?_; rintro e w' ⟨rfl, rfl⟩)
        go_ret
        exact ⟨ret_int (by go_num), rfl⟩
      · have cm' : mayBeEscapedB (p[i + 1].toNat : Int) = false := by simpa using cm
        rw [if_neg cm] at h
        subst h
        clear hb hb1 IH cm
        go_enter Try.func109, Try.ntmps109
        go_wp2_with (go_at_call 105; refine (unhide HM _).mono ?_; rintro e w' ⟨rfl, rfl⟩)
        go_ret
        exact ⟨ret_int (by go_num), rfl⟩
    · rw [if_neg c1] at h
      rw [hb] at c1 h
      have c1' : ((p[i].toNat : Int) == 92) = false := by simpa using c1
      clear c1 hb
      by_cases c2 : ((p[i].toNat : Int) == 91) = true
      · rw [if_pos c2] at h
        have H0 := hide h
        clear h
        go_enter Try.func109, Try.ntmps109
        go_wp2_with fail
        go_loopg [1] f (fun n s wr => ∃ q : Nat, s = .int .i64 (q : Int) ∧ w = wr ∧ Hid (ovF p n 1 q = some j ∧ n ≤ f))
        case atStart => exact ⟨i + 1, by go_num, rfl, unhide H0, Nat.le_refl _⟩
        case round =>
          obtain ⟨q, rfl, rfl, H⟩ := hrel
          obtain ⟨h, hn⟩ := unhide H
          clear H H0
          obtain ⟨n, rfl⟩ : ∃ n', gk = n' + 1 := by cases gk with | zero => simp [ovF] at h | succ n => exact ⟨n, rfl⟩
          have hq : q < p.size := by
            by_cases hq : q < p.size
            · exact hq
            · simp [ovF, hq] at h
          have hq' : (q : Int) < (p.size : Int) := by omega
          have hb := byteAt_eq hq
          simp only [ovF, hq, if_true, hb] at h
          clear hb
          by_cases d1 : ((p[q].toNat : Int) == 93) = true
          · rw [if_pos d1] at h
            simp only [Option.some.injEq] at h
            have d1' : ((p[q].toNat : Int) != 93) = false := by simpa using d1
            subst h
            clear d1
            go_wp2
            go_ret
            exact ⟨ret_int (by go_num), rfl⟩
          · rw [if_neg d1] at h
            have d1' : ((p[q].toNat : Int) != 93) = true := by simpa using d1
            clear d1
            by_cases d2 : ((p[q].toNat : Int) == 92) = true
            · rw [if_pos d2] at h
              rw [Option.bind_eq_some_iff] at h
              obtain ⟨j1, h1, h2⟩ := h
              have HC := hide (unhide IH n (by omega) q j1 w h1)
              have H2 := hide h2
              clear h1 h2
              go_wp2_with (go_at_call 109; refine (unhide HC).mono ?_; rintro e w' ⟨rfl, rfl⟩)
              go_roundg n
              case measure => omega
              case rel => exact ⟨j1, rfl, rfl, unhide H2, by omega⟩
            · rw [if_neg d2] at h
              have d2' : ((p[q].toNat : Int) == 92) = false := by simpa using d2
              have H2 := hide h
              clear h d2
              go_wp2
              go_roundg n
              case measure => omega
              case rel => exact ⟨q + 1, by go_num, rfl, unhide H2, by omega⟩
      · rw [if_neg c2] at h
        have c2' : ((p[i].toNat : Int) == 91) = false := by simpa using c2
        clear c2
        by_cases c3 : ((p[i].toNat : Int) == 40) = true
        · rw [if_pos c3] at h
          have H0 := hide h
          clear h
          go_enter Try.func109, Try.ntmps109
          go_wp2_with fail
          go_loopg [1] f (fun n s wr => ∃ q : Nat, s = .int .i64 (q : Int) ∧ w = wr ∧ Hid (ovF p n 2 q = some j ∧ n ≤ f))
          case atStart => exact ⟨i + 1, by go_num, rfl, unhide H0, Nat.le_refl _⟩
          case round =>
            obtain ⟨q, rfl, rfl, H⟩ := hrel
            obtain ⟨h, hn⟩ := unhide H
            clear H H0
            obtain ⟨n, rfl⟩ : ∃ n', gk = n' + 1 := by cases gk with | zero => simp [ovF] at h | succ n => exact ⟨n, rfl⟩
            have hq : q < p.size := by
              by_cases hq : q < p.size
              · exact hq
              · simp [ovF, hq] at h
            have hq' : (q : Int) < (p.size : Int) := by omega
            have hb := byteAt_eq hq
            simp only [ovF, hq, if_true, hb] at h
            clear hb
            by_cases d1 : ((p[q].toNat : Int) == 41) = true
            · rw [if_pos d1] at h
              simp only [Option.some.injEq] at h
              have d1' : ((p[q].toNat : Int) != 41) = false := by simpa using d1
              subst h
              clear d1
              go_wp2
              go_ret
              exact ⟨ret_int (by go_num), rfl⟩
            · rw [if_neg d1] at h
              have d1' : ((p[q].toNat : Int) != 41) = true := by simpa using d1
              clear d1
              rw [Option.bind_eq_some_iff] at h
              obtain ⟨j1, h1, h2⟩ := h
              have HC := hide (unhide IH n (by omega) q j1 w h1)
              have H2 := hide h2
              clear h1 h2
              go_wp2_with (go_at_call 109; refine (unhide HC).mono ?_; rintro e w' ⟨rfl, rfl⟩)
              go_roundg n
              case measure => omega
              case rel => exact ⟨j1, rfl, rfl, unhide H2, by omega⟩
        · rw [if_neg c3] at h
          have c3' : ((p[i].toNat : Int) == 40) = false := by simpa using c3
          simp only [Option.some.injEq] at h
          subst h
          clear c3 IH
          go_enter Try.func109, Try.ntmps109
          go_wp2
          go_ret
          exact ⟨ret_int (by go_num), rfl⟩

theorem digitI_hex {c : Int} (h : hexB c = true) : (97 ≤ c ∧ c ≤ 102 ∧ digitI c = c - 97 + 10) ∨ (48 ≤ c ∧ c ≤ 57 ∧ digitI c = c - 48) := by
  simp [hexB, decB] at h
  unfold digitI
  by_cases h1 : 48 ≤ c ∧ c ≤ 57
  · right; rw [if_pos h1]; omega
  · left; rw [if_neg h1, if_pos (by omega)]; omega

set_option maxHeartbeats 400000 in
theorem nibble_any (c : Int) (w : World) (h : hexB c = true) : Calls Try.prog 187 #[.int .u8 c] w fun e w' => e = .returned (.int .i64 (digitI c)) ∧ w' = w := by
  rcases digitI_hex h with ⟨h1, h2, h3⟩ | ⟨h1, h2, h3⟩
  · rw [h3]
    clear h h3
    go_enter Try.func187, Try.ntmps187
    go_wp2
    go_ret
    exact ⟨rfl, rfl⟩
  · rw [h3]
    clear h h3
    go_enter Try.func187, Try.ntmps187
    go_wp2
    go_ret
    exact ⟨rfl, rfl⟩

set_option maxHeartbeats 1000000 in
theorem named_any (p : ByteArray) (hp : p.size ≤ 60) (i : Nat) (v : Int) (j : Nat) (w : World) (h : namedS p i = some (v, j)) :
    Calls Try.prog 173 #[.string p, .int .i64 (i : Int)] w fun e w' => e = .returned (.tuple #[.int .i64 v, .int .i64 (j : Int)]) ∧ w' = w := by
  have hp' : (p.size : Int) ≤ 60 := by omega
  unfold namedS at h
  have hi : i < p.size := by
    by_cases hi : i < p.size
    · exact hi
    · rw [if_neg hi] at h; cases h
  have hi' : (i : Int) < (p.size : Int) := by omega
  have hb := byteAt_eq hi
  have bd0 := byteAt_bd p i
  rw [if_pos hi, hb] at h
  rw [hb] at bd0
  clear hb
  by_cases c1 : ((p[i].toNat : Int) == 92) = true
  · rw [if_pos c1] at h
    have c1' : ((p[i].toNat : Int) != 92) = false := by simpa using c1
    have hi1 : i + 1 < p.size := by
      by_cases hi1 : i + 1 < p.size
      · exact hi1
      · rw [if_neg hi1] at h; cases h
    have hi1' : (i : Int) + 1 < (p.size : Int) := by omega
    have hb1 := byteAt_eq hi1
    have bd1 := byteAt_bd p (i + 1)
    rw [if_pos hi1, hb1] at h
    rw [hb1] at bd1
    clear hb1 c1
    have HM := hide (fun w => marks_any (p[i + 1].toNat : Int) w)
    by_cases cm : mayBeEscapedB (p[i + 1].toNat : Int) = true
    · rw [if_pos cm] at h
      simp only [Option.some.injEq, Prod.mk.injEq] at h
      obtain ⟨rfl, rfl⟩ := h
      go_enter Try.func173, Try.ntmps173
      go_wp2_with (go_at_call 105; refine (unhide HM _).mono ?_; rintro e w' ⟨rfl, rfl⟩)
      go_ret2
      exact ⟨by first | rfl | (congr 3; go_num), rfl⟩
    · rw [if_neg cm] at h
      have cm' : mayBeEscapedB (p[i + 1].toNat : Int) = false := by simpa using cm
      clear cm
      by_cases hh : i + 2 < p.size ∧ hexB (p[i + 1].toNat : Int) = true ∧ hexB (byteAt p (i + 2)) = true
      · rw [if_pos hh] at h
        obtain ⟨hi2, x1, x2⟩ := hh
        have hi2' : (i : Int) + 2 < (p.size : Int) := by omega
        have hb2 := byteAt_eq hi2
        rw [hb2] at h x2
        simp only [Option.some.injEq, Prod.mk.injEq] at h
        obtain ⟨rfl, rfl⟩ := h
        have HN1 := hide (fun w => nibble_any (p[i + 1].toNat : Int) w x1)
        have HN2 := hide (fun w => nibble_any (p[i + 2].toNat : Int) w x2)
        have b1 := digitI_bd (p[i + 1].toNat : Int)
        have b2 := digitI_bd (p[i + 2].toNat : Int)
        clear hb2 x1 x2
        generalize digitI (p[i + 1].toNat : Int) = d1 at *
        generalize digitI (p[i + 2].toNat : Int) = d2 at *
        go_enter Try.func173, Try.ntmps173
        go_wp2_with (first | (go_at_call 105; refine (unhide HM _).mono ?_; rintro e w' ⟨rfl, rfl⟩))
        refine (unhide HN1 _).mono ?_
        rintro e w' ⟨rfl, rfl⟩
        go_wp2_with fail
        refine (unhide HN2 _).mono ?_
        rintro e w' ⟨rfl, rfl⟩
        go_wp2
        go_ret2
        exact ⟨by first | rfl | (congr 3; go_num), rfl⟩
      · rw [if_neg hh] at h; cases h
  · rw [if_neg c1] at h
    have c1' : ((p[i].toNat : Int) != 92) = true := by simpa using c1
    simp only [Option.some.injEq, Prod.mk.injEq] at h
    obtain ⟨rfl, rfl⟩ := h
    clear c1
    go_enter Try.func173, Try.ntmps173
    go_wp2
    go_ret2
    exact ⟨by first | rfl | (congr 3; go_num), rfl⟩

end Go.Proofs.Ytohefinejdfhaaa
