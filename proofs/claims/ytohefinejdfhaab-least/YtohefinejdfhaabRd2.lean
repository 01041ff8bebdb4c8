/-
  The reader of patterns: escapes and single bytes.
-/
import Derived.Test.YtohefinejdfhaabRd
namespace Go.Proofs.Ytohefinejdfhaab
open Go.RowKit

set_option maxHeartbeats 400000 in
theorem readEscape_any (w : World) (b : Nat) (t : ByteArray) (s : S1) (nv sv : Value) (h : Rd1 w b t s nv sv)
    (ht : t.size ≤ 60) (hk : s.k ≤ t.size) :
    Calls Try.prog 159 #[.pointer (some ⟨b, 0, none⟩)] w fun e w' =>
      e = .returned (.int .i64 (readEscapeS t s).1) ∧ Post1 w w' b t (readEscapeS t s).2 nv sv := by
  have HE := hide (expect_any w b t s nv sv 92 h ht hk)
  have hk1 := expectS_le (t := t) (c := 92) (s := s) (by omega) hk
  by_cases hc : mayBeEscapedB ((expectS t 92 s).pk t) = true
  · have e1 : readEscapeS t s = ((expectS t 92 s).pk t, ⟨(expectS t 92 s).k + 1, (expectS t 92 s).bad⟩) := by simp [readEscapeS, hc]
    rw [e1]
    clear e1
    generalize expectS t 92 s = s1 at *
    go_enter Try.func159, Try.ntmps159
    go_wp2_with fail
    refine (unhide HE).mono ?_
    rintro e w1 ⟨rfl, hw1⟩
    have HP := hide (peek_any w1 b t s1 nv sv hw1.2 ht hk1)
    obtain ⟨c0, c1, c2, -, -⟩ := hw1.2.cells
    obtain ⟨f1, f2, -, -⟩ := hw1.2.unfrozen
    go_wp2_with fail
    refine (unhide HP).mono ?_
    rintro e w2 ⟨rfl, n, rfl⟩
    go_wp2_with (go_at_call 162; refine (mayBeEscaped_any _ _).mono ?_; rintro e w' ⟨rfl, rfl⟩)
    go_ret
    exact ⟨rfl, (hw1.drewN n).step⟩
  · have hc' : mayBeEscapedB ((expectS t 92 s).pk t) = false := by simpa using hc
    have e1 : readEscapeS t s = (16 * (readDigitS t 16 (expectS t 92 s)).1 + (readDigitS t 16 (readDigitS t 16 (expectS t 92 s)).2).1, (readDigitS t 16 (readDigitS t 16 (expectS t 92 s)).2).2) := by
      simp [readEscapeS, hc]
    rw [e1]
    clear e1 hc
    generalize expectS t 92 s = s1 at *
    go_enter Try.func159, Try.ntmps159
    go_wp2_with fail
    refine (unhide HE).mono ?_
    rintro e w1 ⟨rfl, hw1⟩
    have HP := hide (peek_any w1 b t s1 nv sv hw1.2 ht hk1)
    go_wp2_with fail
    refine (unhide HP).mono ?_
    rintro e w2 ⟨rfl, n, rfl⟩
    go_wp2_with (go_at_call 162; refine (mayBeEscaped_any _ _).mono ?_; rintro e w' ⟨rfl, rfl⟩)
    refine (readDigit_any _ b t s1 nv sv 16 (hw1.drewN n).2 ht hk1).mono ?_
    rintro e w3 ⟨rfl, hw3⟩
    have hk2 := readDigitS_le (t := t) (c := 16) (s := s1) hk1
    have hb2 := readDigitS_bd t 16 s1 (by omega)
    generalize hr2 : readDigitS t 16 s1 = r2 at *
    obtain ⟨d2, s2⟩ := r2
    have Hr2 := hide hr2
    clear hr2
    simp only at hk2 hw3 hb2
    go_wp2_with fail
    refine (readDigit_any _ b t s2 nv sv 16 hw3.2 ht hk2).mono ?_
    rintro e w4 ⟨rfl, hw4⟩
    have hb4 := readDigitS_bd t 16 s2 (by omega)
    generalize hr4 : readDigitS t 16 s2 = r4 at *
    obtain ⟨d4, s4⟩ := r4
    have Hr4 := hide hr4
    clear hr4
    simp only at hw4 hb4
    go_wp2
    go_ret
    rw [unhide Hr2, unhide Hr4]
    exact ⟨rfl, ((hw1.drewN n).trans hw3).trans hw4⟩

set_option maxHeartbeats 400000 in
theorem readByte_any (w : World) (b : Nat) (t : ByteArray) (s : S1) (nv sv : Value) (h : Rd1 w b t s nv sv)
    (ht : t.size ≤ 60) (hk : s.k ≤ t.size) :
    Calls Try.prog 153 #[.pointer (some ⟨b, 0, none⟩)] w fun e w' =>
      e = .returned (.int .i64 (readByteS t s).1) ∧ Post1 w w' b t (readByteS t s).2 nv sv := by
  have HP := hide (peek_any w b t s nv sv h ht hk)
  have HE := hide (fun n => readEscape_any (w.drewN n) b t s nv sv ((Post1.refl h).drewN n).2 ht hk)
  obtain ⟨c0, c1, c2, -, -⟩ := h.cells
  obtain ⟨f1, f2, -, -⟩ := h.unfrozen
  by_cases hc : (s.pk t == 92) = true
  · have e1 : readByteS t s = readEscapeS t s := by simp only [readByteS, hc, if_true]
    rw [e1]
    clear e1
    go_enter Try.func153, Try.ntmps153
    go_wp2_with fail
    refine (unhide HP).mono ?_
    rintro e w2 ⟨rfl, n, rfl⟩
    go_wp2_with fail
    refine (unhide HE n).mono ?_
    rintro e w3 ⟨rfl, hw3⟩
    go_wp2
    go_ret
    exact ⟨rfl, ((Post1.refl h).drewN n).trans hw3⟩
  · have hc' : (s.pk t == 92) = false := by simpa using hc
    by_cases hd : isPlainB (s.pk t) = true
    · have e1 : readByteS t s = (s.pk t, ⟨s.k + 1, s.bad⟩) := by simp only [readByteS, hc', hd]; rfl
      rw [e1]
      clear e1 hc
      go_enter Try.func153, Try.ntmps153
      go_wp2_with fail
      refine (unhide HP).mono ?_
      rintro e w2 ⟨rfl, n, rfl⟩
      go_wp2_with (go_at_call 142; refine (isPlain_any _ _).mono ?_; rintro e w' ⟨rfl, rfl⟩)
      go_ret
      exact ⟨rfl, ((Post1.refl h).drewN n).step⟩
    · have hd' : isPlainB (s.pk t) = false := by simpa using hd
      have e1 : readByteS t s = (0, ⟨s.k, true⟩) := by simp only [readByteS, hc', hd']; rfl
      rw [e1]
      clear e1 hc hd
      go_enter Try.func153, Try.ntmps153
      go_wp2_with fail
      refine (unhide HP).mono ?_
      rintro e w2 ⟨rfl, n, rfl⟩
      go_wp2_with (go_at_call 142; refine (isPlain_any _ _).mono ?_; rintro e w' ⟨rfl, rfl⟩)
      go_ret
      exact ⟨rfl, ((Post1.refl h).drewN n).mark⟩

set_option maxHeartbeats 400000 in
theorem readSetByte_any (w : World) (b : Nat) (t : ByteArray) (s : S1) (nv sv : Value) (h : Rd1 w b t s nv sv)
    (ht : t.size ≤ 60) (hk : s.k ≤ t.size) :
    Calls Try.prog 161 #[.pointer (some ⟨b, 0, none⟩)] w fun e w' =>
      e = .returned (.int .i64 (readSetByteS t s).1) ∧ Post1 w w' b t (readSetByteS t s).2 nv sv := by
  have HP := hide (peek_any w b t s nv sv h ht hk)
  have HE := hide (fun n => readEscape_any (w.drewN n) b t s nv sv ((Post1.refl h).drewN n).2 ht hk)
  obtain ⟨c0, c1, c2, -, -⟩ := h.cells
  obtain ⟨f1, f2, -, -⟩ := h.unfrozen
  by_cases hc : (s.pk t == 92) = true
  · have e1 : readSetByteS t s = readEscapeS t s := by simp only [readSetByteS, hc, if_true]
    rw [e1]
    clear e1
    go_enter Try.func161, Try.ntmps161
    go_wp2_with fail
    refine (unhide HP).mono ?_
    rintro e w2 ⟨rfl, n, rfl⟩
    go_wp2_with fail
    refine (unhide HE n).mono ?_
    rintro e w3 ⟨rfl, hw3⟩
    go_wp2
    go_ret
    exact ⟨rfl, ((Post1.refl h).drewN n).trans hw3⟩
  · have hc' : (s.pk t == 92) = false := by simpa using hc
    by_cases hd : isPlainInSetB (s.pk t) = true
    · have e1 : readSetByteS t s = (s.pk t, ⟨s.k + 1, s.bad⟩) := by simp only [readSetByteS, hc', hd]; rfl
      rw [e1]
      clear e1 hc
      go_enter Try.func161, Try.ntmps161
      go_wp2_with fail
      refine (unhide HP).mono ?_
      rintro e w2 ⟨rfl, n, rfl⟩
      go_wp2_with (go_at_call 163; refine (isPlainInSet_any _ _).mono ?_; rintro e w' ⟨rfl, rfl⟩)
      go_ret
      exact ⟨rfl, ((Post1.refl h).drewN n).step⟩
    · have hd' : isPlainInSetB (s.pk t) = false := by simpa using hd
      have e1 : readSetByteS t s = (0, ⟨s.k, true⟩) := by simp only [readSetByteS, hc', hd']; rfl
      rw [e1]
      clear e1 hc hd
      go_enter Try.func161, Try.ntmps161
      go_wp2_with fail
      refine (unhide HP).mono ?_
      rintro e w2 ⟨rfl, n, rfl⟩
      go_wp2_with (go_at_call 163; refine (isPlainInSet_any _ _).mono ?_; rintro e w' ⟨rfl, rfl⟩)
      go_ret
      exact ⟨rfl, ((Post1.refl h).drewN n).mark⟩

end Go.Proofs.Ytohefinejdfhaab
