/-
  The reader of patterns: what its methods that look and take do to its block of memory.
  The reader of patterns: escapes and single bytes.
  Plain mathematics: the graph of an automaton, drawn state by state and letter by letter, numbers its states as they are met.
-/
import Derived.Test.YtobfpgoepaeknaaT00
import Derived.Deep.QuietTactic
import Derived.BigQuiet
import Derived.Test.YtobfpgoepaeknaaT10
import Derived.Test.YtobfpgoepaeknaaLL
namespace Go.Proofs.Ytobfpgoepaeknaa
open Go.RowKit

theorem w64 (n : Int) (h : 0 ≤ n ∧ n ≤ 65536) : wrap64 n = n := by unfold wrap64; omega

/-- Block b of w is a reader: its text, its place, its mark, its list of nodes, its list of sets. -/
def Rd1 (w : World) (b : Nat) (t : ByteArray) (s : S1) (nv sv : Value) : Prop :=
  w.heap[b]? = some (.cells #[.string t, .int .i64 (s.k : Int), .bool s.bad, nv, sv] 76 (0, 0))

/-- From w to w' block b alone has turned, and it is a reader. -/
def Post1 (w w' : World) (b : Nat) (t : ByteArray) (s : S1) (nv sv : Value) : Prop :=
  w.grownBy w' (some b) ∧ Rd1 w' b t s nv sv

section
variable {w w' : World} {b : Nat} {t : ByteArray} {s s' : S1} {nv sv : Value}

theorem Rd1.cells (h : Rd1 w b t s nv sv) :
    w.cell? ⟨b, 0, none⟩ = some (.string t) ∧ w.cell? ⟨b, 1, none⟩ = some (.int .i64 (s.k : Int)) ∧ w.cell? ⟨b, 2, none⟩ = some (.bool s.bad) ∧
    w.cell? ⟨b, 3, none⟩ = some nv ∧ w.cell? ⟨b, 4, none⟩ = some sv := by
  unfold Rd1 at h
  simp [World.cell?, h]

theorem Rd1.unfrozen (h : Rd1 w b t s nv sv) :
    w.frozen? ⟨b, 1, none⟩ = false ∧ w.frozen? ⟨b, 2, none⟩ = false ∧ w.frozen? ⟨b, 3, none⟩ = false ∧ w.frozen? ⟨b, 4, none⟩ = false := by
  unfold Rd1 at h
  simp [World.frozen?, h]

theorem Rd1.lt (h : Rd1 w b t s nv sv) : b < w.heap.size := (Array.getElem?_eq_some_iff.1 h).1

theorem grownBy_refl (w : World) (r : Option Nat) : w.grownBy w r := ⟨rfl, rfl, rfl, Nat.le_refl _, fun _ _ _ => rfl⟩
theorem grownBy_trans {w w1 w2 : World} {r : Option Nat} (h : w.grownBy w1 r) (k : w1.grownBy w2 r) : w.grownBy w2 r :=
  ⟨k.os.trans h.os, k.tape.trans h.tape, k.output.trans h.output, Nat.le_trans h.size k.size,
    fun i hi hr => (k.block i (Nat.lt_of_lt_of_le hi h.size) hr).trans (h.block i hi hr)⟩
theorem grownBy_drewN {w w1 : World} {r : Option Nat} (h : w.grownBy w1 r) (n : Nat) : w.grownBy (w1.drewN n) r :=
  ⟨h.os, h.tape, h.output, h.size, h.block⟩
theorem grownBy_setCell {w w1 : World} {b o : Nat} (h : w.grownBy w1 (some b)) (v : Value) : w.grownBy (w1.setCell ⟨b, o, none⟩ v) (some b) :=
  grownBy_trans h ⟨rfl, rfl, rfl, by simp [World.setCell], fun k _ hk => Below.heap_setCell _ _ _ _ (by simpa using hk)⟩
theorem grownBy_alloc {w w1 : World} {r : Option Nat} (h : w.grownBy w1 r) (o : Obj) : w.grownBy (w1.alloc o) r :=
  grownBy_trans h (World.grownBy_alloc w1 o r)

theorem Post1.refl (h : Rd1 w b t s nv sv) : Post1 w w b t s nv sv := ⟨grownBy_refl _ _, h⟩
theorem Post1.drewN (h : Post1 w w' b t s nv sv) (n : Nat) : Post1 w (w'.drewN n) b t s nv sv := ⟨grownBy_drewN h.1 n, h.2⟩
theorem Post1.trans {w1 w2 : World} (h : Post1 w w1 b t s nv sv) (k : Post1 w1 w2 b t s' nv sv) : Post1 w w2 b t s' nv sv :=
  ⟨grownBy_trans h.1 k.1, k.2⟩
theorem Post1.step (h : Post1 w w' b t s nv sv) : Post1 w (w'.setCell ⟨b, 1, none⟩ (.int .i64 ((s.k : Int) + 1))) b t ⟨s.k + 1, s.bad⟩ nv sv := by
  refine ⟨grownBy_setCell h.1 _, ?_⟩
  have hr := h.2
  unfold Rd1 at hr ⊢
  simp only [World.setCell, Array.getElem?_modify, if_pos, hr]
  simp
theorem Post1.mark (h : Post1 w w' b t s nv sv) : Post1 w (w'.setCell ⟨b, 2, none⟩ (.bool true)) b t ⟨s.k, true⟩ nv sv := by
  refine ⟨grownBy_setCell h.1 _, ?_⟩
  have hr := h.2
  unfold Rd1 at hr ⊢
  simp only [World.setCell, Array.getElem?_modify, if_pos, hr]
  simp
end

set_option maxHeartbeats 400000 in
theorem peek_any (w : World) (b : Nat) (t : ByteArray) (s : S1) (nv sv : Value) (h : Rd1 w b t s nv sv)
    (_ht : t.size ≤ 60) (hk : s.k ≤ t.size) :
    Calls Try.prog 79 #[.pointer (some ⟨b, 0, none⟩)] w fun e w' => e = .returned (.int .i64 (s.pk t)) ∧ ∃ n, w' = w.drewN n := by
  obtain ⟨c0, c1, c2, -, -⟩ := h.cells
  obtain ⟨k, bad⟩ := s
  simp only at c1 c2 hk
  have e : S1.pk t ⟨k, bad⟩ = pk t k bad := rfl
  rw [e]
  clear e h
  cases bad
  · by_cases hlt : k < t.size
    · have hd : decide ((k : Int) < 0) = false := by simp
      have hd2 : decide ((t.size : Int) ≤ (k : Int)) = false := by simp; omega
      have hl : (k : Int) < (t.size : Int) := by omega
      go_enter Try.func79, Try.ntmps79
      go_wp2
      go_quiet (fail)
      go_wp2
      go_quiet (fail)
      go_wp2
      go_ret
      exact ⟨ret_int (by rw [w64 _ (by have := t[k].toNat_lt; omega)]; simp [pk, hlt]), _, World.drewN_drewN _ _ _⟩
    · have hd : decide ((k : Int) < 0) = false := by simp
      have hd2 : decide ((t.size : Int) ≤ (k : Int)) = true := by simp; omega
      go_enter Try.func79, Try.ntmps79
      go_wp2
      go_quiet (fail)
      go_wp2
      go_ret
      exact ⟨ret_int (by simp [pk, hlt]), _, rfl⟩
  · go_enter Try.func79, Try.ntmps79
    go_wp2
    go_quiet (fail)
    go_wp2
    go_ret
    exact ⟨ret_int (by simp [pk]), _, rfl⟩

set_option maxHeartbeats 400000 in
theorem take_any (w : World) (b : Nat) (t : ByteArray) (s : S1) (nv sv : Value) (c : Int) (h : Rd1 w b t s nv sv)
    (ht : t.size ≤ 60) (hk : s.k ≤ t.size) :
    Calls Try.prog 56 #[.pointer (some ⟨b, 0, none⟩), .int .i64 c] w fun e w' =>
      e = .returned (.bool (s.pk t == c)) ∧ Post1 w w' b t (takeS t c s) nv sv := by
  obtain ⟨c0, c1, c2, -, -⟩ := h.cells
  obtain ⟨f1, f2, -, -⟩ := h.unfrozen
  have hp := peek_any w b t s nv sv h ht hk
  have HP := hide hp
  clear hp
  by_cases hc : s.pk t = c
  · have hb : (s.pk t != c) = false := by simp [hc]
    have HC := hide hc
    clear hc
    go_enter Try.func56, Try.ntmps56
    go_wp2_with (go_at_call 79; refine (unhide HP).mono ?_; rintro e w' ⟨rfl, n, rfl⟩)
    go_ret
    refine ⟨ret_bool (by simp [unhide HC]), ?_⟩
    have : takeS t c s = ⟨s.k + 1, s.bad⟩ := by simp [takeS, unhide HC]
    rw [this]
    exact ((Post1.refl h).drewN n).step
  · have hb : (s.pk t != c) = true := by simp [hc]
    go_enter Try.func56, Try.ntmps56
    go_wp2_with (go_at_call 79; refine (unhide HP).mono ?_; rintro e w' ⟨rfl, n, rfl⟩)
    go_ret
    refine ⟨ret_bool (by simp [hc]), ?_⟩
    have : takeS t c s = s := by simp [takeS, hc]
    rw [this]
    exact (Post1.refl h).drewN n

set_option maxHeartbeats 400000 in
theorem expect_any (w : World) (b : Nat) (t : ByteArray) (s : S1) (nv sv : Value) (c : Int) (h : Rd1 w b t s nv sv)
    (ht : t.size ≤ 60) (hk : s.k ≤ t.size) :
    Calls Try.prog 102 #[.pointer (some ⟨b, 0, none⟩), .int .i64 c] w fun e w' =>
      e = .returned (.tuple #[]) ∧ Post1 w w' b t (expectS t c s) nv sv := by
  have HP := hide (take_any w b t s nv sv c h ht hk)
  by_cases hc : s.pk t = c
  · have hb : (s.pk t == c) = true := by simp [hc]
    have HC := hide hc
    clear hc
    go_enter Try.func102, Try.ntmps102
    go_wp2_with (go_at_call 56; refine (unhide HP).mono ?_; rintro e w1 ⟨rfl, hw1⟩)
    go_end0
    refine ⟨rfl, ?_⟩
    have e1 : takeS t c s = expectS t c s := by simp [takeS, expectS, unhide HC]
    rw [e1] at hw1
    exact hw1
  · have hb : (s.pk t == c) = false := by simp [hc]
    have e1 : takeS t c s = s := by simp [takeS, hc]
    have e2 : expectS t c s = ⟨s.k, true⟩ := by simp [expectS, hc]
    rw [e1] at HP
    rw [e2]
    clear e1 e2 hc
    go_enter Try.func102, Try.ntmps102
    go_wp2_with fail
    refine (unhide HP).mono ?_
    rintro e w1 ⟨rfl, hw1⟩
    obtain ⟨c0, c1, c2, -, -⟩ := hw1.2.cells
    obtain ⟨f1, f2, -, -⟩ := hw1.2.unfrozen
    go_wp2
    go_end0
    exact ⟨rfl, hw1.mark⟩

set_option maxHeartbeats 400000 in
theorem readDigit_any (w : World) (b : Nat) (t : ByteArray) (s : S1) (nv sv : Value) (c : Int) (h : Rd1 w b t s nv sv)
    (ht : t.size ≤ 60) (hk : s.k ≤ t.size) :
    Calls Try.prog 108 #[.pointer (some ⟨b, 0, none⟩), .int .i64 c] w fun e w' =>
      e = .returned (.int .i64 (readDigitS t c s).1) ∧ Post1 w w' b t (readDigitS t c s).2 nv sv := by
  obtain ⟨c0, c1, c2, -, -⟩ := h.cells
  obtain ⟨f1, f2, -, -⟩ := h.unfrozen
  have HP := hide (peek_any w b t s nv sv h ht hk)
  have hbd := S1.pk_bd t s
  have HD := hide (fun w => digit_any (s.pk t) w hbd.1 hbd.2)
  by_cases hc : digitOk t c s = true
  · have e1 : readDigitS t c s = (digitI (s.pk t), ⟨s.k + 1, s.bad⟩) := by simp [readDigitS, hc]
    rw [e1]
    have hd := digitOk_pos hc
    have g1 : 0 ≤ digitI (s.pk t) := hd.2.1
    have g2 : digitI (s.pk t) < c := hd.2.2
    clear e1 hc hd hbd
    generalize digitI (s.pk t) = d at *
    go_enter Try.func108, Try.ntmps108
    go_wp2_with (first
      | (go_at_call 79; refine (unhide HP).mono ?_; rintro e w' ⟨rfl, n, rfl⟩)
      | (go_at_call 112; refine (unhide HD _).mono ?_; rintro e w' ⟨rfl, rfl⟩))
    go_ret
    exact ⟨rfl, ((Post1.refl h).drewN n).step⟩
  · have e1 : readDigitS t c s = (0, ⟨s.k, true⟩) := by simp [readDigitS, hc]
    rw [e1]
    have g1 : digitI (s.pk t) < 0 ∨ c ≤ digitI (s.pk t) := by simp [digitOk] at hc; omega
    clear e1 hc hbd
    generalize digitI (s.pk t) = d at *
    rcases g1 with g1 | g1
    · go_enter Try.func108, Try.ntmps108
      go_wp2_with (first
        | (go_at_call 79; refine (unhide HP).mono ?_; rintro e w' ⟨rfl, n, rfl⟩)
        | (go_at_call 112; refine (unhide HD _).mono ?_; rintro e w' ⟨rfl, rfl⟩))
      go_ret
      exact ⟨rfl, ((Post1.refl h).drewN n).mark⟩
    · by_cases g0 : d < 0
      all_goals
        go_enter Try.func108, Try.ntmps108
        go_wp2_with (first
          | (go_at_call 79; refine (unhide HP).mono ?_; rintro e w' ⟨rfl, n, rfl⟩)
          | (go_at_call 112; refine (unhide HD _).mono ?_; rintro e w' ⟨rfl, rfl⟩))
        go_ret
        exact ⟨rfl, ((Post1.refl h).drewN n).mark⟩


set_option maxHeartbeats 400000 in
theorem atAtom_any (w : World) (b : Nat) (t : ByteArray) (s : S1) (nv sv : Value) (h : Rd1 w b t s nv sv)
    (ht : t.size ≤ 60) (hk : s.k ≤ t.size) :
    Calls Try.prog 77 #[.pointer (some ⟨b, 0, none⟩)] w fun e w' =>
      e = .returned (.bool (atAtomB (s.pk t))) ∧ ∃ n, w' = w.drewN n := by
  have HP := hide (peek_any w b t s nv sv h ht hk)
  clear h hk ht
  generalize s.pk t = x at *
  go_enter Try.func77, Try.ntmps77
  go_wp2_with (first
    | (go_at_call 79; refine (unhide HP).mono ?_; rintro e w' ⟨rfl, n, rfl⟩)
    | (go_at_call 93; refine (isPlain_any _ _).mono ?_; rintro e w' ⟨rfl, rfl⟩))
  all_goals
    go_ret
    exact ⟨ret_bool (by simp_all [atAtomB]), _, rfl⟩

set_option maxHeartbeats 400000 in
theorem atSuffix_any (w : World) (b : Nat) (t : ByteArray) (s : S1) (nv sv : Value) (h : Rd1 w b t s nv sv)
    (ht : t.size ≤ 60) (hk : s.k ≤ t.size) :
    Calls Try.prog 95 #[.pointer (some ⟨b, 0, none⟩)] w fun e w' =>
      e = .returned (.bool (atSuffixB (s.pk t))) ∧ ∃ n, w' = w.drewN n := by
  have HP := hide (peek_any w b t s nv sv h ht hk)
  clear h hk ht
  generalize s.pk t = x at *
  go_enter Try.func95, Try.ntmps95
  go_wp2_with (go_at_call 79; refine (unhide HP).mono ?_; rintro e w' ⟨rfl, n, rfl⟩)
  all_goals
    go_ret
    exact ⟨ret_bool (by simp_all [atSuffixB]), _, rfl⟩

end Go.Proofs.Ytobfpgoepaeknaa
namespace Go.Proofs.Ytobfpgoepaeknaa
open Go.RowKit

set_option maxHeartbeats 400000 in
theorem readEscape_any (w : World) (b : Nat) (t : ByteArray) (s : S1) (nv sv : Value) (h : Rd1 w b t s nv sv)
    (ht : t.size ≤ 60) (hk : s.k ≤ t.size) :
    Calls Try.prog 111 #[.pointer (some ⟨b, 0, none⟩)] w fun e w' =>
      e = .returned (.int .i64 (readEscapeS t s).1) ∧ Post1 w w' b t (readEscapeS t s).2 nv sv := by
  have HE := hide (expect_any w b t s nv sv 92 h ht hk)
  have hk1 := expectS_le (t := t) (c := 92) (s := s) (by omega) hk
  by_cases hc : mayBeEscapedB ((expectS t 92 s).pk t) = true
  · have e1 : readEscapeS t s = ((expectS t 92 s).pk t, ⟨(expectS t 92 s).k + 1, (expectS t 92 s).bad⟩) := by simp [readEscapeS, hc]
    rw [e1]
    clear e1
    generalize expectS t 92 s = s1 at *
    go_enter Try.func111, Try.ntmps111
    go_wp2_with fail
    refine (unhide HE).mono ?_
    rintro e w1 ⟨rfl, hw1⟩
    have HP := hide (peek_any w1 b t s1 nv sv hw1.2 ht hk1)
    obtain ⟨c0, c1, c2, -, -⟩ := hw1.2.cells
    obtain ⟨f1, f2, -, -⟩ := hw1.2.unfrozen
    go_wp2_with fail
    refine (unhide HP).mono ?_
    rintro e w2 ⟨rfl, n, rfl⟩
    go_wp2_with (go_at_call 114; refine (mayBeEscaped_any _ _).mono ?_; rintro e w' ⟨rfl, rfl⟩)
    go_ret
    exact ⟨rfl, (hw1.drewN n).step⟩
  · have hc' : mayBeEscapedB ((expectS t 92 s).pk t) = false := by simpa using hc
    have e1 : readEscapeS t s = (16 * (readDigitS t 16 (expectS t 92 s)).1 + (readDigitS t 16 (readDigitS t 16 (expectS t 92 s)).2).1, (readDigitS t 16 (readDigitS t 16 (expectS t 92 s)).2).2) := by
      simp [readEscapeS, hc]
    rw [e1]
    clear e1 hc
    generalize expectS t 92 s = s1 at *
    go_enter Try.func111, Try.ntmps111
    go_wp2_with fail
    refine (unhide HE).mono ?_
    rintro e w1 ⟨rfl, hw1⟩
    have HP := hide (peek_any w1 b t s1 nv sv hw1.2 ht hk1)
    go_wp2_with fail
    refine (unhide HP).mono ?_
    rintro e w2 ⟨rfl, n, rfl⟩
    go_wp2_with (go_at_call 114; refine (mayBeEscaped_any _ _).mono ?_; rintro e w' ⟨rfl, rfl⟩)
    refine (readDigit_any _ b t s1 nv sv 16 (hw1.drewN n).2 ht hk1).mono ?_
    rintro e w3 ⟨rfl, hw3⟩
    have hk2 := readDigitS_le (t := t) (c := 16) (s := s1) hk1
    have hb2 := readDigitS_bd t 16 s1 (by omega)
    generalize hr2 : readDigitS t 16 s1 = r2 at *
    obtain ⟨d2, s2⟩ := r2
    have Hr2 := hide hr2
    clear hr2
    simp only at hk2 hw3 hb2
    go_wp2_with fail
    refine (readDigit_any _ b t s2 nv sv 16 hw3.2 ht hk2).mono ?_
    rintro e w4 ⟨rfl, hw4⟩
    have hb4 := readDigitS_bd t 16 s2 (by omega)
    generalize hr4 : readDigitS t 16 s2 = r4 at *
    obtain ⟨d4, s4⟩ := r4
    have Hr4 := hide hr4
    clear hr4
    simp only at hw4 hb4
    go_wp2
    go_ret
    rw [unhide Hr2, unhide Hr4]
    exact ⟨rfl, ((hw1.drewN n).trans hw3).trans hw4⟩

set_option maxHeartbeats 400000 in
theorem readByte_any (w : World) (b : Nat) (t : ByteArray) (s : S1) (nv sv : Value) (h : Rd1 w b t s nv sv)
    (ht : t.size ≤ 60) (hk : s.k ≤ t.size) :
    Calls Try.prog 106 #[.pointer (some ⟨b, 0, none⟩)] w fun e w' =>
      e = .returned (.int .i64 (readByteS t s).1) ∧ Post1 w w' b t (readByteS t s).2 nv sv := by
  have HP := hide (peek_any w b t s nv sv h ht hk)
  have HE := hide (fun n => readEscape_any (w.drewN n) b t s nv sv ((Post1.refl h).drewN n).2 ht hk)
  obtain ⟨c0, c1, c2, -, -⟩ := h.cells
  obtain ⟨f1, f2, -, -⟩ := h.unfrozen
  by_cases hc : (s.pk t == 92) = true
  · have e1 : readByteS t s = readEscapeS t s := by simp only [readByteS, hc, if_true]
    rw [e1]
    clear e1
    go_enter Try.func106, Try.ntmps106
    go_wp2_with fail
    refine (unhide HP).mono ?_
    rintro e w2 ⟨rfl, n, rfl⟩
    go_wp2_with fail
    refine (unhide HE n).mono ?_
    rintro e w3 ⟨rfl, hw3⟩
    go_wp2
    go_ret
    exact ⟨rfl, ((Post1.refl h).drewN n).trans hw3⟩
  · have hc' : (s.pk t == 92) = false := by simpa using hc
    by_cases hd : isPlainB (s.pk t) = true
    · have e1 : readByteS t s = (s.pk t, ⟨s.k + 1, s.bad⟩) := by simp only [readByteS, hc', hd]; rfl
      rw [e1]
      clear e1 hc
      go_enter Try.func106, Try.ntmps106
      go_wp2_with fail
      refine (unhide HP).mono ?_
      rintro e w2 ⟨rfl, n, rfl⟩
      go_wp2_with (go_at_call 93; refine (isPlain_any _ _).mono ?_; rintro e w' ⟨rfl, rfl⟩)
      go_ret
      exact ⟨rfl, ((Post1.refl h).drewN n).step⟩
    · have hd' : isPlainB (s.pk t) = false := by simpa using hd
      have e1 : readByteS t s = (0, ⟨s.k, true⟩) := by simp only [readByteS, hc', hd']; rfl
      rw [e1]
      clear e1 hc hd
      go_enter Try.func106, Try.ntmps106
      go_wp2_with fail
      refine (unhide HP).mono ?_
      rintro e w2 ⟨rfl, n, rfl⟩
      go_wp2_with (go_at_call 93; refine (isPlain_any _ _).mono ?_; rintro e w' ⟨rfl, rfl⟩)
      go_ret
      exact ⟨rfl, ((Post1.refl h).drewN n).mark⟩

set_option maxHeartbeats 400000 in
theorem readSetByte_any (w : World) (b : Nat) (t : ByteArray) (s : S1) (nv sv : Value) (h : Rd1 w b t s nv sv)
    (ht : t.size ≤ 60) (hk : s.k ≤ t.size) :
    Calls Try.prog 113 #[.pointer (some ⟨b, 0, none⟩)] w fun e w' =>
      e = .returned (.int .i64 (readSetByteS t s).1) ∧ Post1 w w' b t (readSetByteS t s).2 nv sv := by
  have HP := hide (peek_any w b t s nv sv h ht hk)
  have HE := hide (fun n => readEscape_any (w.drewN n) b t s nv sv ((Post1.refl h).drewN n).2 ht hk)
  obtain ⟨c0, c1, c2, -, -⟩ := h.cells
  obtain ⟨f1, f2, -, -⟩ := h.unfrozen
  by_cases hc : (s.pk t == 92) = true
  · have e1 : readSetByteS t s = readEscapeS t s := by simp only [readSetByteS, hc, if_true]
    rw [e1]
    clear e1
    go_enter Try.func113, Try.ntmps113
    go_wp2_with fail
    refine (unhide HP).mono ?_
    rintro e w2 ⟨rfl, n, rfl⟩
    go_wp2_with fail
    refine (unhide HE n).mono ?_
    rintro e w3 ⟨rfl, hw3⟩
    go_wp2
    go_ret
    exact ⟨rfl, ((Post1.refl h).drewN n).trans hw3⟩
  · have hc' : (s.pk t == 92) = false := by simpa using hc
    by_cases hd : isPlainInSetB (s.pk t) = true
    · have e1 : readSetByteS t s = (s.pk t, ⟨s.k + 1, s.bad⟩) := by simp only [readSetByteS, hc', hd]; rfl
      rw [e1]
      clear e1 hc
      go_enter Try.func113, Try.ntmps113
      go_wp2_with fail
      refine (unhide HP).mono ?_
      rintro e w2 ⟨rfl, n, rfl⟩
      go_wp2_with (go_at_call 115; refine (isPlainInSet_any _ _).mono ?_; rintro e w' ⟨rfl, rfl⟩)
      go_ret
      exact ⟨rfl, ((Post1.refl h).drewN n).step⟩
    · have hd' : isPlainInSetB (s.pk t) = false := by simpa using hd
      have e1 : readSetByteS t s = (0, ⟨s.k, true⟩) := by simp only [readSetByteS, hc', hd']; rfl
      rw [e1]
      clear e1 hc hd
      go_enter Try.func113, Try.ntmps113
      go_wp2_with fail
      refine (unhide HP).mono ?_
      rintro e w2 ⟨rfl, n, rfl⟩
      go_wp2_with (go_at_call 115; refine (isPlainInSet_any _ _).mono ?_; rintro e w' ⟨rfl, rfl⟩)
      go_ret
      exact ⟨rfl, ((Post1.refl h).drewN n).mark⟩

end Go.Proofs.Ytobfpgoepaeknaa
namespace Go.Proofs.Ytobfpgoepaeknaa

/-- The spots at which a byte can stand. -/
def fitN (sets : List (Nat → Bool)) (b : Nat) : Nat → Nat
  | 0 => 0
  | k + 1 => if setAtN sets k b then fitN sets b k ||| 2 ^ k else fitN sets b k
theorem fitN_bit (sets : List (Nat → Bool)) (b j : Nat) : ∀ k, (fitN sets b k).testBit j = true ↔ j < k ∧ setAtN sets j b = true
  | 0 => by simp [fitN]
  | k + 1 => by
    rw [fitN]
    have ih := fitN_bit sets b j k
    by_cases h : setAtN sets k b = true
    · rw [if_pos h, Nat.testBit_or, Bool.or_eq_true, ih, bit_two]
      constructor
      · rintro (⟨h1, h2⟩ | rfl)
        · exact ⟨by omega, h2⟩
        · exact ⟨by omega, h⟩
      · rintro ⟨h1, h2⟩
        by_cases hj : j = k
        · exact Or.inr hj
        · exact Or.inl ⟨by omega, h2⟩
    · rw [if_neg h, ih]
      constructor
      · rintro ⟨h1, h2⟩; exact ⟨by omega, h2⟩
      · rintro ⟨h1, h2⟩
        by_cases hj : j = k
        · subst hj; exact absurd h2 h
        · exact ⟨by omega, h2⟩
theorem fitN_lt (sets : List (Nat → Bool)) (b k : Nat) : fitN sets b k < 2 ^ k := by
  refine Nat.lt_pow_two_of_testBit _ fun i hi => ?_
  cases h : (fitN sets b k).testBit i
  · rfl
  · have := ((fitN_bit sets b i k).1 h).1; omega
def fitP (p : Part) (b : Nat) : Nat := fitN p.sets b p.sets.length
def reachP (p : Part) (x : Nat) : Nat := reachN p.next x p.next.length
theorem stepN_fit (p : Part) (x b : Nat) : stepN p x b = reachP p x &&& fitP p b := by
  apply Nat.eq_of_testBit_eq
  intro j
  rw [Bool.eq_iff_iff, Nat.testBit_and, Bool.and_eq_true]
  unfold stepN fitP reachP
  rw [ledN_bit, fitN_bit]
  constructor
  · rintro ⟨h1, h2, h3⟩; exact ⟨h2, h1, h3⟩
  · rintro ⟨h2, h1, h3⟩; exact ⟨h1, h2, h3⟩

structure Drawn (B M : Nat) (dl : Nat → Nat → Nat) (st : List Nat) (e : Nat) (nx : List Nat) : Prop where
  len : nx.length = e
  nodup : ∀ i j, i < j → j < st.length → st.getD i 0 ≠ st.getD j 0
  bound : ∀ i, i < st.length → st.getD i 0 < B
  edge : ∀ k, k < e → nx.getD k 0 < st.length ∧ st.getD (nx.getD k 0) 0 = dl (st.getD (k / M) 0) (k % M)
  met : ∀ j, 0 < j → j < st.length → ∃ k, k < e ∧ nx.getD k 0 = j ∧ k / M < j ∧ ∀ k', k' < k → nx.getD k' 0 < j
  first : 0 < st.length ∧ st.getD 0 0 = 1
  rows : e / M ≤ st.length
theorem Drawn.start {B M : Nat} {dl : Nat → Nat → Nat} (hB : 1 < B) : Drawn B M dl [1] 0 [] :=
  ⟨rfl, fun i j hij hj => by simp at hj; omega, fun i hi => by simp at hi; subst hi; exact hB, fun k hk => absurd hk (Nat.not_lt_zero _), fun j h0 hj => by simp at hj; omega, by simp, by simp⟩
theorem Drawn.size {B M : Nat} {dl : Nat → Nat → Nat} {st : List Nat} {e : Nat} {nx : List Nat} (h : Drawn B M dl st e nx) : st.length ≤ B := by
  refine Nat.le_of_not_lt fun hlt => ?_
  obtain ⟨i, j, hij, hj, e⟩ := pigeon B (fun i => st.getD i 0) fun i hi => h.bound i (by omega)
  exact h.nodup i j hij (by omega) e
theorem Drawn.old {B M : Nat} {dl : Nat → Nat → Nat} {st : List Nat} {e : Nat} {nx : List Nat} {j : Nat} (h : Drawn B M dl st e nx) (hM : 0 < M) (he : e / M < st.length) (hj : j < st.length) (hs : st.getD j 0 = dl (st.getD (e / M) 0) (e % M)) : Drawn B M dl st (e + 1) (nx ++ [j]) := by
  have hl := h.len
  refine ⟨by simp [hl], h.nodup, h.bound, fun k hk => ?_, fun i h0 hi => ?_, h.first, ?_⟩
  · by_cases hke : k = e
    · subst hke
      rw [← hl, getD_snoc_new, hl]; exact ⟨hj, hs⟩
    · rw [getD_snoc_old (by omega)]; exact h.edge k (by omega)
  · obtain ⟨k, h1, h2, h3, h4⟩ := h.met i h0 hi
    refine ⟨k, by omega, by rw [getD_snoc_old (by omega)]; exact h2, h3, fun k' hk' => ?_⟩
    rw [getD_snoc_old (by omega)]; exact h4 k' hk'
  · have : (e + 1) / M ≤ e / M + 1 := by
      rw [Nat.div_le_iff_le_mul_add_pred hM]
      have := Nat.div_add_mod e M
      have := Nat.mod_lt e hM
      rw [Nat.mul_add]; omega
    omega
theorem Drawn.new {B M : Nat} {dl : Nat → Nat → Nat} {st : List Nat} {e : Nat} {nx : List Nat} {s : Nat} (h : Drawn B M dl st e nx) (hM : 0 < M) (he : e / M < st.length) (hs : s = dl (st.getD (e / M) 0) (e % M)) (hb : s < B) (hf : ∀ i, i < st.length → st.getD i 0 ≠ s) : Drawn B M dl (st ++ [s]) (e + 1) (nx ++ [st.length]) := by
  have hl := h.len
  have hl2 : (st ++ [s]).length = st.length + 1 := by simp
  refine ⟨by simp [hl], fun i j hij hj => ?_, fun i hi => ?_, fun k hk => ?_, fun i h0 hi => ?_, ⟨by omega, by rw [getD_snoc_old h.first.1]; exact h.first.2⟩, ?_⟩
  · rw [getD_snoc_old (show i < st.length by omega)]
    by_cases hj2 : j = st.length
    · rw [hj2, getD_snoc_new]; exact hf i (by omega)
    · rw [getD_snoc_old (show j < st.length by omega)]; exact h.nodup i j hij (by omega)
  · by_cases hj2 : i = st.length
    · rw [hj2, getD_snoc_new]; exact hb
    · rw [getD_snoc_old (show i < st.length by omega)]; exact h.bound i (by omega)
  · have hkM : k / M < st.length := by
      have : k / M ≤ e / M := Nat.div_le_div_right (by omega)
      omega
    by_cases hke : k = e
    · subst hke
      have e1 : (nx ++ [st.length]).getD k 0 = st.length := by rw [← hl]; exact getD_snoc_new _ _
      rw [e1]
      exact ⟨by omega, by rw [getD_snoc_new, getD_snoc_old hkM]; exact hs⟩
    · have := h.edge k (by omega)
      rw [getD_snoc_old (show k < nx.length by omega), getD_snoc_old this.1, getD_snoc_old hkM]
      exact ⟨by omega, this.2⟩
  · by_cases hj2 : i = st.length
    · subst hj2
      refine ⟨e, by omega, by rw [← hl]; exact getD_snoc_new _ _, he, fun k' hk' => ?_⟩
      rw [getD_snoc_old (by omega)]; exact (h.edge k' hk').1
    · obtain ⟨k, h1, h2, h3, h4⟩ := h.met i h0 (by omega)
      refine ⟨k, by omega, by rw [getD_snoc_old (by omega)]; exact h2, h3, fun k' hk' => ?_⟩
      rw [getD_snoc_old (by omega)]; exact h4 k' hk'
  · have : (e + 1) / M ≤ e / M + 1 := by
      rw [Nat.div_le_iff_le_mul_add_pred hM]
      have := Nat.div_add_mod e M
      have := Nat.mod_lt e hM
      rw [Nat.mul_add]; omega
    omega

/-- The least byte of a letter. -/
theorem Sorted.below_head {N : Nat} {E : Nat → Nat → Prop} {hs : List Nat} {kd : Nat → Nat} (h : Sorted N E hs kd) {c b : Nat} (hc : c < hs.length) (hb : b < hs.getD c 0) : kd b < c := by
  have g := h.head c hc
  have l := h.lt b (by omega)
  have := h.le b (by omega)
  refine Nat.lt_of_not_le fun hle => ?_
  rcases Nat.lt_or_eq_of_le hle with q | q
  · have := h.incr c _ q l; omega
  · rw [← q] at this; omega

theorem edge_div {M i c : Nat} (hc : c < M) : (i * M + c) / M = i ∧ (i * M + c) % M = c := by
  have hM : 0 < M := by omega
  rw [Nat.mul_comm i M, Nat.mul_add_div hM, Nat.div_eq_of_lt hc, Nat.mul_add_mod, Nat.mod_eq_of_lt hc]
  exact ⟨by omega, rfl⟩
theorem edge_lt {M i c i' c' : Nat} (hc : c < M) (hi : i < i') : i * M + c < i' * M + c' := by
  have : (i + 1) * M ≤ i' * M := Nat.mul_le_mul_right M hi
  rw [Nat.add_mul] at this; omega

/-- What is drawn to the end is an automaton whose states are met in the order of their numbers. -/
theorem Drawn.dfa {p : Part} {B : Nat} {st nx hb : List Nat} {lt : Nat → Nat} {gr : Nat → Bool} {L : List Nat → Prop}
    (hs : Sorted 256 (fun b b' => fitP p b = fitP p b') hb lt) (h : Drawn B hb.length (fun s c => reachP p s &&& fitP p (hb.getD c 0)) st (st.length * hb.length) nx)
    (hg : ∀ i, i < st.length → (gr i = true ↔ st.getD i 0 &&& p.last ≠ 0)) (hL : ∀ u, runN p 1 u &&& p.last ≠ 0 ↔ L u) :
    BfsDfa L st.length (fun i b => nx.getD (i * hb.length + lt b) 0) gr := by
  have hM : 0 < hb.length := (hs.zero (by omega)).1
  have hk : ∀ {i b}, i < st.length → b < 256 → i * hb.length + lt b < st.length * hb.length := fun {i b} hi hb' => edge_lt (c' := 0) (hs.lt b hb') hi
  have hstep : ∀ {i b}, i < st.length → b < 256 → nx.getD (i * hb.length + lt b) 0 < st.length ∧ st.getD (nx.getD (i * hb.length + lt b) 0) 0 = stepN p (st.getD i 0) b := fun {i b} hi hb' => by
    have := h.edge _ (hk hi hb')
    rw [(edge_div (hs.lt b hb')).1, (edge_div (hs.lt b hb')).2] at this
    refine ⟨this.1, ?_⟩
    have g := hs.head _ (hs.lt b hb')
    have e : fitP p (hb.getD (lt b) 0) = fitP p b := (hs.iff _ b g.1 hb').1 g.2
    rw [this.2, stepN_fit]
    show reachP p _ &&& fitP p _ = _
    rw [e]
  have hrun : ∀ (u : List Nat) (i : Nat), i < st.length → bytesOk u → dRun (fun i b => nx.getD (i * hb.length + lt b) 0) i u < st.length ∧ st.getD (dRun (fun i b => nx.getD (i * hb.length + lt b) 0) i u) 0 = runN p (st.getD i 0) u := by
    intro u
    induction u with
    | nil => intro i hi _; exact ⟨hi, rfl⟩
    | cons b u ih =>
      intro i hi hu
      have hb' := bytesOk_tail hu
      have g := hstep hi hb'.1
      have := ih _ g.1 hb'.2
      rw [g.2] at this
      exact this
  refine ⟨h.first.1, fun i b hi hb' => (hstep hi hb').1, fun u hu => ?_, fun k h0 hk1 => ?_⟩
  · have g := hrun u 0 h.first.1 hu
    rw [h.first.2] at g
    rw [hg _ g.1, g.2]; exact hL u
  · obtain ⟨k0, h1, h2, h3, h4⟩ := h.met k h0 hk1
    have hc : k0 % hb.length < hb.length := Nat.mod_lt _ hM
    have g := hs.head _ hc
    have e0 : k0 / hb.length * hb.length + k0 % hb.length = k0 := by rw [Nat.mul_comm]; exact Nat.div_add_mod _ _
    refine ⟨k0 / hb.length, hb.getD (k0 % hb.length) 0, h3, g.1, ?_, fun i' b' hb' hi' => ?_, fun b' hb' => ?_⟩
    · show nx.getD (_ * _ + lt _) 0 = k
      rw [g.2, e0]; exact h2
    · refine h4 _ ?_
      rw [← e0]
      exact edge_lt (hs.lt b' hb') hi'
    · refine h4 _ ?_
      have := hs.below_head hc hb'
      omega

end Go.Proofs.Ytobfpgoepaeknaa
