/-
  The reader of patterns: what its methods that look and take do to its block of memory.
  The reader of patterns: escapes and single bytes.
-/
import Derived.Test.YtfooclcjehpcfaaGreatLeaf
import Derived.Deep.QuietTactic
import Derived.BigQuiet
namespace Go.Proofs.YtfooclcjehpcfaaGreat
open Go.RowKit

theorem w64 (n : Int) (h : 0 ≤ n ∧ n ≤ 65536) : wrap64 n = n := by unfold wrap64; omega

/-- Block b of w is a reader: its text, its place, its mark, its list of nodes, its list of sets. -/
def Rd1 (w : World) (b : Nat) (t : ByteArray) (s : S1) (nv sv : Value) : Prop :=
  w.heap[b]? = some (.cells #[.string t, .int .i64 (s.k : Int), .bool s.bad, nv, sv] 81 (0, 0))

/-- From w to w' block b alone has turned, and it is a reader. -/
def Post1 (w w' : World) (b : Nat) (t : ByteArray) (s : S1) (nv sv : Value) : Prop :=
  w.grownBy w' (some b) ∧ Rd1 w' b t s nv sv

section
variable {w w' : World} {b : Nat} {t : ByteArray} {s s' : S1} {nv sv : Value}

theorem Rd1.cells (h : Rd1 w b t s nv sv) :
    w.cell? ⟨b, 0, none⟩ = some (.string t) ∧ w.cell? ⟨b, 1, none⟩ = some (.int .i64 (s.k : Int)) ∧ w.cell? ⟨b, 2, none⟩ = some (.bool s.bad) ∧
    w.cell? ⟨b, 3, none⟩ = some nv ∧ w.cell? ⟨b, 4, none⟩ = some sv := by
  unfold Rd1 at h
  simp [World.cell?, h]

theorem Rd1.unfrozen (h : Rd1 w b t s nv sv) :
    w.frozen? ⟨b, 1, none⟩ = false ∧ w.frozen? ⟨b, 2, none⟩ = false ∧ w.frozen? ⟨b, 3, none⟩ = false ∧ w.frozen? ⟨b, 4, none⟩ = false := by
  unfold Rd1 at h
  simp [World.frozen?, h]

theorem Rd1.lt (h : Rd1 w b t s nv sv) : b < w.heap.size := (Array.getElem?_eq_some_iff.1 h).1

theorem grownBy_refl (w : World) (r : Option Nat) : w.grownBy w r := ⟨rfl, rfl, rfl, Nat.le_refl _, fun _ _ _ => rfl⟩
theorem grownBy_trans {w w1 w2 : World} {r : Option Nat} (h : w.grownBy w1 r) (k : w1.grownBy w2 r) : w.grownBy w2 r :=
  ⟨k.os.trans h.os, k.tape.trans h.tape, k.output.trans h.output, Nat.le_trans h.size k.size,
    fun i hi hr => (k.block i (Nat.lt_of_lt_of_le hi h.size) hr).trans (h.block i hi hr)⟩
theorem grownBy_drewN {w w1 : World} {r : Option Nat} (h : w.grownBy w1 r) (n : Nat) : w.grownBy (w1.drewN n) r :=
  ⟨h.os, h.tape, h.output, h.size, h.block⟩
theorem grownBy_setCell {w w1 : World} {b o : Nat} (h : w.grownBy w1 (some b)) (v : Value) : w.grownBy (w1.setCell ⟨b, o, none⟩ v) (some b) :=
  grownBy_trans h ⟨rfl, rfl, rfl, by simp [World.setCell], fun k _ hk => Below.heap_setCell _ _ _ _ (by simpa using hk)⟩
theorem grownBy_alloc {w w1 : World} {r : Option Nat} (h : w.grownBy w1 r) (o : Obj) : w.grownBy (w1.alloc o) r :=
  grownBy_trans h (World.grownBy_alloc w1 o r)

theorem Post1.refl (h : Rd1 w b t s nv sv) : Post1 w w b t s nv sv := ⟨grownBy_refl _ _, h⟩
theorem Post1.drewN (h : Post1 w w' b t s nv sv) (n : Nat) : Post1 w (w'.drewN n) b t s nv sv := ⟨grownBy_drewN h.1 n, h.2⟩
theorem Post1.trans {w1 w2 : World} (h : Post1 w w1 b t s nv sv) (k : Post1 w1 w2 b t s' nv sv) : Post1 w w2 b t s' nv sv :=
  ⟨grownBy_trans h.1 k.1, k.2⟩
theorem Post1.step (h : Post1 w w' b t s nv sv) : Post1 w (w'.setCell ⟨b, 1, none⟩ (.int .i64 ((s.k : Int) + 1))) b t ⟨s.k + 1, s.bad⟩ nv sv := by
  refine ⟨grownBy_setCell h.1 _, ?_⟩
  have hr := h.2
  unfold Rd1 at hr ⊢
  simp only [World.setCell, Array.getElem?_modify, if_pos, hr]
  simp
theorem Post1.mark (h : Post1 w w' b t s nv sv) : Post1 w (w'.setCell ⟨b, 2, none⟩ (.bool true)) b t ⟨s.k, true⟩ nv sv := by
  refine ⟨grownBy_setCell h.1 _, ?_⟩
  have hr := h.2
  unfold Rd1 at hr ⊢
  simp only [World.setCell, Array.getElem?_modify, if_pos, hr]
  simp
end

set_option maxHeartbeats 400000 in
theorem peek_any (w : World) (b : Nat) (t : ByteArray) (s : S1) (nv sv : Value) (h : Rd1 w b t s nv sv)
    (_ht : t.size ≤ 60) (hk : s.k ≤ t.size) :
    Calls Tryz.prog 80 #[.pointer (some ⟨b, 0, none⟩)] w fun e w' => e = .returned (.int .i64 (s.pk t)) ∧ ∃ n, w' = w.drewN n := by
  obtain ⟨c0, c1, c2, -, -⟩ := h.cells
  obtain ⟨k, bad⟩ := s
  simp only at c1 c2 hk
  have e : S1.pk t ⟨k, bad⟩ = pk t k bad := rfl
  rw [e]
  clear e h
  cases bad
  · by_cases hlt : k < t.size
    · have hd : decide ((k : Int) < 0) = false := by simp
      have hd2 : decide ((t.size : Int) ≤ (k : Int)) = false := by simp; omega
      have hl : (k : Int) < (t.size : Int) := by omega
      go_enter Tryz.func80, Tryz.ntmps80
      go_wp2
      go_quiet (fail)
      go_wp2
      go_quiet (fail)
      go_wp2
      go_ret
      exact ⟨ret_int (by rw [w64 _ (by have := t[k].toNat_lt; omega)]; simp [pk, hlt]), _, World.drewN_drewN _ _ _⟩
    · have hd : decide ((k : Int) < 0) = false := by simp
      have hd2 : decide ((t.size : Int) ≤ (k : Int)) = true := by simp; omega
      go_enter Tryz.func80, Tryz.ntmps80
      go_wp2
      go_quiet (fail)
      go_wp2
      go_ret
      exact ⟨ret_int (by simp [pk, hlt]), _, rfl⟩
  · go_enter Tryz.func80, Tryz.ntmps80
    go_wp2
    go_quiet (fail)
    go_wp2
    go_ret
    exact ⟨ret_int (by simp [pk]), _, rfl⟩

set_option maxHeartbeats 400000 in
theorem take_any (w : World) (b : Nat) (t : ByteArray) (s : S1) (nv sv : Value) (c : Int) (h : Rd1 w b t s nv sv)
    (ht : t.size ≤ 60) (hk : s.k ≤ t.size) :
    Calls Tryz.prog 53 #[.pointer (some ⟨b, 0, none⟩), .int .i64 c] w fun e w' =>
      e = .returned (.bool (s.pk t == c)) ∧ Post1 w w' b t (takeS t c s) nv sv := by
  obtain ⟨c0, c1, c2, -, -⟩ := h.cells
  obtain ⟨f1, f2, -, -⟩ := h.unfrozen
  have hp := peek_any w b t s nv sv h ht hk
  have HP := hide hp
  clear hp
  by_cases hc : s.pk t = c
  · have hb : (s.pk t != c) = false := by simp [hc]
    have HC := hide hc
    clear hc
    go_enter Tryz.func53, Tryz.ntmps53
    go_wp2_with (go_at_call 80; refine (unhide HP).mono ?_; rintro e w' ⟨rfl, n, rfl⟩)
    go_ret
    refine ⟨ret_bool (by simp [unhide HC]), ?_⟩
    have : takeS t c s = ⟨s.k + 1, s.bad⟩ := by simp [takeS, unhide HC]
    rw [this]
    exact ((Post1.refl h).drewN n).step
  · have hb : (s.pk t != c) = true := by simp [hc]
    go_enter Tryz.func53, Tryz.ntmps53
    go_wp2_with (go_at_call 80; refine (unhide HP).mono ?_; rintro e w' ⟨rfl, n, rfl⟩)
    go_ret
    refine ⟨ret_bool (by simp [hc]), ?_⟩
    have : takeS t c s = s := by simp [takeS, hc]
    rw [this]
    exact (Post1.refl h).drewN n

set_option maxHeartbeats 400000 in
theorem expect_any (w : World) (b : Nat) (t : ByteArray) (s : S1) (nv sv : Value) (c : Int) (h : Rd1 w b t s nv sv)
    (ht : t.size ≤ 60) (hk : s.k ≤ t.size) :
    Calls Tryz.prog 93 #[.pointer (some ⟨b, 0, none⟩), .int .i64 c] w fun e w' =>
      e = .returned (.tuple #[]) ∧ Post1 w w' b t (expectS t c s) nv sv := by
  have HP := hide (take_any w b t s nv sv c h ht hk)
  by_cases hc : s.pk t = c
  · have hb : (s.pk t == c) = true := by simp [hc]
    have HC := hide hc
    clear hc
    go_enter Tryz.func93, Tryz.ntmps93
    go_wp2_with (go_at_call 53; refine (unhide HP).mono ?_; rintro e w1 ⟨rfl, hw1⟩)
    go_end0
    refine ⟨rfl, ?_⟩
    have e1 : takeS t c s = expectS t c s := by simp [takeS, expectS, unhide HC]
    rw [e1] at hw1
    exact hw1
  · have hb : (s.pk t == c) = false := by simp [hc]
    have e1 : takeS t c s = s := by simp [takeS, hc]
    have e2 : expectS t c s = ⟨s.k, true⟩ := by simp [expectS, hc]
    rw [e1] at HP
    rw [e2]
    clear e1 e2 hc
    go_enter Tryz.func93, Tryz.ntmps93
    go_wp2_with fail
    refine (unhide HP).mono ?_
    rintro e w1 ⟨rfl, hw1⟩
    obtain ⟨c0, c1, c2, -, -⟩ := hw1.2.cells
    obtain ⟨f1, f2, -, -⟩ := hw1.2.unfrozen
    go_wp2
    go_end0
    exact ⟨rfl, hw1.mark⟩

set_option maxHeartbeats 400000 in
theorem readDigit_any (w : World) (b : Nat) (t : ByteArray) (s : S1) (nv sv : Value) (c : Int) (h : Rd1 w b t s nv sv)
    (ht : t.size ≤ 60) (hk : s.k ≤ t.size) :
    Calls Tryz.prog 99 #[.pointer (some ⟨b, 0, none⟩), .int .i64 c] w fun e w' =>
      e = .returned (.int .i64 (readDigitS t c s).1) ∧ Post1 w w' b t (readDigitS t c s).2 nv sv := by
  obtain ⟨c0, c1, c2, -, -⟩ := h.cells
  obtain ⟨f1, f2, -, -⟩ := h.unfrozen
  have HP := hide (peek_any w b t s nv sv h ht hk)
  have hbd := S1.pk_bd t s
  have HD := hide (fun w => digit_any (s.pk t) w hbd.1 hbd.2)
  by_cases hc : digitOk t c s = true
  · have e1 : readDigitS t c s = (digitI (s.pk t), ⟨s.k + 1, s.bad⟩) := by simp [readDigitS, hc]
    rw [e1]
    have hd := digitOk_pos hc
    have g1 : 0 ≤ digitI (s.pk t) := hd.2.1
    have g2 : digitI (s.pk t) < c := hd.2.2
    clear e1 hc hd hbd
    generalize digitI (s.pk t) = d at *
    go_enter Tryz.func99, Tryz.ntmps99
    go_wp2_with (first
      | (go_at_call 80; refine (unhide HP).mono ?_; rintro e w' ⟨rfl, n, rfl⟩)
      | (go_at_call 102; refine (unhide HD _).mono ?_; rintro e w' ⟨rfl, rfl⟩))
    go_ret
    exact ⟨rfl, ((Post1.refl h).drewN n).step⟩
  · have e1 : readDigitS t c s = (0, ⟨s.k, true⟩) := by simp [readDigitS, hc]
    rw [e1]
    have g1 : digitI (s.pk t) < 0 ∨ c ≤ digitI (s.pk t) := by simp [digitOk] at hc; omega
    clear e1 hc hbd
    generalize digitI (s.pk t) = d at *
    rcases g1 with g1 | g1
    · go_enter Tryz.func99, Tryz.ntmps99
      go_wp2_with (first
        | (go_at_call 80; refine (unhide HP).mono ?_; rintro e w' ⟨rfl, n, rfl⟩)
        | (go_at_call 102; refine (unhide HD _).mono ?_; rintro e w' ⟨rfl, rfl⟩))
      go_ret
      exact ⟨rfl, ((Post1.refl h).drewN n).mark⟩
    · by_cases g0 : d < 0
      all_goals
        go_enter Tryz.func99, Tryz.ntmps99
        go_wp2_with (first
          | (go_at_call 80; refine (unhide HP).mono ?_; rintro e w' ⟨rfl, n, rfl⟩)
          | (go_at_call 102; refine (unhide HD _).mono ?_; rintro e w' ⟨rfl, rfl⟩))
        go_ret
        exact ⟨rfl, ((Post1.refl h).drewN n).mark⟩


set_option maxHeartbeats 400000 in
theorem atAtom_any (w : World) (b : Nat) (t : ByteArray) (s : S1) (nv sv : Value) (h : Rd1 w b t s nv sv)
    (ht : t.size ≤ 60) (hk : s.k ≤ t.size) :
    Calls Tryz.prog 78 #[.pointer (some ⟨b, 0, none⟩)] w fun e w' =>
      e = .returned (.bool (atAtomB (s.pk t))) ∧ ∃ n, w' = w.drewN n := by
  have HP := hide (peek_any w b t s nv sv h ht hk)
  clear h hk ht
  generalize s.pk t = x at *
  go_enter Tryz.func78, Tryz.ntmps78
  go_wp2_with (first
    | (go_at_call 80; refine (unhide HP).mono ?_; rintro e w' ⟨rfl, n, rfl⟩)
    | (go_at_call 87; refine (isPlain_any _ _).mono ?_; rintro e w' ⟨rfl, rfl⟩))
  all_goals
    go_ret
    exact ⟨ret_bool (by simp_all [atAtomB]), _, rfl⟩

set_option maxHeartbeats 400000 in
theorem atSuffix_any (w : World) (b : Nat) (t : ByteArray) (s : S1) (nv sv : Value) (h : Rd1 w b t s nv sv)
    (ht : t.size ≤ 60) (hk : s.k ≤ t.size) :
    Calls Tryz.prog 89 #[.pointer (some ⟨b, 0, none⟩)] w fun e w' =>
      e = .returned (.bool (atSuffixB (s.pk t))) ∧ ∃ n, w' = w.drewN n := by
  have HP := hide (peek_any w b t s nv sv h ht hk)
  clear h hk ht
  generalize s.pk t = x at *
  go_enter Tryz.func89, Tryz.ntmps89
  go_wp2_with (go_at_call 80; refine (unhide HP).mono ?_; rintro e w' ⟨rfl, n, rfl⟩)
  all_goals
    go_ret
    exact ⟨ret_bool (by simp_all [atSuffixB]), _, rfl⟩

end Go.Proofs.YtfooclcjehpcfaaGreat
namespace Go.Proofs.YtfooclcjehpcfaaGreat
open Go.RowKit

set_option maxHeartbeats 400000 in
theorem readEscape_any (w : World) (b : Nat) (t : ByteArray) (s : S1) (nv sv : Value) (h : Rd1 w b t s nv sv)
    (ht : t.size ≤ 60) (hk : s.k ≤ t.size) :
    Calls Tryz.prog 101 #[.pointer (some ⟨b, 0, none⟩)] w fun e w' =>
      e = .returned (.int .i64 (readEscapeS t s).1) ∧ Post1 w w' b t (readEscapeS t s).2 nv sv := by
  have HE := hide (expect_any w b t s nv sv 92 h ht hk)
  have hk1 := expectS_le (t := t) (c := 92) (s := s) (by omega) hk
  by_cases hc : mayBeEscapedB ((expectS t 92 s).pk t) = true
  · have e1 : readEscapeS t s = ((expectS t 92 s).pk t, ⟨(expectS t 92 s).k + 1, (expectS t 92 s).bad⟩) := by simp [readEscapeS, hc]
    rw [e1]
    clear e1
    generalize expectS t 92 s = s1 at *
    go_enter Tryz.func101, Tryz.ntmps101
    go_wp2_with fail
    refine (unhide HE).mono ?_
    rintro e w1 ⟨rfl, hw1⟩
    have HP := hide (peek_any w1 b t s1 nv sv hw1.2 ht hk1)
    obtain ⟨c0, c1, c2, -, -⟩ := hw1.2.cells
    obtain ⟨f1, f2, -, -⟩ := hw1.2.unfrozen
    go_wp2_with fail
    refine (unhide HP).mono ?_
    rintro e w2 ⟨rfl, n, rfl⟩
    go_wp2_with (go_at_call 104; refine (mayBeEscaped_any _ _).mono ?_; rintro e w' ⟨rfl, rfl⟩)
    go_ret
    exact ⟨rfl, (hw1.drewN n).step⟩
  · have hc' : mayBeEscapedB ((expectS t 92 s).pk t) = false := by simpa using hc
    have e1 : readEscapeS t s = (16 * (readDigitS t 16 (expectS t 92 s)).1 + (readDigitS t 16 (readDigitS t 16 (expectS t 92 s)).2).1, (readDigitS t 16 (readDigitS t 16 (expectS t 92 s)).2).2) := by
      simp [readEscapeS, hc]
    rw [e1]
    clear e1 hc
    generalize expectS t 92 s = s1 at *
    go_enter Tryz.func101, Tryz.ntmps101
    go_wp2_with fail
    refine (unhide HE).mono ?_
    rintro e w1 ⟨rfl, hw1⟩
    have HP := hide (peek_any w1 b t s1 nv sv hw1.2 ht hk1)
    go_wp2_with fail
    refine (unhide HP).mono ?_
    rintro e w2 ⟨rfl, n, rfl⟩
    go_wp2_with (go_at_call 104; refine (mayBeEscaped_any _ _).mono ?_; rintro e w' ⟨rfl, rfl⟩)
    refine (readDigit_any _ b t s1 nv sv 16 (hw1.drewN n).2 ht hk1).mono ?_
    rintro e w3 ⟨rfl, hw3⟩
    have hk2 := readDigitS_le (t := t) (c := 16) (s := s1) hk1
    have hb2 := readDigitS_bd t 16 s1 (by omega)
    generalize hr2 : readDigitS t 16 s1 = r2 at *
    obtain ⟨d2, s2⟩ := r2
    have Hr2 := hide hr2
    clear hr2
    simp only at hk2 hw3 hb2
    go_wp2_with fail
    refine (readDigit_any _ b t s2 nv sv 16 hw3.2 ht hk2).mono ?_
    rintro e w4 ⟨rfl, hw4⟩
    have hb4 := readDigitS_bd t 16 s2 (by omega)
    generalize hr4 : readDigitS t 16 s2 = r4 at *
    obtain ⟨d4, s4⟩ := r4
    have Hr4 := hide hr4
    clear hr4
    simp only at hw4 hb4
    go_wp2
    go_ret
    rw [unhide Hr2, unhide Hr4]
    exact ⟨rfl, ((hw1.drewN n).trans hw3).trans hw4⟩

set_option maxHeartbeats 400000 in
theorem readByte_any (w : World) (b : Nat) (t : ByteArray) (s : S1) (nv sv : Value) (h : Rd1 w b t s nv sv)
    (ht : t.size ≤ 60) (hk : s.k ≤ t.size) :
    Calls Tryz.prog 97 #[.pointer (some ⟨b, 0, none⟩)] w fun e w' =>
      e = .returned (.int .i64 (readByteS t s).1) ∧ Post1 w w' b t (readByteS t s).2 nv sv := by
  have HP := hide (peek_any w b t s nv sv h ht hk)
  have HE := hide (fun n => readEscape_any (w.drewN n) b t s nv sv ((Post1.refl h).drewN n).2 ht hk)
  obtain ⟨c0, c1, c2, -, -⟩ := h.cells
  obtain ⟨f1, f2, -, -⟩ := h.unfrozen
  by_cases hc : (s.pk t == 92) = true
  · have e1 : readByteS t s = readEscapeS t s := by simp only [readByteS, hc, if_true]
    rw [e1]
    clear e1
    go_enter Tryz.func97, Tryz.ntmps97
    go_wp2_with fail
    refine (unhide HP).mono ?_
    rintro e w2 ⟨rfl, n, rfl⟩
    go_wp2_with fail
    refine (unhide HE n).mono ?_
    rintro e w3 ⟨rfl, hw3⟩
    go_wp2
    go_ret
    exact ⟨rfl, ((Post1.refl h).drewN n).trans hw3⟩
  · have hc' : (s.pk t == 92) = false := by simpa using hc
    by_cases hd : isPlainB (s.pk t) = true
    · have e1 : readByteS t s = (s.pk t, ⟨s.k + 1, s.bad⟩) := by simp only [readByteS, hc', hd]; rfl
      rw [e1]
      clear e1 hc
      go_enter Tryz.func97, Tryz.ntmps97
      go_wp2_with fail
      refine (unhide HP).mono ?_
      rintro e w2 ⟨rfl, n, rfl⟩
      go_wp2_with (go_at_call 87; refine (isPlain_any _ _).mono ?_; rintro e w' ⟨rfl, rfl⟩)
      go_ret
      exact ⟨rfl, ((Post1.refl h).drewN n).step⟩
    · have hd' : isPlainB (s.pk t) = false := by simpa using hd
      have e1 : readByteS t s = (0, ⟨s.k, true⟩) := by simp only [readByteS, hc', hd']; rfl
      rw [e1]
      clear e1 hc hd
      go_enter Tryz.func97, Tryz.ntmps97
      go_wp2_with fail
      refine (unhide HP).mono ?_
      rintro e w2 ⟨rfl, n, rfl⟩
      go_wp2_with (go_at_call 87; refine (isPlain_any _ _).mono ?_; rintro e w' ⟨rfl, rfl⟩)
      go_ret
      exact ⟨rfl, ((Post1.refl h).drewN n).mark⟩

set_option maxHeartbeats 400000 in
theorem readSetByte_any (w : World) (b : Nat) (t : ByteArray) (s : S1) (nv sv : Value) (h : Rd1 w b t s nv sv)
    (ht : t.size ≤ 60) (hk : s.k ≤ t.size) :
    Calls Tryz.prog 103 #[.pointer (some ⟨b, 0, none⟩)] w fun e w' =>
      e = .returned (.int .i64 (readSetByteS t s).1) ∧ Post1 w w' b t (readSetByteS t s).2 nv sv := by
  have HP := hide (peek_any w b t s nv sv h ht hk)
  have HE := hide (fun n => readEscape_any (w.drewN n) b t s nv sv ((Post1.refl h).drewN n).2 ht hk)
  obtain ⟨c0, c1, c2, -, -⟩ := h.cells
  obtain ⟨f1, f2, -, -⟩ := h.unfrozen
  by_cases hc : (s.pk t == 92) = true
  · have e1 : readSetByteS t s = readEscapeS t s := by simp only [readSetByteS, hc, if_true]
    rw [e1]
    clear e1
    go_enter Tryz.func103, Tryz.ntmps103
    go_wp2_with fail
    refine (unhide HP).mono ?_
    rintro e w2 ⟨rfl, n, rfl⟩
    go_wp2_with fail
    refine (unhide HE n).mono ?_
    rintro e w3 ⟨rfl, hw3⟩
    go_wp2
    go_ret
    exact ⟨rfl, ((Post1.refl h).drewN n).trans hw3⟩
  · have hc' : (s.pk t == 92) = false := by simpa using hc
    by_cases hd : isPlainInSetB (s.pk t) = true
    · have e1 : readSetByteS t s = (s.pk t, ⟨s.k + 1, s.bad⟩) := by simp only [readSetByteS, hc', hd]; rfl
      rw [e1]
      clear e1 hc
      go_enter Tryz.func103, Tryz.ntmps103
      go_wp2_with fail
      refine (unhide HP).mono ?_
      rintro e w2 ⟨rfl, n, rfl⟩
      go_wp2_with (go_at_call 105; refine (isPlainInSet_any _ _).mono ?_; rintro e w' ⟨rfl, rfl⟩)
      go_ret
      exact ⟨rfl, ((Post1.refl h).drewN n).step⟩
    · have hd' : isPlainInSetB (s.pk t) = false := by simpa using hd
      have e1 : readSetByteS t s = (0, ⟨s.k, true⟩) := by simp only [readSetByteS, hc', hd']; rfl
      rw [e1]
      clear e1 hc hd
      go_enter Tryz.func103, Tryz.ntmps103
      go_wp2_with fail
      refine (unhide HP).mono ?_
      rintro e w2 ⟨rfl, n, rfl⟩
      go_wp2_with (go_at_call 105; refine (isPlainInSet_any _ _).mono ?_; rintro e w' ⟨rfl, rfl⟩)
      go_ret
      exact ⟨rfl, ((Post1.refl h).drewN n).mark⟩

end Go.Proofs.YtfooclcjehpcfaaGreat
