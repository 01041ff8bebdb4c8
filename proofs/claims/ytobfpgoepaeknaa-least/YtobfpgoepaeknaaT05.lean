/-
  The reader of patterns: suffixes; what its smaller methods do to a reader with nodes and sets.
  The reader of patterns: atoms, pieces, branches, patterns.
-/
import Derived.Test.YtobfpgoepaeknaaT04
import Derived.Test.YtobfpgoepaeknaaT00
namespace Go.Proofs.Ytobfpgoepaeknaa
open Go.RowKit

/-- Block b of w is a reader in the state x. -/
def RdS (w : World) (b : Nat) (t : ByteArray) (x : St) : Prop := Rd2 w b t x.s x.ns x.fs
def PostS (w w' : World) (b : Nat) (t : ByteArray) (x : St) : Prop := Below b w w' ∧ RdS w' b t x

section
variable {w w' w1 : World} {b : Nat} {t : ByteArray} {x y : St} {s : S1}
theorem PostS.refl (h : RdS w b t x) : PostS w w b t x := ⟨Below.refl _ _, h⟩
theorem PostS.trans (h : PostS w w1 b t x) (k : PostS w1 w' b t y) : PostS w w' b t y := ⟨h.1.trans k.1, k.2⟩
theorem PostS.drewN (h : PostS w w1 b t x) (n : Nat) : PostS w (w1.drewN n) b t x := ⟨below_drewN h.1 n, h.2⟩
theorem PostS.below (h : PostS w w1 b t x) (hb : Below w1.heap.size w1 w') : PostS w w' b t x := by
  obtain ⟨nv, sv, h1, h2, h3⟩ := h.2
  have hg := grownBy_of_below hb none
  refine ⟨h.1.trans (hb.mono (Nat.le_of_lt h1.lt)), nv, sv, h1.kept hg (by simp), h2.kept hg (by cases nv.ownBlock <;> simp), h3.kept hg (by cases sv.ownBlock <;> simp)⟩

theorem lift1 {nv sv : Value} (h1 : Rd1 w b t x.s nv sv) (h2 : w.ownsRow (b + 1) 109 6 nv x.ns.length (nodeCells x.ns)) (h3 : w.ownsRow (b + 1) 85 256 sv x.fs.length (setsCells x.fs))
    (hp : Post1 w w' b t s nv sv) : PostS w w' b t (x.at s) :=
  ⟨below_grown hp.1 (Nat.le_of_lt h1.lt) (fun k hk => by simp at hk; omega), nv, sv, hp.2, h2.kept hp.1 (Or.inr (own_ne h2).symm), h3.kept hp.1 (Or.inr (own_ne h3).symm)⟩
end

theorem take_S (w : World) (b : Nat) (t : ByteArray) (x : St) (c : Int) (h : RdS w b t x) (ht : t.size ≤ 60) (hk : x.s.k ≤ t.size) :
    Calls Try.prog 56 #[.pointer (some ⟨b, 0, none⟩), .int .i64 c] w fun e w' =>
      e = .returned (.bool (x.s.pk t == c)) ∧ PostS w w' b t (x.at (takeS t c x.s)) := by
  obtain ⟨nv, sv, h1, h2, h3⟩ := h
  refine (take_any w b t x.s nv sv c h1 ht hk).mono ?_
  rintro e w' ⟨rfl, hp⟩
  exact ⟨rfl, lift1 h1 h2 h3 hp⟩
theorem expect_S (w : World) (b : Nat) (t : ByteArray) (x : St) (c : Int) (h : RdS w b t x) (ht : t.size ≤ 60) (hk : x.s.k ≤ t.size) :
    Calls Try.prog 102 #[.pointer (some ⟨b, 0, none⟩), .int .i64 c] w fun e w' =>
      e = .returned (.tuple #[]) ∧ PostS w w' b t (x.at (expectS t c x.s)) := by
  obtain ⟨nv, sv, h1, h2, h3⟩ := h
  refine (expect_any w b t x.s nv sv c h1 ht hk).mono ?_
  rintro e w' ⟨rfl, hp⟩
  exact ⟨rfl, lift1 h1 h2 h3 hp⟩
theorem readDigit_S (w : World) (b : Nat) (t : ByteArray) (x : St) (c : Int) (h : RdS w b t x) (ht : t.size ≤ 60) (hk : x.s.k ≤ t.size) :
    Calls Try.prog 108 #[.pointer (some ⟨b, 0, none⟩), .int .i64 c] w fun e w' =>
      e = .returned (.int .i64 (readDigitS t c x.s).1) ∧ PostS w w' b t (x.at (readDigitS t c x.s).2) := by
  obtain ⟨nv, sv, h1, h2, h3⟩ := h
  refine (readDigit_any w b t x.s nv sv c h1 ht hk).mono ?_
  rintro e w' ⟨rfl, hp⟩
  exact ⟨rfl, lift1 h1 h2 h3 hp⟩
theorem readByte_S (w : World) (b : Nat) (t : ByteArray) (x : St) (h : RdS w b t x) (ht : t.size ≤ 60) (hk : x.s.k ≤ t.size) :
    Calls Try.prog 106 #[.pointer (some ⟨b, 0, none⟩)] w fun e w' =>
      e = .returned (.int .i64 (readByteS t x.s).1) ∧ PostS w w' b t (x.at (readByteS t x.s).2) := by
  obtain ⟨nv, sv, h1, h2, h3⟩ := h
  refine (readByte_any w b t x.s nv sv h1 ht hk).mono ?_
  rintro e w' ⟨rfl, hp⟩
  exact ⟨rfl, lift1 h1 h2 h3 hp⟩
theorem readSet_S (w : World) (b : Nat) (t : ByteArray) (x : St) (h : RdS w b t x) (ht : t.size ≤ 60) (hk : x.s.k ≤ t.size) :
    Calls Try.prog 103 #[.pointer (some ⟨b, 0, none⟩)] w fun e w' =>
      e = .returned (.agg (setA (readSetS t x.s).1)) ∧ PostS w w' b t (x.at (readSetS t x.s).2) := by
  obtain ⟨nv, sv, h1, h2, h3⟩ := h
  refine (readSet_any w b t x.s nv sv h1 ht hk).mono ?_
  rintro e w' ⟨rfl, hp⟩
  exact ⟨rfl, lift1 h1 h2 h3 hp⟩
theorem atAtom_S (w : World) (b : Nat) (t : ByteArray) (x : St) (h : RdS w b t x) (ht : t.size ≤ 60) (hk : x.s.k ≤ t.size) :
    Calls Try.prog 77 #[.pointer (some ⟨b, 0, none⟩)] w fun e w' =>
      e = .returned (.bool (atAtomB (x.s.pk t))) ∧ PostS w w' b t x := by
  obtain ⟨nv, sv, h1, h2, h3⟩ := h
  refine (atAtom_any w b t x.s nv sv h1 ht hk).mono ?_
  rintro e w' ⟨rfl, n, rfl⟩
  exact ⟨rfl, (PostS.refl ⟨nv, sv, h1, h2, h3⟩).drewN n⟩
theorem atSuffix_S (w : World) (b : Nat) (t : ByteArray) (x : St) (h : RdS w b t x) (ht : t.size ≤ 60) (hk : x.s.k ≤ t.size) :
    Calls Try.prog 95 #[.pointer (some ⟨b, 0, none⟩)] w fun e w' =>
      e = .returned (.bool (atSuffixB (x.s.pk t))) ∧ PostS w w' b t x := by
  obtain ⟨nv, sv, h1, h2, h3⟩ := h
  refine (atSuffix_any w b t x.s nv sv h1 ht hk).mono ?_
  rintro e w' ⟨rfl, n, rfl⟩
  exact ⟨rfl, (PostS.refl ⟨nv, sv, h1, h2, h3⟩).drewN n⟩
theorem add_S (w : World) (b : Nat) (t : ByteArray) (x : St) (k l r lo hi st : Int) (h : RdS w b t x) (hn : x.ns.length ≤ 1000) :
    Calls Try.prog 57 #[.pointer (some ⟨b, 0, none⟩), .agg #[.int .i64 k, .int .i64 l, .int .i64 r, .int .i64 lo, .int .i64 hi, .int .i64 st]] w fun e w' =>
      e = .returned (.int .i64 x.num) ∧ PostS w w' b t (x.add ⟨k, l, r, lo, hi, st⟩) := by
  refine (add_any w b t x.s x.ns x.fs ⟨k, l, r, lo, hi, st⟩ h hn).mono ?_
  rintro e w' ⟨rfl, hp⟩
  exact ⟨rfl, hp⟩
theorem addSet_S (w : World) (b : Nat) (t : ByteArray) (x : St) (f : Nat → Bool) (h : RdS w b t x) (hn : x.ns.length ≤ 1000) (hn' : x.fs.length ≤ 1000) :
    Calls Try.prog 104 #[.pointer (some ⟨b, 0, none⟩), .agg (setA f)] w fun e w' =>
      e = .returned (.int .i64 x.num) ∧ PostS w w' b t (x.addSet f) := by
  refine (addSet_any w b t x.s x.ns x.fs f h hn hn').mono ?_
  rintro e w' ⟨rfl, hp⟩
  exact ⟨rfl, hp⟩

set_option maxHeartbeats 400000 in
theorem readSuffix_any (w : World) (b : Nat) (t : ByteArray) (x : St) (inner : Int) (h : RdS w b t x) (ht : t.size ≤ 60) (hk : x.s.k ≤ t.size) (hn : x.ns.length ≤ 1000) :
    Calls Try.prog 96 #[.pointer (some ⟨b, 0, none⟩), .int .i64 inner] w fun e w' =>
      e = .returned (.int .i64 x.num) ∧ PostS w w' b t (readSuffixS t inner x) := by
  by_cases c1 : (x.s.pk t == 42) = true
  · have e1 : readSuffixS t inner x = (x.at (takeS t 42 x.s)).add ⟨4, inner, 0, 0, 0, 0⟩ := by simp only [readSuffixS, c1, if_true]
    rw [e1]
    clear e1
    go_enter Try.func96, Try.ntmps96
    go_wp2_with fail
    refine (take_S _ b t x 42 h ht hk).mono ?_
    rintro e w1 ⟨rfl, hw1⟩
    go_wp2_with fail
    refine (add_S _ b t _ 4 inner 0 0 0 0 hw1.2 hn).mono ?_
    rintro e w2 ⟨rfl, hw2⟩
    go_wp2
    go_ret
    exact ⟨rfl, hw1.trans hw2⟩
  · have c1' : (x.s.pk t == 42) = false := by simpa using c1
    have t1 : x.at (takeS t 42 x.s) = x := by simp only [takeS, c1']; rfl
    by_cases c2 : (x.s.pk t == 43) = true
    · have e1 : readSuffixS t inner x = (x.at (takeS t 43 x.s)).add ⟨5, inner, 0, 0, 0, 0⟩ := by simp only [readSuffixS, c1', c2, if_true]; rfl
      rw [e1]
      have HT := hide t1
      clear e1 t1 c1
      go_enter Try.func96, Try.ntmps96
      go_wp2_with fail
      refine (take_S _ b t x 42 h ht hk).mono ?_
      rw [unhide HT]
      rintro e w1 ⟨rfl, hw1⟩
      go_wp2_with fail
      refine (take_S _ b t x 43 hw1.2 ht hk).mono ?_
      rintro e w2 ⟨rfl, hw2⟩
      go_wp2_with fail
      refine (add_S _ b t _ 5 inner 0 0 0 0 hw2.2 hn).mono ?_
      rintro e w3 ⟨rfl, hw3⟩
      go_wp2
      go_ret
      exact ⟨rfl, (hw1.trans hw2).trans hw3⟩
    · have c2' : (x.s.pk t == 43) = false := by simpa using c2
      have t2 : x.at (takeS t 43 x.s) = x := by simp only [takeS, c2']; rfl
      by_cases c3 : (x.s.pk t == 63) = true
      · have e1 : readSuffixS t inner x = (x.at (takeS t 63 x.s)).add ⟨6, inner, 0, 0, 0, 0⟩ := by simp only [readSuffixS, c1', c2', c3, if_true]; rfl
        rw [e1]
        have HT := hide t1
        have HT2 := hide t2
        clear e1 t1 c1 t2 c2
        go_enter Try.func96, Try.ntmps96
        go_wp2_with fail
        refine (take_S _ b t x 42 h ht hk).mono ?_
        rw [unhide HT]
        rintro e w1 ⟨rfl, hw1⟩
        go_wp2_with fail
        refine (take_S _ b t x 43 hw1.2 ht hk).mono ?_
        rw [unhide HT2]
        rintro e w2 ⟨rfl, hw2⟩
        go_wp2_with fail
        refine (take_S _ b t x 63 hw2.2 ht hk).mono ?_
        rintro e w3 ⟨rfl, hw3⟩
        go_wp2_with fail
        refine (add_S _ b t _ 6 inner 0 0 0 0 hw3.2 hn).mono ?_
        rintro e w4 ⟨rfl, hw4⟩
        go_wp2
        go_ret
        exact ⟨rfl, ((hw1.trans hw2).trans hw3).trans hw4⟩
      · have c3' : (x.s.pk t == 63) = false := by simpa using c3
        have t3 : x.at (takeS t 63 x.s) = x := by simp only [takeS, c3']; rfl
        have k1 := expectS_le (t := t) (c := 123) (s := x.s) (by omega) hk
        have k2 := readDigitS_le (t := t) (c := 10) (s := expectS t 123 x.s) k1
        have k3 := expectS_le (t := t) (c := 44) (s := (readDigitS t 10 (expectS t 123 x.s)).2) (by omega) k2
        have k4 := readDigitS_le (t := t) (c := 10) (s := expectS t 44 (readDigitS t 10 (expectS t 123 x.s)).2) k3
        have hfin : readSuffixS t inner x = (x.at (expectS t 125 (readDigitS t 10 (expectS t 44 (readDigitS t 10 (expectS t 123 x.s)).2)).2)).add ⟨7, inner, 0, (readDigitS t 10 (expectS t 123 x.s)).1, (readDigitS t 10 (expectS t 44 (readDigitS t 10 (expectS t 123 x.s)).2)).1, 0⟩ := by
          simp only [readSuffixS, c1', c2', c3']; rfl
        rw [hfin]
        have HT := hide t1
        have HT2 := hide t2
        have HT3 := hide t3
        clear t1 t2 t3 c1 c2 c3 hfin
        go_enter Try.func96, Try.ntmps96
        go_wp2_with fail
        refine (take_S _ b t x 42 h ht hk).mono ?_
        rw [unhide HT]
        rintro e w1 ⟨rfl, hw1⟩
        go_wp2_with fail
        refine (take_S _ b t x 43 hw1.2 ht hk).mono ?_
        rw [unhide HT2]
        rintro e w2 ⟨rfl, hw2⟩
        go_wp2_with fail
        refine (take_S _ b t x 63 hw2.2 ht hk).mono ?_
        rw [unhide HT3]
        rintro e w3 ⟨rfl, hw3⟩
        have p3 := (hw1.trans hw2).trans hw3
        clear hw1 hw2 hw3
        go_wp2_with fail
        refine (expect_S _ b t x 123 p3.2 ht hk).mono ?_
        rintro e w4 ⟨rfl, hw4⟩
        have p4 := p3.trans hw4
        go_wp2_with fail
        refine (readDigit_S _ b t _ 10 p4.2 ht k1).mono ?_
        rintro e w5 ⟨rfl, hw5⟩
        have p5 := p4.trans hw5
        go_wp2_with fail
        refine (expect_S _ b t _ 44 p5.2 ht k2).mono ?_
        rintro e w6 ⟨rfl, hw6⟩
        have p6 := p5.trans hw6
        go_wp2_with fail
        refine (readDigit_S _ b t _ 10 p6.2 ht k3).mono ?_
        rintro e w7 ⟨rfl, hw7⟩
        have p7 := p6.trans hw7
        go_wp2_with fail
        refine (expect_S _ b t _ 125 p7.2 ht k4).mono ?_
        rintro e w8 ⟨rfl, hw8⟩
        have p8 := p7.trans hw8
        go_wp2_with fail
        refine (add_S _ b t _ 7 inner 0 _ _ 0 p8.2 hn).mono ?_
        rintro e w9 ⟨rfl, hw9⟩
        go_wp2
        go_ret
        exact ⟨rfl, p8.trans hw9⟩

end Go.Proofs.Ytobfpgoepaeknaa
namespace Go.Proofs.Ytobfpgoepaeknaa
open Go.RowKit
attribute [local go_sem ↓] zvS
attribute [local go_sem] zcS_size zcS_ne

def OkS (t : ByteArray) (x : St) : Prop := x.s.k ≤ t.size ∧ x.fs.length ≤ x.ns.length ∧ x.ns.length + 4 * (t.size - x.s.k) ≤ 900

/-- The function F reads as 'tag' says, from every place from which at most m bytes are left. -/
def Does (F tag : Nat) (t : ByteArray) (m : Nat) : Prop :=
  ∀ (w : World) (b : Nat) (x : St), RdS w b t x → OkS t x → t.size - x.s.k ≤ m →
    Calls Try.prog F #[.pointer (some ⟨b, 0, none⟩)] w fun e w' => ∃ y i, e = .returned (.int .i64 i) ∧ Rds t tag 0 x (y, i) ∧ PostS w w' b t y

theorem complement_zero (w : World) : Calls Try.prog 105 #[.agg (setA fun _ => false)] w fun e w' => e = .returned (.agg (setA fun _ => true)) ∧ Below w.heap.size w w' :=
  (complement_any w (fun _ => false)).mono fun _ _ h => h

set_option maxHeartbeats 1000000 in
theorem atom_of_pattern (t : ByteArray) (ht : t.size ≤ 60) (m : Nat) (hp : ∀ m', m' < m → Does 36 0 t m') : Does 94 6 t m := by
  intro w b x h hok hm
  obtain ⟨hk, hfs, hns⟩ := hok
  have hn1 : x.ns.length ≤ 1000 := by omega
  have hn2 : x.fs.length ≤ 1000 := by omega
  by_cases c1 : (x.s.pk t == 40) = true
  · have hlt := (S1.pk_lt (t := t) (s := x.s) (by rw [beq_iff_eq] at c1; omega)).2
    have e1 := takeS_eq c1
    have HP := hide (hp (t.size - (x.s.k + 1)) (by omega))
    have k1 : (takeS t 40 x.s).k ≤ t.size := takeS_le (by omega) hk
    have HB := hide (fun (y : St) (i : Int) (h : Rds t 0 0 (x.at (takeS t 40 x.s)) (y, i)) => Rds.bracket (whole := 0) c1 h)
    have hok1 : OkS t (x.at (takeS t 40 x.s)) := by
      refine ⟨k1, hfs, ?_⟩
      rw [e1]; simp only [St.at]; omega
    have hm1 : t.size - (x.at (takeS t 40 x.s)).s.k ≤ t.size - (x.s.k + 1) := by rw [e1]; exact Nat.le_refl _
    clear hp hm hlt e1
    generalize hs1 : takeS t 40 x.s = s1 at *
    have HT1 := hide hs1
    clear hs1
    go_enter Try.func94, Try.ntmps94
    go_wp2_with fail
    refine (take_S _ b t x 40 h ht hk).mono ?_
    rw [unhide HT1]
    rintro e w1 ⟨rfl, hw1⟩
    go_wp2_with fail
    refine (unhide HP w1 b (x.at s1) hw1.2 hok1 hm1).mono ?_
    rintro e w2 ⟨y, i, rfl, hr, hw2⟩
    have hy : y.s.k ≤ t.size := (Rds.facts (by exact k1) hr).2.1
    have HR := hide hr
    clear hr
    go_wp2_with fail
    refine (expect_S _ b t y 41 hw2.2 ht hy).mono ?_
    rintro e w3 ⟨rfl, hw3⟩
    go_wp2
    go_ret
    exact ⟨_, _, rfl, unhide HB y i (unhide HR), (hw1.trans hw2).trans hw3⟩
  · have c1' : (x.s.pk t == 40) = false := by simpa using c1
    have t1 : x.at (takeS t 40 x.s) = x := by simp only [takeS, c1']; rfl
    have HT := hide t1
    have HL := hide (Rds.leaf (whole := 0) c1')
    clear t1 c1 hp hm
    by_cases c2 : (x.s.pk t == 91) = true
    · have hfin : readLeafS t x = (x.at (readSetS t (takeS t 91 x.s)).2).addSet (readSetS t (takeS t 91 x.s)).1 := by simp only [readLeafS, c2, if_true]
      have HF := hide hfin
      have k1 : (takeS t 91 x.s).k ≤ t.size := takeS_le (by omega) hk
      clear hfin
      go_enter Try.func94, Try.ntmps94
      go_wp2_with fail
      refine (take_S _ b t x 40 h ht hk).mono ?_
      rw [unhide HT]
      rintro e w1 ⟨rfl, hw1⟩
      go_wp2_with fail
      refine (take_S _ b t x 91 hw1.2 ht hk).mono ?_
      rintro e w2 ⟨rfl, hw2⟩
      have p2 := hw1.trans hw2
      clear hw1 hw2
      go_wp2_with fail
      refine (readSet_S _ b t _ p2.2 ht k1).mono ?_
      rintro e w3 ⟨rfl, hw3⟩
      have p3 := p2.trans hw3
      have HS := hide (rfl : readSetS t (x.at (takeS t 91 x.s)).s = readSetS t (takeS t 91 x.s))
      clear p2 hw3
      have HN3 := hide (heap_alloc_new w3 (Obj.cells zcS 85))
      generalize hN : w3.heap.size = N at *
      have p4 := p3.below ((Below.refl _ _).alloc (Nat.le_refl _) (Obj.cells zcS 85))
      have p5 : PostS w ((w3.alloc (Obj.cells zcS 85)).setRow N (setA (readSetS t (x.at (takeS t 91 x.s)).s).1)) b t _ := p3.below (below_setRow ((Below.refl _ _).alloc (Nat.le_refl _) _) (by omega) _)
      have HN5 := hide (setRow_heap _ _ _ (setA (readSetS t (x.at (takeS t 91 x.s)).s).1) _ _ (unhide HN3))
      go_wp2_with (first
        | refine wpList_store_row0 rfl 85 _ _ rfl rfl N _ rfl rfl 85 _ (unhide HN3) (by rw [size_setA]; kernel_rfl) (by rw [zero84, size_setA, size_setA]) (setA_one _) ?_
        | refine wpList_load_row rfl 85 _ rfl N rfl 85 _ (0, 0) _ (unhide HN5) Try.underlying85 rfl (by rw [size_setA]; kernel_rfl) ?_)
      refine (addSet_S _ b t _ _ p5.2 hn1 hn2).mono ?_
      rintro e w6 ⟨rfl, hw6⟩
      go_wp2
      go_ret
      refine ⟨_, _, rfl, unhide HL, ?_⟩
      rw [unhide HF]
      exact p5.trans hw6
    · have c2' : (x.s.pk t == 91) = false := by simpa using c2
      have t2 : x.at (takeS t 91 x.s) = x := by simp only [takeS, c2']; rfl
      have HT2 := hide t2
      clear c2 t2
      by_cases c3 : (x.s.pk t == 46) = true
      · have hfin : readLeafS t x = (x.at (takeS t 46 x.s)).addSet (fun _ => true) := by simp only [readLeafS, c2', c3, if_true]; rfl
        have HF := hide hfin
        clear hfin
        go_enter Try.func94, Try.ntmps94
        go_wp2_with fail
        refine (take_S _ b t x 40 h ht hk).mono ?_
        rw [unhide HT]
        rintro e w1 ⟨rfl, hw1⟩
        go_wp2_with fail
        refine (take_S _ b t x 91 hw1.2 ht hk).mono ?_
        rw [unhide HT2]
        rintro e w2 ⟨rfl, hw2⟩
        go_wp2_with fail
        refine (take_S _ b t x 46 hw2.2 ht hk).mono ?_
        rintro e w3 ⟨rfl, hw3⟩
        have p3 := (hw1.trans hw2).trans hw3
        clear hw1 hw2 hw3
        go_wp2_with fail
        rw [zero84]
        refine (complement_zero _).mono ?_
        rintro e w4 ⟨rfl, hw4⟩
        have p4 := p3.below hw4
        go_wp2_with fail
        refine (addSet_S _ b t _ (fun _ => true) p4.2 hn1 hn2).mono ?_
        rintro e w6 ⟨rfl, hw6⟩
        go_wp2
        go_ret
        refine ⟨_, _, rfl, unhide HL, ?_⟩
        rw [unhide HF]
        exact p4.trans hw6
      · have c3' : (x.s.pk t == 46) = false := by simpa using c3
        have t3 : x.at (takeS t 46 x.s) = x := by simp only [takeS, c3']; rfl
        have HT3 := hide t3
        have hfin : readLeafS t x = (x.at (readByteS t x.s).2).addSet (addR (fun _ => false) (readByteS t x.s).1 (readByteS t x.s).1) := by simp only [readLeafS, c2', c3']; rfl
        have HF := hide hfin
        clear hfin t3 c3
        go_enter Try.func94, Try.ntmps94
        go_wp2_with fail
        refine (take_S _ b t x 40 h ht hk).mono ?_
        rw [unhide HT]
        rintro e w1 ⟨rfl, hw1⟩
        go_wp2_with fail
        refine (take_S _ b t x 91 hw1.2 ht hk).mono ?_
        rw [unhide HT2]
        rintro e w2 ⟨rfl, hw2⟩
        go_wp2_with fail
        refine (take_S _ b t x 46 hw2.2 ht hk).mono ?_
        rw [unhide HT3]
        rintro e w3 ⟨rfl, hw3⟩
        have p3 := (hw1.trans hw2).trans hw3
        clear hw1 hw2 hw3
        go_wp2_with fail
        refine (readByte_S _ b t x p3.2 ht hk).mono ?_
        rintro e w4 ⟨rfl, hw4⟩
        have p4 := p3.trans hw4
        go_wp2_with fail
        rw [zero84]
        refine (addRange_any _ (fun _ => false) _ _).mono ?_
        rintro e w5 ⟨rfl, hw5⟩
        have p5 := p4.below hw5
        go_wp2_with fail
        refine (addSet_S _ b t _ _ p5.2 hn1 hn2).mono ?_
        rintro e w6 ⟨rfl, hw6⟩
        go_wp2
        go_ret
        refine ⟨_, _, rfl, unhide HL, ?_⟩
        rw [unhide HF]
        exact p5.trans hw6

end Go.Proofs.Ytobfpgoepaeknaa
