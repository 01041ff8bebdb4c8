/-
  The reader of patterns: suffixes; what its smaller methods do to a reader with nodes and sets.
  The reader of patterns: atoms, pieces, branches, patterns.
  The reader of patterns: pieces, branches, patterns; every pattern is read.
-/
import Derived.Test.YtfooclcjehpcfaaGreatC3
import Derived.Test.YtfooclcjehpcfaaGreatMM
namespace Go.Proofs.YtfooclcjehpcfaaGreat
open Go.RowKit

/-- Block b of w is a reader in the state x. -/
def RdS (w : World) (b : Nat) (t : ByteArray) (x : St) : Prop := Rd2 w b t x.s x.ns x.fs
def PostS (w w' : World) (b : Nat) (t : ByteArray) (x : St) : Prop := Below b w w' ∧ RdS w' b t x

section
variable {w w' w1 : World} {b : Nat} {t : ByteArray} {x y : St} {s : S1}
theorem PostS.refl (h : RdS w b t x) : PostS w w b t x := ⟨Below.refl _ _, h⟩
theorem PostS.trans (h : PostS w w1 b t x) (k : PostS w1 w' b t y) : PostS w w' b t y := ⟨h.1.trans k.1, k.2⟩
theorem PostS.drewN (h : PostS w w1 b t x) (n : Nat) : PostS w (w1.drewN n) b t x := ⟨below_drewN h.1 n, h.2⟩
theorem PostS.below (h : PostS w w1 b t x) (hb : Below w1.heap.size w1 w') : PostS w w' b t x := by
  obtain ⟨nv, sv, h1, h2, h3⟩ := h.2
  have hg := grownBy_of_below hb none
  refine ⟨h.1.trans (hb.mono (Nat.le_of_lt h1.lt)), nv, sv, h1.kept hg (by simp), h2.kept hg (by cases nv.ownBlock <;> simp), h3.kept hg (by cases sv.ownBlock <;> simp)⟩

theorem lift1 {nv sv : Value} (h1 : Rd1 w b t x.s nv sv) (h2 : w.ownsRow (b + 1) 121 6 nv x.ns.length (nodeCells x.ns)) (h3 : w.ownsRow (b + 1) 90 256 sv x.fs.length (setsCells x.fs))
    (hp : Post1 w w' b t s nv sv) : PostS w w' b t (x.at s) :=
  ⟨below_grown hp.1 (Nat.le_of_lt h1.lt) (fun k hk => by simp at hk; omega), nv, sv, hp.2, h2.kept hp.1 (Or.inr (own_ne h2).symm), h3.kept hp.1 (Or.inr (own_ne h3).symm)⟩
end

theorem take_S (w : World) (b : Nat) (t : ByteArray) (x : St) (c : Int) (h : RdS w b t x) (ht : t.size ≤ 60) (hk : x.s.k ≤ t.size) :
    Calls Tryz.prog 53 #[.pointer (some ⟨b, 0, none⟩), .int .i64 c] w fun e w' =>
      e = .returned (.bool (x.s.pk t == c)) ∧ PostS w w' b t (x.at (takeS t c x.s)) := by
  obtain ⟨nv, sv, h1, h2, h3⟩ := h
  refine (take_any w b t x.s nv sv c h1 ht hk).mono ?_
  rintro e w' ⟨rfl, hp⟩
  exact ⟨rfl, lift1 h1 h2 h3 hp⟩
theorem expect_S (w : World) (b : Nat) (t : ByteArray) (x : St) (c : Int) (h : RdS w b t x) (ht : t.size ≤ 60) (hk : x.s.k ≤ t.size) :
    Calls Tryz.prog 93 #[.pointer (some ⟨b, 0, none⟩), .int .i64 c] w fun e w' =>
      e = .returned (.tuple #[]) ∧ PostS w w' b t (x.at (expectS t c x.s)) := by
  obtain ⟨nv, sv, h1, h2, h3⟩ := h
  refine (expect_any w b t x.s nv sv c h1 ht hk).mono ?_
  rintro e w' ⟨rfl, hp⟩
  exact ⟨rfl, lift1 h1 h2 h3 hp⟩
theorem readDigit_S (w : World) (b : Nat) (t : ByteArray) (x : St) (c : Int) (h : RdS w b t x) (ht : t.size ≤ 60) (hk : x.s.k ≤ t.size) :
    Calls Tryz.prog 99 #[.pointer (some ⟨b, 0, none⟩), .int .i64 c] w fun e w' =>
      e = .returned (.int .i64 (readDigitS t c x.s).1) ∧ PostS w w' b t (x.at (readDigitS t c x.s).2) := by
  obtain ⟨nv, sv, h1, h2, h3⟩ := h
  refine (readDigit_any w b t x.s nv sv c h1 ht hk).mono ?_
  rintro e w' ⟨rfl, hp⟩
  exact ⟨rfl, lift1 h1 h2 h3 hp⟩
theorem readByte_S (w : World) (b : Nat) (t : ByteArray) (x : St) (h : RdS w b t x) (ht : t.size ≤ 60) (hk : x.s.k ≤ t.size) :
    Calls Tryz.prog 97 #[.pointer (some ⟨b, 0, none⟩)] w fun e w' =>
      e = .returned (.int .i64 (readByteS t x.s).1) ∧ PostS w w' b t (x.at (readByteS t x.s).2) := by
  obtain ⟨nv, sv, h1, h2, h3⟩ := h
  refine (readByte_any w b t x.s nv sv h1 ht hk).mono ?_
  rintro e w' ⟨rfl, hp⟩
  exact ⟨rfl, lift1 h1 h2 h3 hp⟩
theorem readSet_S (w : World) (b : Nat) (t : ByteArray) (x : St) (h : RdS w b t x) (ht : t.size ≤ 60) (hk : x.s.k ≤ t.size) :
    Calls Tryz.prog 94 #[.pointer (some ⟨b, 0, none⟩)] w fun e w' =>
      e = .returned (.agg (setA (readSetS t x.s).1)) ∧ PostS w w' b t (x.at (readSetS t x.s).2) := by
  obtain ⟨nv, sv, h1, h2, h3⟩ := h
  refine (readSet_any w b t x.s nv sv h1 ht hk).mono ?_
  rintro e w' ⟨rfl, hp⟩
  exact ⟨rfl, lift1 h1 h2 h3 hp⟩
theorem atAtom_S (w : World) (b : Nat) (t : ByteArray) (x : St) (h : RdS w b t x) (ht : t.size ≤ 60) (hk : x.s.k ≤ t.size) :
    Calls Tryz.prog 78 #[.pointer (some ⟨b, 0, none⟩)] w fun e w' =>
      e = .returned (.bool (atAtomB (x.s.pk t))) ∧ PostS w w' b t x := by
  obtain ⟨nv, sv, h1, h2, h3⟩ := h
  refine (atAtom_any w b t x.s nv sv h1 ht hk).mono ?_
  rintro e w' ⟨rfl, n, rfl⟩
  exact ⟨rfl, (PostS.refl ⟨nv, sv, h1, h2, h3⟩).drewN n⟩
theorem atSuffix_S (w : World) (b : Nat) (t : ByteArray) (x : St) (h : RdS w b t x) (ht : t.size ≤ 60) (hk : x.s.k ≤ t.size) :
    Calls Tryz.prog 89 #[.pointer (some ⟨b, 0, none⟩)] w fun e w' =>
      e = .returned (.bool (atSuffixB (x.s.pk t))) ∧ PostS w w' b t x := by
  obtain ⟨nv, sv, h1, h2, h3⟩ := h
  refine (atSuffix_any w b t x.s nv sv h1 ht hk).mono ?_
  rintro e w' ⟨rfl, n, rfl⟩
  exact ⟨rfl, (PostS.refl ⟨nv, sv, h1, h2, h3⟩).drewN n⟩
theorem add_S (w : World) (b : Nat) (t : ByteArray) (x : St) (k l r lo hi st : Int) (h : RdS w b t x) (hn : x.ns.length ≤ 1000) :
    Calls Tryz.prog 54 #[.pointer (some ⟨b, 0, none⟩), .agg #[.int .i64 k, .int .i64 l, .int .i64 r, .int .i64 lo, .int .i64 hi, .int .i64 st]] w fun e w' =>
      e = .returned (.int .i64 x.num) ∧ PostS w w' b t (x.add ⟨k, l, r, lo, hi, st⟩) := by
  refine (add_any w b t x.s x.ns x.fs ⟨k, l, r, lo, hi, st⟩ h hn).mono ?_
  rintro e w' ⟨rfl, hp⟩
  exact ⟨rfl, hp⟩
theorem addSet_S (w : World) (b : Nat) (t : ByteArray) (x : St) (f : Nat → Bool) (h : RdS w b t x) (hn : x.ns.length ≤ 1000) (hn' : x.fs.length ≤ 1000) :
    Calls Tryz.prog 95 #[.pointer (some ⟨b, 0, none⟩), .agg (setA f)] w fun e w' =>
      e = .returned (.int .i64 x.num) ∧ PostS w w' b t (x.addSet f) := by
  refine (addSet_any w b t x.s x.ns x.fs f h hn hn').mono ?_
  rintro e w' ⟨rfl, hp⟩
  exact ⟨rfl, hp⟩

set_option maxHeartbeats 400000 in
theorem readSuffix_any (w : World) (b : Nat) (t : ByteArray) (x : St) (inner : Int) (h : RdS w b t x) (ht : t.size ≤ 60) (hk : x.s.k ≤ t.size) (hn : x.ns.length ≤ 1000) :
    Calls Tryz.prog 90 #[.pointer (some ⟨b, 0, none⟩), .int .i64 inner] w fun e w' =>
      e = .returned (.int .i64 x.num) ∧ PostS w w' b t (readSuffixS t inner x) := by
  by_cases c1 : (x.s.pk t == 42) = true
  · have e1 : readSuffixS t inner x = (x.at (takeS t 42 x.s)).add ⟨4, inner, 0, 0, 0, 0⟩ := by simp only [readSuffixS, c1, if_true]
    rw [e1]
    clear e1
    go_enter Tryz.func90, Tryz.ntmps90
    go_wp2_with fail
    refine (take_S _ b t x 42 h ht hk).mono ?_
    rintro e w1 ⟨rfl, hw1⟩
    go_wp2_with fail
    refine (add_S _ b t _ 4 inner 0 0 0 0 hw1.2 hn).mono ?_
    rintro e w2 ⟨rfl, hw2⟩
    go_wp2
    go_ret
    exact ⟨rfl, hw1.trans hw2⟩
  · have c1' : (x.s.pk t == 42) = false := by simpa using c1
    have t1 : x.at (takeS t 42 x.s) = x := by simp only [takeS, c1']; rfl
    by_cases c2 : (x.s.pk t == 43) = true
    · have e1 : readSuffixS t inner x = (x.at (takeS t 43 x.s)).add ⟨5, inner, 0, 0, 0, 0⟩ := by simp only [readSuffixS, c1', c2, if_true]; rfl
      rw [e1]
      have HT := hide t1
      clear e1 t1 c1
      go_enter Tryz.func90, Tryz.ntmps90
      go_wp2_with fail
      refine (take_S _ b t x 42 h ht hk).mono ?_
      rw [unhide HT]
      rintro e w1 ⟨rfl, hw1⟩
      go_wp2_with fail
      refine (take_S _ b t x 43 hw1.2 ht hk).mono ?_
      rintro e w2 ⟨rfl, hw2⟩
      go_wp2_with fail
      refine (add_S _ b t _ 5 inner 0 0 0 0 hw2.2 hn).mono ?_
      rintro e w3 ⟨rfl, hw3⟩
      go_wp2
      go_ret
      exact ⟨rfl, (hw1.trans hw2).trans hw3⟩
    · have c2' : (x.s.pk t == 43) = false := by simpa using c2
      have t2 : x.at (takeS t 43 x.s) = x := by simp only [takeS, c2']; rfl
      by_cases c3 : (x.s.pk t == 63) = true
      · have e1 : readSuffixS t inner x = (x.at (takeS t 63 x.s)).add ⟨6, inner, 0, 0, 0, 0⟩ := by simp only [readSuffixS, c1', c2', c3, if_true]; rfl
        rw [e1]
        have HT := hide t1
        have HT2 := hide t2
        clear e1 t1 c1 t2 c2
        go_enter Tryz.func90, Tryz.ntmps90
        go_wp2_with fail
        refine (take_S _ b t x 42 h ht hk).mono ?_
        rw [unhide HT]
        rintro e w1 ⟨rfl, hw1⟩
        go_wp2_with fail
        refine (take_S _ b t x 43 hw1.2 ht hk).mono ?_
        rw [unhide HT2]
        rintro e w2 ⟨rfl, hw2⟩
        go_wp2_with fail
        refine (take_S _ b t x 63 hw2.2 ht hk).mono ?_
        rintro e w3 ⟨rfl, hw3⟩
        go_wp2_with fail
        refine (add_S _ b t _ 6 inner 0 0 0 0 hw3.2 hn).mono ?_
        rintro e w4 ⟨rfl, hw4⟩
        go_wp2
        go_ret
        exact ⟨rfl, ((hw1.trans hw2).trans hw3).trans hw4⟩
      · have c3' : (x.s.pk t == 63) = false := by simpa using c3
        have t3 : x.at (takeS t 63 x.s) = x := by simp only [takeS, c3']; rfl
        have k1 := expectS_le (t := t) (c := 123) (s := x.s) (by omega) hk
        have k2 := readDigitS_le (t := t) (c := 10) (s := expectS t 123 x.s) k1
        have k3 := expectS_le (t := t) (c := 44) (s := (readDigitS t 10 (expectS t 123 x.s)).2) (by omega) k2
        have k4 := readDigitS_le (t := t) (c := 10) (s := expectS t 44 (readDigitS t 10 (expectS t 123 x.s)).2) k3
        have hfin : readSuffixS t inner x = (x.at (expectS t 125 (readDigitS t 10 (expectS t 44 (readDigitS t 10 (expectS t 123 x.s)).2)).2)).add ⟨7, inner, 0, (readDigitS t 10 (expectS t 123 x.s)).1, (readDigitS t 10 (expectS t 44 (readDigitS t 10 (expectS t 123 x.s)).2)).1, 0⟩ := by
          simp only [readSuffixS, c1', c2', c3']; rfl
        rw [hfin]
        have HT := hide t1
        have HT2 := hide t2
        have HT3 := hide t3
        clear t1 t2 t3 c1 c2 c3 hfin
        go_enter Tryz.func90, Tryz.ntmps90
        go_wp2_with fail
        refine (take_S _ b t x 42 h ht hk).mono ?_
        rw [unhide HT]
        rintro e w1 ⟨rfl, hw1⟩
        go_wp2_with fail
        refine (take_S _ b t x 43 hw1.2 ht hk).mono ?_
        rw [unhide HT2]
        rintro e w2 ⟨rfl, hw2⟩
        go_wp2_with fail
        refine (take_S _ b t x 63 hw2.2 ht hk).mono ?_
        rw [unhide HT3]
        rintro e w3 ⟨rfl, hw3⟩
        have p3 := (hw1.trans hw2).trans hw3
        clear hw1 hw2 hw3
        go_wp2_with fail
        refine (expect_S _ b t x 123 p3.2 ht hk).mono ?_
        rintro e w4 ⟨rfl, hw4⟩
        have p4 := p3.trans hw4
        go_wp2_with fail
        refine (readDigit_S _ b t _ 10 p4.2 ht k1).mono ?_
        rintro e w5 ⟨rfl, hw5⟩
        have p5 := p4.trans hw5
        go_wp2_with fail
        refine (expect_S _ b t _ 44 p5.2 ht k2).mono ?_
        rintro e w6 ⟨rfl, hw6⟩
        have p6 := p5.trans hw6
        go_wp2_with fail
        refine (readDigit_S _ b t _ 10 p6.2 ht k3).mono ?_
        rintro e w7 ⟨rfl, hw7⟩
        have p7 := p6.trans hw7
        go_wp2_with fail
        refine (expect_S _ b t _ 125 p7.2 ht k4).mono ?_
        rintro e w8 ⟨rfl, hw8⟩
        have p8 := p7.trans hw8
        go_wp2_with fail
        refine (add_S _ b t _ 7 inner 0 _ _ 0 p8.2 hn).mono ?_
        rintro e w9 ⟨rfl, hw9⟩
        go_wp2
        go_ret
        exact ⟨rfl, p8.trans hw9⟩

end Go.Proofs.YtfooclcjehpcfaaGreat
namespace Go.Proofs.YtfooclcjehpcfaaGreat
open Go.RowKit
attribute [local go_sem ↓] zvS
attribute [local go_sem] zcS_size zcS_ne

def OkS (t : ByteArray) (x : St) : Prop := x.s.k ≤ t.size ∧ x.fs.length ≤ x.ns.length ∧ x.ns.length + 4 * (t.size - x.s.k) ≤ 900

/-- The function F reads as 'tag' says, from every place from which at most m bytes are left. -/
def Does (F tag : Nat) (t : ByteArray) (m : Nat) : Prop :=
  ∀ (w : World) (b : Nat) (x : St), RdS w b t x → OkS t x → t.size - x.s.k ≤ m →
    Calls Tryz.prog F #[.pointer (some ⟨b, 0, none⟩)] w fun e w' => ∃ y i, e = .returned (.int .i64 i) ∧ Rds t tag 0 x (y, i) ∧ PostS w w' b t y

theorem complement_zero (w : World) : Calls Tryz.prog 96 #[.agg (setA fun _ => false)] w fun e w' => e = .returned (.agg (setA fun _ => true)) ∧ Below w.heap.size w w' :=
  (complement_any w (fun _ => false)).mono fun _ _ h => h

set_option maxHeartbeats 1000000 in
theorem atom_of_pattern (t : ByteArray) (ht : t.size ≤ 60) (m : Nat) (hp : ∀ m', m' < m → Does 26 0 t m') : Does 88 6 t m := by
  intro w b x h hok hm
  obtain ⟨hk, hfs, hns⟩ := hok
  have hn1 : x.ns.length ≤ 1000 := by omega
  have hn2 : x.fs.length ≤ 1000 := by omega
  by_cases c1 : (x.s.pk t == 40) = true
  · have hlt := (S1.pk_lt (t := t) (s := x.s) (by rw [beq_iff_eq] at c1; omega)).2
    have e1 := takeS_eq c1
    have HP := hide (hp (t.size - (x.s.k + 1)) (by omega))
    have k1 : (takeS t 40 x.s).k ≤ t.size := takeS_le (by omega) hk
    have HB := hide (fun (y : St) (i : Int) (h : Rds t 0 0 (x.at (takeS t 40 x.s)) (y, i)) => Rds.bracket (whole := 0) c1 h)
    have hok1 : OkS t (x.at (takeS t 40 x.s)) := by
      refine ⟨k1, hfs, ?_⟩
      rw [e1]; simp only [St.at]; omega
    have hm1 : t.size - (x.at (takeS t 40 x.s)).s.k ≤ t.size - (x.s.k + 1) := by rw [e1]; exact Nat.le_refl _
    clear hp hm hlt e1
    generalize hs1 : takeS t 40 x.s = s1 at *
    have HT1 := hide hs1
    clear hs1
    go_enter Tryz.func88, Tryz.ntmps88
    go_wp2_with fail
    refine (take_S _ b t x 40 h ht hk).mono ?_
    rw [unhide HT1]
    rintro e w1 ⟨rfl, hw1⟩
    go_wp2_with fail
    refine (unhide HP w1 b (x.at s1) hw1.2 hok1 hm1).mono ?_
    rintro e w2 ⟨y, i, rfl, hr, hw2⟩
    have hy : y.s.k ≤ t.size := (Rds.facts (by exact k1) hr).2.1
    have HR := hide hr
    clear hr
    go_wp2_with fail
    refine (expect_S _ b t y 41 hw2.2 ht hy).mono ?_
    rintro e w3 ⟨rfl, hw3⟩
    go_wp2
    go_ret
    exact ⟨_, _, rfl, unhide HB y i (unhide HR), (hw1.trans hw2).trans hw3⟩
  · have c1' : (x.s.pk t == 40) = false := by simpa using c1
    have t1 : x.at (takeS t 40 x.s) = x := by simp only [takeS, c1']; rfl
    have HT := hide t1
    have HL := hide (Rds.leaf (whole := 0) c1')
    clear t1 c1 hp hm
    by_cases c2 : (x.s.pk t == 91) = true
    · have hfin : readLeafS t x = (x.at (readSetS t (takeS t 91 x.s)).2).addSet (readSetS t (takeS t 91 x.s)).1 := by simp only [readLeafS, c2, if_true]
      have HF := hide hfin
      have k1 : (takeS t 91 x.s).k ≤ t.size := takeS_le (by omega) hk
      clear hfin
      go_enter Tryz.func88, Tryz.ntmps88
      go_wp2_with fail
      refine (take_S _ b t x 40 h ht hk).mono ?_
      rw [unhide HT]
      rintro e w1 ⟨rfl, hw1⟩
      go_wp2_with fail
      refine (take_S _ b t x 91 hw1.2 ht hk).mono ?_
      rintro e w2 ⟨rfl, hw2⟩
      have p2 := hw1.trans hw2
      clear hw1 hw2
      go_wp2_with fail
      refine (readSet_S _ b t _ p2.2 ht k1).mono ?_
      rintro e w3 ⟨rfl, hw3⟩
      have p3 := p2.trans hw3
      have HS := hide (rfl : readSetS t (x.at (takeS t 91 x.s)).s = readSetS t (takeS t 91 x.s))
      clear p2 hw3
      have HN3 := hide (heap_alloc_new w3 (Obj.cells zcS 90))
      generalize hN : w3.heap.size = N at *
      have p4 := p3.below ((Below.refl _ _).alloc (Nat.le_refl _) (Obj.cells zcS 90))
      have p5 : PostS w ((w3.alloc (Obj.cells zcS 90)).setRow N (setA (readSetS t (x.at (takeS t 91 x.s)).s).1)) b t _ := p3.below (below_setRow ((Below.refl _ _).alloc (Nat.le_refl _) _) (by omega) _)
      have HN5 := hide (setRow_heap _ _ _ (setA (readSetS t (x.at (takeS t 91 x.s)).s).1) _ _ (unhide HN3))
      go_wp2_with (first
        | refine wpList_store_row0 rfl 90 _ _ rfl rfl N _ rfl rfl 90 _ (unhide HN3) (by rw [size_setA]; kernel_rfl) (by rw [zero84, size_setA, size_setA]) (setA_one _) ?_
        | refine wpList_load_row rfl 90 _ rfl N rfl 90 _ (0, 0) _ (unhide HN5) Tryz.underlying90 rfl (by rw [size_setA]; kernel_rfl) ?_)
      refine (addSet_S _ b t _ _ p5.2 hn1 hn2).mono ?_
      rintro e w6 ⟨rfl, hw6⟩
      go_wp2
      go_ret
      refine ⟨_, _, rfl, unhide HL, ?_⟩
      rw [unhide HF]
      exact p5.trans hw6
    · have c2' : (x.s.pk t == 91) = false := by simpa using c2
      have t2 : x.at (takeS t 91 x.s) = x := by simp only [takeS, c2']; rfl
      have HT2 := hide t2
      clear c2 t2
      by_cases c3 : (x.s.pk t == 46) = true
      · have hfin : readLeafS t x = (x.at (takeS t 46 x.s)).addSet (fun _ => true) := by simp only [readLeafS, c2', c3, if_true]; rfl
        have HF := hide hfin
        clear hfin
        go_enter Tryz.func88, Tryz.ntmps88
        go_wp2_with fail
        refine (take_S _ b t x 40 h ht hk).mono ?_
        rw [unhide HT]
        rintro e w1 ⟨rfl, hw1⟩
        go_wp2_with fail
        refine (take_S _ b t x 91 hw1.2 ht hk).mono ?_
        rw [unhide HT2]
        rintro e w2 ⟨rfl, hw2⟩
        go_wp2_with fail
        refine (take_S _ b t x 46 hw2.2 ht hk).mono ?_
        rintro e w3 ⟨rfl, hw3⟩
        have p3 := (hw1.trans hw2).trans hw3
        clear hw1 hw2 hw3
        go_wp2_with fail
        rw [zero84]
        refine (complement_zero _).mono ?_
        rintro e w4 ⟨rfl, hw4⟩
        have p4 := p3.below hw4
        go_wp2_with fail
        refine (addSet_S _ b t _ (fun _ => true) p4.2 hn1 hn2).mono ?_
        rintro e w6 ⟨rfl, hw6⟩
        go_wp2
        go_ret
        refine ⟨_, _, rfl, unhide HL, ?_⟩
        rw [unhide HF]
        exact p4.trans hw6
      · have c3' : (x.s.pk t == 46) = false := by simpa using c3
        have t3 : x.at (takeS t 46 x.s) = x := by simp only [takeS, c3']; rfl
        have HT3 := hide t3
        have hfin : readLeafS t x = (x.at (readByteS t x.s).2).addSet (addR (fun _ => false) (readByteS t x.s).1 (readByteS t x.s).1) := by simp only [readLeafS, c2', c3']; rfl
        have HF := hide hfin
        clear hfin t3 c3
        go_enter Tryz.func88, Tryz.ntmps88
        go_wp2_with fail
        refine (take_S _ b t x 40 h ht hk).mono ?_
        rw [unhide HT]
        rintro e w1 ⟨rfl, hw1⟩
        go_wp2_with fail
        refine (take_S _ b t x 91 hw1.2 ht hk).mono ?_
        rw [unhide HT2]
        rintro e w2 ⟨rfl, hw2⟩
        go_wp2_with fail
        refine (take_S _ b t x 46 hw2.2 ht hk).mono ?_
        rw [unhide HT3]
        rintro e w3 ⟨rfl, hw3⟩
        have p3 := (hw1.trans hw2).trans hw3
        clear hw1 hw2 hw3
        go_wp2_with fail
        refine (readByte_S _ b t x p3.2 ht hk).mono ?_
        rintro e w4 ⟨rfl, hw4⟩
        have p4 := p3.trans hw4
        go_wp2_with fail
        rw [zero84]
        refine (addRange_any _ (fun _ => false) _ _).mono ?_
        rintro e w5 ⟨rfl, hw5⟩
        have p5 := p4.below hw5
        go_wp2_with fail
        refine (addSet_S _ b t _ _ p5.2 hn1 hn2).mono ?_
        rintro e w6 ⟨rfl, hw6⟩
        go_wp2
        go_ret
        refine ⟨_, _, rfl, unhide HL, ?_⟩
        rw [unhide HF]
        exact p5.trans hw6

end Go.Proofs.YtfooclcjehpcfaaGreat
namespace Go.Proofs.YtfooclcjehpcfaaGreat
open Go.RowKit

/-- What the state of a reader keeps to at the head of a loop. -/
def LoopOk (c : Nat) (t : ByteArray) (x : St) : Prop :=
  x.s.k ≤ t.size ∧ x.fs.length ≤ x.ns.length ∧ x.ns.length ≤ 960 ∧ (x.s.bad = false → x.ns.length + 4 * (t.size - x.s.k) ≤ c)

theorem not_bad_of_atom {t : ByteArray} {s : S1} (h : atAtomB (s.pk t) = true) : s.bad = false := by
  cases hb : s.bad
  · rfl
  · rw [pk_bad hb] at h; simp [atAtomB, isPlainB] at h
theorem not_bad_of_suffix {t : ByteArray} {s : S1} (h : atSuffixB (s.pk t) = true) : s.bad = false := by
  cases hb : s.bad
  · rfl
  · rw [pk_bad hb] at h; simp [atSuffixB] at h

set_option maxHeartbeats 400000 in
theorem piece_of_atom (t : ByteArray) (ht : t.size ≤ 60) (m : Nat) (ha : Does 88 6 t m) : Does 79 4 t m := by
  intro w b x h hok hm
  have HA := hide (ha w b x h hok hm)
  obtain ⟨hk, hfs, hns⟩ := hok
  clear ha
  go_enter Tryz.func79, Tryz.ntmps79
  go_wp2_with fail
  refine (unhide HA).mono ?_
  rintro e w1 ⟨y, i, rfl, hr, hw1⟩
  obtain ⟨g1, l1⟩ : Grows t 1 x y ∧ Slim x y := Rds.facts hk hr
  have hy : LoopOk 900 t y := by
    refine ⟨g1.2.1, g1.2.2.1 hfs, ?_, fun hb => ?_⟩
    · have := g1.2.2.2; have := g1.2.1; omega
    · have := (l1 hb).2; have := g1.2.1; omega
  have HR := hide hr
  have HY := hide hy
  have hlft : left t y.s ≤ t.size + 1 := by unfold left; split <;> omega
  have HLF := hide hlft
  clear hr hy g1 l1 hlft HA
  go_wp2_with fail
  go_loopg [3] (t.size + 1) (fun n p wr => ∃ (j : Int) (z : St), p = .int .i64 j ∧ Hid (left t z.s ≤ n ∧ LoopOk 900 t z ∧ PostS w wr b t z ∧ ∀ r, Rds t 5 j z r → Rds t 4 0 x r))
  case atStart => exact ⟨i, y, rfl, unhide HLF, unhide HY, hw1, fun r hr => Rds.piece (unhide HR) hr⟩
  case round =>
    obtain ⟨j, z, rfl, H⟩ := hrel
    obtain ⟨hl, hz, pz, hcont⟩ := unhide H
    have HL := hide hl
    have HZ := hide hz
    have HC := hide hcont
    have hkz := hz.1
    have hnz : z.ns.length ≤ 1000 := by have := hz.2.2.1; omega
    clear hl hz hcont H
    by_cases hc : atSuffixB (z.s.pk t) = true
    · go_wp2_with fail
      refine (atSuffix_S _ b t z pz.2 ht hkz).mono ?_
      rintro e w2 ⟨rfl, hw2⟩
      go_wp2_with fail
      refine (readSuffix_any _ b t z j hw2.2 ht hkz hnz).mono ?_
      rintro e w3 ⟨rfl, hw3⟩
      obtain ⟨a1, a2, a3, a4, a5⟩ := readSuffixS_facts (whole := j) hkz hc
      have hbz := not_bad_of_suffix hc
      have hlt := left_goes (t := t) hbz a2 (Or.inr a3)
      have hn3 : LoopOk 900 t (readSuffixS t j z) := by
        obtain ⟨z1, z2, z3, z4⟩ := unhide HZ
        have z5 := z4 hbz
        refine ⟨a2, by rw [a4, a5]; omega, by rw [a4]; omega, fun _ => by rw [a4]; omega⟩
      have H3 := hide hn3
      have HLT := hide hlt
      have HK := hide (fun r hr => unhide HC r (Rds.suffix hc hr))
      clear a1 a2 a3 a4 a5 hn3 hlt
      go_wp2
      go_roundg (gk - 1)
      case measure => have := unhide HL; have := unhide HLT; omega
      case rel => exact ⟨_, _, rfl, by have := unhide HL; have := unhide HLT; omega, unhide H3, (pz.trans hw2).trans hw3, unhide HK⟩
    · have hc' : atSuffixB (z.s.pk t) = false := by simpa using hc
      clear hc
      go_wp2_with fail
      refine (atSuffix_S _ b t z pz.2 ht hkz).mono ?_
      rintro e w2 ⟨rfl, hw2⟩
      have HE := hide (unhide HC _ (Rds.suffixEnd hc'))
      go_wp2
      go_ret
      exact ⟨_, _, rfl, unhide HE, pz.trans hw2⟩

set_option maxHeartbeats 400000 in
theorem branch_of_piece (t : ByteArray) (ht : t.size ≤ 60) (m : Nat) (ha : Does 79 4 t m) : Does 52 2 t m := by
  intro w b x h hok hm
  have HA := hide (fun w1 h1 => ha w1 b x h1 hok hm)
  obtain ⟨hk, hfs, hns⟩ := hok
  have HA2 := hide ha
  have hn0 : x.ns.length ≤ 1000 := by omega
  clear ha
  by_cases hc : atAtomB (x.s.pk t) = true
  · go_enter Tryz.func52, Tryz.ntmps52
    go_wp2_with fail
    refine (atAtom_S _ b t x h ht hk).mono ?_
    rintro e w0 ⟨rfl, hw0⟩
    go_wp2_with fail
    refine (unhide HA w0 hw0.2).mono ?_
    rintro e w1 ⟨y, i, rfl, hr, hw1⟩
    have p1 := hw0.trans hw1
    obtain ⟨g1, l1⟩ : Grows t 1 x y ∧ Slim x y := Rds.facts hk hr
    have hy : LoopOk 900 t y := by
      refine ⟨g1.2.1, g1.2.2.1 hfs, ?_, fun hb => ?_⟩
      · have := g1.2.2.2; have := g1.2.1; omega
      · have := (l1 hb).2; have := g1.2.1; omega
    have hxy : x.s.k ≤ y.s.k := g1.1.1
    have HR := hide (fun r hr' => Rds.branch (whole := 0) hc hr (r := r) hr')
    have HY := hide hy
    have hlft : left t y.s ≤ t.size + 1 := by unfold left; split <;> omega
    have HLF := hide hlft
    clear hr hy g1 l1 hlft HA hw0 hw1 hc
    go_wp2_with fail
    go_loopg [3] (t.size + 1) (fun n p wr => ∃ (j : Int) (z : St), p = .int .i64 j ∧ Hid (left t z.s ≤ n ∧ LoopOk 900 t z ∧ x.s.k ≤ z.s.k ∧ PostS w wr b t z ∧ ∀ r, Rds t 3 j z r → Rds t 2 0 x r))
    case atStart => exact ⟨i, y, rfl, unhide HLF, unhide HY, hxy, p1, unhide HR⟩
    case round =>
      obtain ⟨j, z, rfl, H⟩ := hrel
      obtain ⟨hl, hz, hxz, pz, hcont⟩ := unhide H
      have HL := hide hl
      have HZ := hide hz
      have HC := hide hcont
      have hkz := hz.1
      clear hl hz hcont H p1 HLF HY HR
      by_cases hc : atAtomB (z.s.pk t) = true
      · have hbz := not_bad_of_atom hc
        obtain ⟨z1, z2, z3, z4⟩ := unhide HZ
        have z5 := z4 hbz
        have hlz : z.s.k < t.size := by
          apply (S1.pk_lt (t := t) (s := z.s) ?_).2
          have := hc
          simp only [atAtomB, Bool.or_eq_true, beq_iff_eq] at this
          rcases this with (((g | g) | g) | g) | g
          · omega
          · omega
          · omega
          · omega
          · exact isPlainB_pos g
        have HOK := hide (show OkS t z from ⟨hkz, z2, z5⟩)
        have hm' : t.size - z.s.k ≤ m := by omega
        clear z4
        go_wp2_with fail
        refine (atAtom_S _ b t z pz.2 ht hkz).mono ?_
        rintro e w2 ⟨rfl, hw2⟩
        go_wp2_with fail
        refine (unhide HA2 w2 b z hw2.2 (unhide HOK) hm').mono ?_
        rintro e w3 ⟨y2, i2, rfl, hr2, hw3⟩
        obtain ⟨g1, l1⟩ : Grows t 1 z y2 ∧ Slim z y2 := Rds.facts hkz hr2
        have hgo : y2.s.bad = true ∨ z.s.k < y2.s.k := by
          cases hb : y2.s.bad
          · exact Or.inr (l1 hb).1
          · exact Or.inl rfl
        have HLT := hide (left_goes (t := t) hbz g1.2.1 hgo)
        have hn2 : y2.ns.length ≤ 1000 := by have := g1.2.2.2; have := g1.2.1; omega
        have H3 : Hid (LoopOk 900 t (y2.add ⟨2, j, i2, 0, 0, 0⟩)) := by
          refine ⟨g1.2.1, ?_, ?_, fun hb => ?_⟩
          · have := g1.2.2.1 z2; simp only [St.add, List.length_append, List.length_cons, List.length_nil]; omega
          · have := g1.2.2.2; have := g1.2.1; simp only [St.add, List.length_append, List.length_cons, List.length_nil]; omega
          · have := (l1 hb).2; have := g1.2.1; simp only [St.add, List.length_append, List.length_cons, List.length_nil]; omega
        have hxy2 : x.s.k ≤ y2.s.k := by have := g1.1.1; omega
        have HK := hide (fun r hr => unhide HC r (Rds.join hc hr2 hr))
        clear g1 l1 hgo hr2
        go_wp2_with fail
        refine (add_S _ b t y2 2 j i2 0 0 0 hw3.2 hn2).mono ?_
        rintro e w4 ⟨rfl, hw4⟩
        go_wp2
        go_roundg (gk - 1)
        case measure => have := unhide HL; have := unhide HLT; omega
        case rel => exact ⟨_, _, rfl, by have := unhide HL; have := unhide HLT; show left t y2.s ≤ gk - 1; omega, unhide H3, hxy2, ((pz.trans hw2).trans hw3).trans hw4, unhide HK⟩
      · have hc' : atAtomB (z.s.pk t) = false := by simpa using hc
        clear hc
        go_wp2_with fail
        refine (atAtom_S _ b t z pz.2 ht hkz).mono ?_
        rintro e w2 ⟨rfl, hw2⟩
        have HE := hide (unhide HC _ (Rds.joinEnd hc'))
        go_wp2
        go_ret
        exact ⟨_, _, rfl, unhide HE, pz.trans hw2⟩
  · have hc' : atAtomB (x.s.pk t) = false := by simpa using hc
    clear hc
    go_enter Tryz.func52, Tryz.ntmps52
    go_wp2_with fail
    refine (atAtom_S _ b t x h ht hk).mono ?_
    rintro e w0 ⟨rfl, hw0⟩
    go_wp2_with fail
    refine (add_S _ b t x 0 0 0 0 0 0 hw0.2 hn0).mono ?_
    rintro e w1 ⟨rfl, hw1⟩
    have HE := hide (Rds.branchNone (whole := 0) hc')
    go_wp2
    go_ret
    exact ⟨_, _, rfl, unhide HE, hw0.trans hw1⟩

set_option maxHeartbeats 400000 in
theorem pattern_of_branch (t : ByteArray) (ht : t.size ≤ 60) (m : Nat) (ha : Does 52 2 t m) : Does 26 0 t m := by
  intro w b x h hok hm
  have HA := hide (ha w b x h hok hm)
  obtain ⟨hk, hfs, hns⟩ := hok
  have HA2 := hide ha
  clear ha
  go_enter Tryz.func26, Tryz.ntmps26
  go_wp2_with fail
  refine (unhide HA).mono ?_
  rintro e w1 ⟨y, i, rfl, hr, p1⟩
  have g1 : Grows t 1 x y := Rds.facts hk hr
  have hy : LoopOk 901 t y := by
    refine ⟨g1.2.1, g1.2.2.1 hfs, ?_, fun hb => ?_⟩
    · have := g1.2.2.2; have := g1.2.1; omega
    · have := g1.2.2.2; have := g1.2.1; omega
  have hxy : x.s.k ≤ y.s.k := g1.1.1
  have HR := hide (fun r hr' => Rds.pattern (whole := 0) hr (r := r) hr')
  have HY := hide hy
  have hlft : left t y.s ≤ t.size + 1 := by unfold left; split <;> omega
  have HLF := hide hlft
  clear hr hy g1 hlft HA
  go_wp2_with fail
  go_loopg [3] (t.size + 1) (fun n p wr => ∃ (j : Int) (z : St), p = .int .i64 j ∧ Hid (left t z.s ≤ n ∧ LoopOk 901 t z ∧ x.s.k ≤ z.s.k ∧ PostS w wr b t z ∧ ∀ r, Rds t 1 j z r → Rds t 0 0 x r))
  case atStart => exact ⟨i, y, rfl, unhide HLF, unhide HY, hxy, p1, unhide HR⟩
  case round =>
    obtain ⟨j, z, rfl, H⟩ := hrel
    obtain ⟨hl, hz, hxz, pz, hcont⟩ := unhide H
    have HL := hide hl
    have HZ := hide hz
    have HC := hide hcont
    have hkz := hz.1
    clear hl hz hcont H p1 HLF HY HR
    by_cases hc : (z.s.pk t == 124) = true
    · obtain ⟨hbz, hlz⟩ := S1.pk_lt (t := t) (s := z.s) (by rw [beq_iff_eq] at hc; omega)
      obtain ⟨z1, z2, z3, z4⟩ := unhide HZ
      have z5 := z4 hbz
      have e1 := takeS_eq hc
      have HOK : Hid (OkS t (z.at (takeS t 124 z.s))) := by
        refine ⟨takeS_le (by omega) hkz, z2, ?_⟩
        rw [e1]; simp only [St.at]; omega
      have hm' : t.size - (z.at (takeS t 124 z.s)).s.k ≤ m := by rw [e1]; simp only [St.at]; omega
      have hks : (takeS t 124 z.s).k = z.s.k + 1 := by rw [e1]
      have HKS := hide hks
      have HC' := hide hc
      clear z4 e1 hks
      go_wp2_with fail
      refine (take_S _ b t z 124 pz.2 ht hkz).mono ?_
      rintro e w2 ⟨rfl, hw2⟩
      go_wp2_with fail
      refine (unhide HA2 w2 b _ hw2.2 (unhide HOK) hm').mono ?_
      rintro e w3 ⟨y2, i2, rfl, hr2, hw3⟩
      have g1 : Grows t 1 (z.at (takeS t 124 z.s)) y2 := Rds.facts (unhide HOK).1 hr2
      have n1 := g1.2.2.2
      have n2 := g1.1.1
      simp only [St.at, unhide HKS] at n1 n2
      have HLT := hide (left_goes (t := t) hbz g1.2.1 (Or.inr (by omega)))
      have hn2 : y2.ns.length ≤ 1000 := by have := g1.2.1; omega
      have H3 : Hid (LoopOk 901 t (y2.add ⟨3, j, i2, 0, 0, 0⟩)) := by
        refine ⟨g1.2.1, ?_, ?_, fun hb => ?_⟩
        · have := g1.2.2.1 z2; simp only [St.add, List.length_append, List.length_cons, List.length_nil]; omega
        · have := g1.2.1; simp only [St.add, List.length_append, List.length_cons, List.length_nil]; omega
        · have := g1.2.1; simp only [St.add, List.length_append, List.length_cons, List.length_nil]; omega
      have hxy2 : x.s.k ≤ y2.s.k := by omega
      have HK := hide (fun r hr => unhide HC r (Rds.alt (unhide HC') hr2 hr))
      clear g1 hr2 n1 n2
      go_wp2_with fail
      refine (add_S _ b t y2 3 j i2 0 0 0 hw3.2 hn2).mono ?_
      rintro e w4 ⟨rfl, hw4⟩
      go_wp2
      go_roundg (gk - 1)
      case measure => have := unhide HL; have := unhide HLT; omega
      case rel => exact ⟨_, _, rfl, by have := unhide HL; have := unhide HLT; show left t y2.s ≤ gk - 1; omega, unhide H3, hxy2, ((pz.trans hw2).trans hw3).trans hw4, unhide HK⟩
    · have hc' : (z.s.pk t == 124) = false := by simpa using hc
      have t1 : z.at (takeS t 124 z.s) = z := by simp only [takeS, hc']; rfl
      have HT := hide t1
      clear hc t1
      go_wp2_with fail
      refine (take_S _ b t z 124 pz.2 ht hkz).mono ?_
      rw [unhide HT]
      rintro e w2 ⟨rfl, hw2⟩
      have HE := hide (unhide HC _ (Rds.altEnd hc'))
      go_wp2
      go_ret
      exact ⟨_, _, rfl, unhide HE, pz.trans hw2⟩

/-- Every pattern is read. -/
theorem readPattern_any (t : ByteArray) (ht : t.size ≤ 60) : ∀ m, Does 26 0 t m := by
  intro m
  induction m using Nat.strongRecOn with
  | _ m ih => exact pattern_of_branch t ht m (branch_of_piece t ht m (piece_of_atom t ht m (atom_of_pattern t ht m ih)))

end Go.Proofs.YtfooclcjehpcfaaGreat
