/-
  The reader of patterns: atoms, pieces, branches, patterns.
-/
import Derived.Test.YtohefinejdfhaabPat
namespace Go.Proofs.Ytohefinejdfhaab
open Go.RowKit
attribute [local go_sem ↓] zvS
attribute [local go_sem] zcS_size zcS_ne

def OkS (t : ByteArray) (x : St) : Prop := x.s.k ≤ t.size ∧ x.fs.length ≤ x.ns.length ∧ x.ns.length + 4 * (t.size - x.s.k) ≤ 900

/-- The function F reads as 'tag' says, from every place from which at most m bytes are left. -/
def Does (F tag : Nat) (t : ByteArray) (m : Nat) : Prop :=
  ∀ (w : World) (b : Nat) (x : St), RdS w b t x → OkS t x → t.size - x.s.k ≤ m →
    Calls Try.prog F #[.pointer (some ⟨b, 0, none⟩)] w fun e w' => ∃ y i, e = .returned (.int .i64 i) ∧ Rds t tag 0 x (y, i) ∧ PostS w w' b t y

theorem complement_zero (w : World) : Calls Try.prog 152 #[.agg (setA fun _ => false)] w fun e w' => e = .returned (.agg (setA fun _ => true)) ∧ Below w.heap.size w w' :=
  (complement_any w (fun _ => false)).mono fun _ _ h => h

set_option maxHeartbeats 1000000 in
theorem atom_of_pattern (t : ByteArray) (ht : t.size ≤ 60) (m : Nat) (hp : ∀ m', m' < m → Does 53 0 t m') : Does 143 6 t m := by
  intro w b x h hok hm
  obtain ⟨hk, hfs, hns⟩ := hok
  have hn1 : x.ns.length ≤ 1000 := by omega
  have hn2 : x.fs.length ≤ 1000 := by omega
  by_cases c1 : (x.s.pk t == 40) = true
  · have hlt := (S1.pk_lt (t := t) (s := x.s) (by rw [beq_iff_eq] at c1; omega)).2
    have e1 := takeS_eq c1
    have HP := hide (hp (t.size - (x.s.k + 1)) (by omega))
    have k1 : (takeS t 40 x.s).k ≤ t.size := takeS_le (by omega) hk
    have HB := hide (fun (y : St) (i : Int) (h : Rds t 0 0 (x.at (takeS t 40 x.s)) (y, i)) => Rds.bracket (whole := 0) c1 h)
    have hok1 : OkS t (x.at (takeS t 40 x.s)) := by
      refine ⟨k1, hfs, ?_⟩
      rw [e1]; simp only [St.at]; omega
    have hm1 : t.size - (x.at (takeS t 40 x.s)).s.k ≤ t.size - (x.s.k + 1) := by rw [e1]; exact Nat.le_refl _
    clear hp hm hlt e1
    generalize hs1 : takeS t 40 x.s = s1 at *
    have HT1 := hide hs1
    clear hs1
    go_enter Try.func143, Try.ntmps143
    go_wp2_with fail
    refine (take_S _ b t x 40 h ht hk).mono ?_
    rw [unhide HT1]
    rintro e w1 ⟨rfl, hw1⟩
    go_wp2_with fail
    refine (unhide HP w1 b (x.at s1) hw1.2 hok1 hm1).mono ?_
    rintro e w2 ⟨y, i, rfl, hr, hw2⟩
    have hy : y.s.k ≤ t.size := (Rds.facts (by exact k1) hr).2.1
    have HR := hide hr
    clear hr
    go_wp2_with fail
    refine (expect_S _ b t y 41 hw2.2 ht hy).mono ?_
    rintro e w3 ⟨rfl, hw3⟩
    go_wp2
    go_ret
    exact ⟨_, _, rfl, unhide HB y i (unhide HR), (hw1.trans hw2).trans hw3⟩
  · have c1' : (x.s.pk t == 40) = false := by simpa using c1
    have t1 : x.at (takeS t 40 x.s) = x := by simp only [takeS, c1']; rfl
    have HT := hide t1
    have HL := hide (Rds.leaf (whole := 0) c1')
    clear t1 c1 hp hm
    by_cases c2 : (x.s.pk t == 91) = true
    · have hfin : readLeafS t x = (x.at (readSetS t (takeS t 91 x.s)).2).addSet (readSetS t (takeS t 91 x.s)).1 := by simp only [readLeafS, c2, if_true]
      have HF := hide hfin
      have k1 : (takeS t 91 x.s).k ≤ t.size := takeS_le (by omega) hk
      clear hfin
      go_enter Try.func143, Try.ntmps143
      go_wp2_with fail
      refine (take_S _ b t x 40 h ht hk).mono ?_
      rw [unhide HT]
      rintro e w1 ⟨rfl, hw1⟩
      go_wp2_with fail
      refine (take_S _ b t x 91 hw1.2 ht hk).mono ?_
      rintro e w2 ⟨rfl, hw2⟩
      have p2 := hw1.trans hw2
      clear hw1 hw2
      go_wp2_with fail
      refine (readSet_S _ b t _ p2.2 ht k1).mono ?_
      rintro e w3 ⟨rfl, hw3⟩
      have p3 := p2.trans hw3
      have HS := hide (rfl : readSetS t (x.at (takeS t 91 x.s)).s = readSetS t (takeS t 91 x.s))
      clear p2 hw3
      have HN3 := hide (heap_alloc_new w3 (Obj.cells zcS 109))
      generalize hN : w3.heap.size = N at *
      have p4 := p3.below ((Below.refl _ _).alloc (Nat.le_refl _) (Obj.cells zcS 109))
      have p5 : PostS w ((w3.alloc (Obj.cells zcS 109)).setRow N (setA (readSetS t (x.at (takeS t 91 x.s)).s).1)) b t _ := p3.below (below_setRow ((Below.refl _ _).alloc (Nat.le_refl _) _) (by omega) _)
      have HN5 := hide (setRow_heap _ _ _ (setA (readSetS t (x.at (takeS t 91 x.s)).s).1) _ _ (unhide HN3))
      go_wp2_with (first
        | refine wpList_store_row0 rfl 109 _ _ rfl rfl N _ rfl rfl 109 _ (unhide HN3) (by rw [size_setA]; kernel_rfl) (by rw [zero84, size_setA, size_setA]) (setA_one _) ?_
        | refine wpList_load_row rfl 109 _ rfl N rfl 109 _ (0, 0) _ (unhide HN5) Try.underlying109 rfl (by rw [size_setA]; kernel_rfl) ?_)
      refine (addSet_S _ b t _ _ p5.2 hn1 hn2).mono ?_
      rintro e w6 ⟨rfl, hw6⟩
      go_wp2
      go_ret
      refine ⟨_, _, rfl, unhide HL, ?_⟩
      rw [unhide HF]
      exact p5.trans hw6
    · have c2' : (x.s.pk t == 91) = false := by simpa using c2
      have t2 : x.at (takeS t 91 x.s) = x := by simp only [takeS, c2']; rfl
      have HT2 := hide t2
      clear c2 t2
      by_cases c3 : (x.s.pk t == 46) = true
      · have hfin : readLeafS t x = (x.at (takeS t 46 x.s)).addSet (fun _ => true) := by simp only [readLeafS, c2', c3, if_true]; rfl
        have HF := hide hfin
        clear hfin
        go_enter Try.func143, Try.ntmps143
        go_wp2_with fail
        refine (take_S _ b t x 40 h ht hk).mono ?_
        rw [unhide HT]
        rintro e w1 ⟨rfl, hw1⟩
        go_wp2_with fail
        refine (take_S _ b t x 91 hw1.2 ht hk).mono ?_
        rw [unhide HT2]
        rintro e w2 ⟨rfl, hw2⟩
        go_wp2_with fail
        refine (take_S _ b t x 46 hw2.2 ht hk).mono ?_
        rintro e w3 ⟨rfl, hw3⟩
        have p3 := (hw1.trans hw2).trans hw3
        clear hw1 hw2 hw3
        go_wp2_with fail
        rw [zero84]
        refine (complement_zero _).mono ?_
        rintro e w4 ⟨rfl, hw4⟩
        have p4 := p3.below hw4
        go_wp2_with fail
        refine (addSet_S _ b t _ (fun _ => true) p4.2 hn1 hn2).mono ?_
        rintro e w6 ⟨rfl, hw6⟩
        go_wp2
        go_ret
        refine ⟨_, _, rfl, unhide HL, ?_⟩
        rw [unhide HF]
        exact p4.trans hw6
      · have c3' : (x.s.pk t == 46) = false := by simpa using c3
        have t3 : x.at (takeS t 46 x.s) = x := by simp only [takeS, c3']; rfl
        have HT3 := hide t3
        have hfin : readLeafS t x = (x.at (readByteS t x.s).2).addSet (addR (fun _ => false) (readByteS t x.s).1 (readByteS t x.s).1) := by simp only [readLeafS, c2', c3']; rfl
        have HF := hide hfin
        clear hfin t3 c3
        go_enter Try.func143, Try.ntmps143
        go_wp2_with fail
        refine (take_S _ b t x 40 h ht hk).mono ?_
        rw [unhide HT]
        rintro e w1 ⟨rfl, hw1⟩
        go_wp2_with fail
        refine (take_S _ b t x 91 hw1.2 ht hk).mono ?_
        rw [unhide HT2]
        rintro e w2 ⟨rfl, hw2⟩
        go_wp2_with fail
        refine (take_S _ b t x 46 hw2.2 ht hk).mono ?_
        rw [unhide HT3]
        rintro e w3 ⟨rfl, hw3⟩
        have p3 := (hw1.trans hw2).trans hw3
        clear hw1 hw2 hw3
        go_wp2_with fail
        refine (readByte_S _ b t x p3.2 ht hk).mono ?_
        rintro e w4 ⟨rfl, hw4⟩
        have p4 := p3.trans hw4
        go_wp2_with fail
        rw [zero84]
        refine (addRange_any _ (fun _ => false) _ _).mono ?_
        rintro e w5 ⟨rfl, hw5⟩
        have p5 := p4.below hw5
        go_wp2_with fail
        refine (addSet_S _ b t _ _ p5.2 hn1 hn2).mono ?_
        rintro e w6 ⟨rfl, hw6⟩
        go_wp2
        go_ret
        refine ⟨_, _, rfl, unhide HL, ?_⟩
        rw [unhide HF]
        exact p5.trans hw6

end Go.Proofs.Ytohefinejdfhaab
