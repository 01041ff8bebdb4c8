/-
  The reader of patterns: a whole set.
-/
import Derived.Test.YtohefinejdfhaabSet2
import Derived.Deep.LoopGhost
namespace Go.Proofs.Ytohefinejdfhaab
open Go.RowKit
attribute [local go_sem ↓] zvS
attribute [local go_sem] zcS_size zcS_ne

theorem zero84b : Try.prog.built 109 [] = some (setA fun _ => false) := by kernel_rfl

set_option maxHeartbeats 400000 in
theorem readSet_any (w : World) (b : Nat) (t : ByteArray) (s : S1) (nv sv : Value) (h : Rd1 w b t s nv sv)
    (ht : t.size ≤ 60) (hk : s.k ≤ t.size) :
    Calls Try.prog 150 #[.pointer (some ⟨b, 0, none⟩)] w fun e w' =>
      e = .returned (.agg (setA (readSetS t s).1)) ∧ Post1 w w' b t (readSetS t s).2 nv sv := by
  have hbl := h.lt
  have P0 : Post1 w (w.alloc (Obj.cells zcS 109)) b t s nv sv := (Post1.refl h).alloc _
  have HZ0 := hide (heap_alloc_new w (Obj.cells zcS 109))
  have hk1 := takeS_le (t := t) (c := 94) (s := s) (by omega) hk
  go_enter Try.func150, Try.ntmps150
  go_wp2_with fail
  refine (take_any _ b t s nv sv 94 P0.2 ht hk).mono ?_
  rintro e w1 ⟨rfl, hw1⟩
  have P1 := P0.trans hw1
  have HZ1 := hide (hw1.other (unhide HZ0) (by omega))
  generalize hr1 : takeS t 94 s = s1 at *
  have Hr1 := hide hr1
  clear hr1 HZ0 P0 hw1
  go_wp2_with fail
  rw [zero84]
  refine (readItem_any _ b t s1 nv sv (fun _ => false) P1.2 ht hk1).mono ?_
  rintro e w2 ⟨rfl, hw2⟩
  have P2 := P1.trans hw2
  have HZ2 := hide (hw2.other (unhide HZ1) (by omega))
  have hk2 := readItemS_le (t := t) (s := s1) hk1
  have hsz2 := P2.1.size
  have hbl2 := hw2.2.lt
  generalize hr2 : readItemS t s1 = r2 at *
  obtain ⟨⟨lo, hi⟩, s2⟩ := r2
  have Hr2 := hide hr2
  clear hr2 HZ1 P1 hw2
  simp only at hk2 P2
  have hzlt := (Array.getElem?_eq_some_iff.1 (unhide HZ2)).1
  have HZ3 := hide ((Below.heap_alloc w2 (Obj.cells zcS 109) w.heap.size hzlt).trans (unhide HZ2))
  have HN3 := hide (heap_alloc_new w2 (Obj.cells zcS 109))
  have P3 := P2.alloc (Obj.cells zcS 109)
  generalize hN : w2.heap.size = N at *
  go_wp2_with (refine wpList_store_row0 rfl 109 _ _ rfl rfl N _ rfl rfl 109 _ (unhide HN3) (by rw [size_setA]; kernel_rfl) (by rw [zero84, size_setA, size_setA]) (setA_one _) ?_)
  have P4 := P3.setRow hbl (g := N) (by omega) (setA (addR (fun _ => false) lo hi))
  have HN4 := hide (setRow_heap _ _ _ (setA (addR (fun _ => false) lo hi)) _ _ (unhide HN3))
  have HZ4 := hide ((setRow_other (w2.alloc (Obj.cells zcS 109)) N w.heap.size (setA (addR (fun _ => false) lo hi)) (by omega)).trans (unhide HZ3))
  generalize (w2.alloc (Obj.cells zcS 109)).setRow N (setA (addR (fun _ => false) lo hi)) = w4 at *
  generalize hf0 : addR (fun _ => false) lo hi = f0 at *
  have Hf0 := hide hf0
  have hlft : left t s2 ≤ t.size + 1 := by unfold left; split <;> omega
  clear hf0 P2 P3 HZ2 HZ3 HN3
  go_loopg [10] (t.size + 1) (fun n _ wr => ∃ (f : Nat → Bool) (x : S1), Hid (left t x ≤ n ∧ x.k ≤ t.size ∧ setLoop t n f x = setLoop t (t.size + 1) f0 s2 ∧ Post1 w wr b t x nv sv ∧ wr.heap[N]? = some (Obj.cells (setA f) 109 (0, 0)) ∧ wr.heap[w.heap.size]? = some (Obj.cells zcS 109 (0, 0))))
  case atStart => exact ⟨f0, s2, hlft, hk2, rfl, P4, unhide HN4, unhide HZ4⟩
  case round =>
    obtain ⟨f, x, H⟩ := hrel
    obtain ⟨hl, hkx, hloop, P5, hN5, hZ5⟩ := unhide H
    have HL := hide hl
    have HLoop := hide hloop
    have HN5 := hide hN5
    have HZ5 := hide hZ5
    clear hl hloop hN5 hZ5 H HN4 HZ4 P4
    have HP := hide (peek_any _ b t x nv sv P5.2 ht hkx)
    obtain ⟨c0, c1, c2, -, -⟩ := P5.2.cells
    by_cases hgo : (!x.bad && x.pk t != 93) = true
    · have hbx : x.bad = false := by revert hgo; cases x.bad <;> simp
      have hpx : (x.pk t != 93) = true := by revert hgo; rw [hbx]; simp
      have hl1 : 1 ≤ gk := by have := unhide HL; unfold left at this; rw [hbx] at this; simp at this; omega
      obtain ⟨g1, rfl⟩ : ∃ g1, gk = g1 + 1 := ⟨gk - 1, by omega⟩
      have HGo := hide hgo
      clear hgo hl1
      go_wp2_with (first
        | (go_at_call 125; refine (unhide HP).mono ?_; rintro e w' ⟨rfl, n, rfl⟩)
        | refine wpList_load_row rfl 109 _ rfl N rfl 109 _ (0, 0) _ (unhide HN5) Try.underlying109 rfl (by rw [size_setA]; kernel_rfl) ?_)
      have P6 := P5.drewN n
      refine (readItem_any _ b t x nv sv f P6.2 ht hkx).mono ?_
      rintro e w7 ⟨rfl, hw7⟩
      have P7 := P6.trans hw7
      have HN7 := hide (hw7.other (g := N) (unhide HN5) (by omega))
      have HZ7 := hide (hw7.other (g := w.heap.size) (unhide HZ5) (by omega))
      go_wp2_with (refine wpList_store_row0 rfl 109 _ _ rfl rfl N _ rfl rfl 109 _ (unhide HN7) (by rw [size_setA]; kernel_rfl) (by rw [size_setA, size_setA]) (setA_one _) ?_)
      go_roundg g1
      case measure => omega
      case rel =>
        refine ⟨_, _, ?_, readItemS_le hkx, (setLoop_go g1 f x (unhide HGo)).symm.trans (unhide HLoop), P7.setRow hbl (by omega) _, setRow_heap _ _ _ _ _ _ (unhide HN7), (setRow_other _ _ _ _ (by omega)).trans (unhide HZ7)⟩
        have := left_goes (t := t) hbx (readItemS_le hkx) (readItemS_goes t x)
        have := unhide HL
        omega
    · have hgo' : (!x.bad && x.pk t != 93) = false := by simpa using hgo
      have hst := setLoop_stop gk f x hgo'
      have HF := hide (hst.symm.trans (unhide HLoop))
      have hke := expectS_le (t := t) (c := 93) (s := x) (by omega) hkx
      clear hgo hst HL HLoop
      have fin : ∀ wx : World, Post1 w wx b t x nv sv → wx.heap[N]? = some (Obj.cells (setA f) 109 (0, 0)) → wx.heap[w.heap.size]? = some (Obj.cells zcS 109 (0, 0)) →
          Calls Try.prog 149 #[.pointer (some ⟨b, 0, none⟩), .int .i64 93] wx fun e wy => e = .returned (.tuple #[]) ∧ Post1 w wy b t (expectS t 93 x) nv sv ∧ wy.heap[N]? = some (Obj.cells (setA f) 109 (0, 0)) ∧ wy.heap[w.heap.size]? = some (Obj.cells zcS 109 (0, 0)) := by
        intro wx hx1 hx2 hx3
        refine (expect_any wx b t x nv sv 93 hx1.2 ht hkx).mono ?_
        rintro e wy ⟨rfl, hy⟩
        exact ⟨rfl, hx1.trans hy, hy.other hx2 (by omega), hy.other hx3 (by omega)⟩
      have HFin := hide fin
      have ffin : ∀ v, v = s.pk t → readSetS t s = (if v == 94 then fun j => !f j else f, expectS t 93 x) := by
        rintro v rfl
        simp only [readSetS, unhide Hr1, unhide Hr2, unhide Hf0, ← unhide HF]
      have FF := hide ffin
      clear fin ffin c0 c1
      obtain ⟨kx, bx⟩ := x
      simp only at c2 hgo' hke
      by_cases hnot : (s.pk t == 94) = true
      · cases bx
        · have hpx : (S1.pk t ⟨kx, false⟩ != 93) = false := by simpa using hgo'
          clear hgo'
          go_wp2_with (go_at_call 125; refine (unhide HP).mono ?_; rintro e w' ⟨rfl, n, rfl⟩)
          refine (unhide HFin _ (P5.drewN n) (unhide HN5) (unhide HZ5)).mono ?_
          rintro e wy ⟨rfl, P6, hN6, hZ6⟩
          have HN6 := hide hN6
          have HZ6 := hide hZ6
          clear hN6 hZ6
          go_wp2_with (refine wpList_load_row rfl 109 _ rfl N rfl 109 _ (0, 0) _ (unhide HN6) Try.underlying109 rfl (by rw [size_setA]; kernel_rfl) ?_)
          refine (complement_any _ f).mono ?_
          rintro e w7 ⟨rfl, hw7⟩
          have P7 := P6.below hw7
          have HZ7 := hide ((hw7.block _ (Array.getElem?_eq_some_iff.1 (unhide HZ6)).1).trans (unhide HZ6))
          go_wp2_with (refine wpList_store_row0 rfl 109 _ _ rfl rfl w.heap.size _ rfl rfl 109 _ (unhide HZ7) (by rw [size_setA]; kernel_rfl) (by rw [zero84, size_setA, size_setA]) (setA_one _) ?_)
          refine bodyPost_ret (v := .agg (setA (fun j => !f j)))
            (results_cell_row (p := 2) (ty := 109) rfl _ _ w.heap.size 109 _ (0, 0) _ rfl (setRow_heap _ _ _ _ _ _ (unhide HZ7)) Try.underlying109 rfl (by rw [size_setA]; kernel_rfl))
            rfl ?_
          rw [unhide FF _ rfl, hnot]
          exact ⟨rfl, P7.setRow hbl (Nat.le_refl _) _⟩
        · clear hgo'
          go_wp2_with fail
          refine (unhide HFin _ P5 (unhide HN5) (unhide HZ5)).mono ?_
          rintro e wy ⟨rfl, P6, hN6, hZ6⟩
          have HN6 := hide hN6
          have HZ6 := hide hZ6
          clear hN6 hZ6
          go_wp2_with (refine wpList_load_row rfl 109 _ rfl N rfl 109 _ (0, 0) _ (unhide HN6) Try.underlying109 rfl (by rw [size_setA]; kernel_rfl) ?_)
          refine (complement_any _ f).mono ?_
          rintro e w7 ⟨rfl, hw7⟩
          have P7 := P6.below hw7
          have HZ7 := hide ((hw7.block _ (Array.getElem?_eq_some_iff.1 (unhide HZ6)).1).trans (unhide HZ6))
          go_wp2_with (refine wpList_store_row0 rfl 109 _ _ rfl rfl w.heap.size _ rfl rfl 109 _ (unhide HZ7) (by rw [size_setA]; kernel_rfl) (by rw [zero84, size_setA, size_setA]) (setA_one _) ?_)
          refine bodyPost_ret (v := .agg (setA (fun j => !f j)))
            (results_cell_row (p := 2) (ty := 109) rfl _ _ w.heap.size 109 _ (0, 0) _ rfl (setRow_heap _ _ _ _ _ _ (unhide HZ7)) Try.underlying109 rfl (by rw [size_setA]; kernel_rfl))
            rfl ?_
          rw [unhide FF _ rfl, hnot]
          exact ⟨rfl, P7.setRow hbl (Nat.le_refl _) _⟩
      · have hnot' : (s.pk t == 94) = false := by simpa using hnot
        clear hnot
        cases bx
        · have hpx : (S1.pk t ⟨kx, false⟩ != 93) = false := by simpa using hgo'
          clear hgo'
          go_wp2_with (go_at_call 125; refine (unhide HP).mono ?_; rintro e w' ⟨rfl, n, rfl⟩)
          refine (unhide HFin _ (P5.drewN n) (unhide HN5) (unhide HZ5)).mono ?_
          rintro e wy ⟨rfl, P6, hN6, hZ6⟩
          have HN6 := hide hN6
          have HZ6 := hide hZ6
          clear hN6 hZ6
          go_wp2_with (first
            | refine wpList_load_row rfl 109 _ rfl N rfl 109 _ (0, 0) _ (unhide HN6) Try.underlying109 rfl (by rw [size_setA]; kernel_rfl) ?_
            | refine wpList_store_row0 rfl 109 _ _ rfl rfl w.heap.size _ rfl rfl 109 _ (unhide HZ6) (by rw [size_setA]; kernel_rfl) (by rw [zero84, size_setA, size_setA]) (setA_one _) ?_)
          refine bodyPost_ret (v := .agg (setA (f)))
            (results_cell_row (p := 2) (ty := 109) rfl _ _ w.heap.size 109 _ (0, 0) _ rfl (setRow_heap _ _ _ _ _ _ (unhide HZ6)) Try.underlying109 rfl (by rw [size_setA]; kernel_rfl))
            rfl ?_
          rw [unhide FF _ rfl, hnot']
          exact ⟨rfl, P6.setRow hbl (Nat.le_refl _) _⟩
        · clear hgo'
          go_wp2_with fail
          refine (unhide HFin _ P5 (unhide HN5) (unhide HZ5)).mono ?_
          rintro e wy ⟨rfl, P6, hN6, hZ6⟩
          have HN6 := hide hN6
          have HZ6 := hide hZ6
          clear hN6 hZ6
          go_wp2_with (first
            | refine wpList_load_row rfl 109 _ rfl N rfl 109 _ (0, 0) _ (unhide HN6) Try.underlying109 rfl (by rw [size_setA]; kernel_rfl) ?_
            | refine wpList_store_row0 rfl 109 _ _ rfl rfl w.heap.size _ rfl rfl 109 _ (unhide HZ6) (by rw [size_setA]; kernel_rfl) (by rw [zero84, size_setA, size_setA]) (setA_one _) ?_)
          refine bodyPost_ret (v := .agg (setA (f)))
            (results_cell_row (p := 2) (ty := 109) rfl _ _ w.heap.size 109 _ (0, 0) _ rfl (setRow_heap _ _ _ _ _ _ (unhide HZ6)) Try.underlying109 rfl (by rw [size_setA]; kernel_rfl))
            rfl ?_
          rw [unhide FF _ rfl, hnot']
          exact ⟨rfl, P6.setRow hbl (Nat.le_refl _) _⟩

end Go.Proofs.Ytohefinejdfhaab
