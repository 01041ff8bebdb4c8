/-
  The reader of patterns: a whole set.
  The reader of patterns: a node is laid behind the others.
-/
import Derived.Test.YtobfpgoepaeknaaT02
import Derived.Deep.LoopGhost
import Derived.Deep.RegionLaw
namespace Go.Proofs.Ytobfpgoepaeknaa
open Go.RowKit
attribute [local go_sem ↓] zvS
attribute [local go_sem] zcS_size zcS_ne

theorem zero84b : Try.prog.built 85 [] = some (setA fun _ => false) := by kernel_rfl

set_option maxHeartbeats 400000 in
theorem readSet_any (w : World) (b : Nat) (t : ByteArray) (s : S1) (nv sv : Value) (h : Rd1 w b t s nv sv)
    (ht : t.size ≤ 60) (hk : s.k ≤ t.size) :
    Calls Try.prog 103 #[.pointer (some ⟨b, 0, none⟩)] w fun e w' =>
      e = .returned (.agg (setA (readSetS t s).1)) ∧ Post1 w w' b t (readSetS t s).2 nv sv := by
  have hbl := h.lt
  have P0 : Post1 w (w.alloc (Obj.cells zcS 85)) b t s nv sv := (Post1.refl h).alloc _
  have HZ0 := hide (heap_alloc_new w (Obj.cells zcS 85))
  have hk1 := takeS_le (t := t) (c := 94) (s := s) (by omega) hk
  go_enter Try.func103, Try.ntmps103
  go_wp2_with fail
  refine (take_any _ b t s nv sv 94 P0.2 ht hk).mono ?_
  rintro e w1 ⟨rfl, hw1⟩
  have P1 := P0.trans hw1
  have HZ1 := hide (hw1.other (unhide HZ0) (by omega))
  generalize hr1 : takeS t 94 s = s1 at *
  have Hr1 := hide hr1
  clear hr1 HZ0 P0 hw1
  go_wp2_with fail
  rw [zero84]
  refine (readItem_any _ b t s1 nv sv (fun _ => false) P1.2 ht hk1).mono ?_
  rintro e w2 ⟨rfl, hw2⟩
  have P2 := P1.trans hw2
  have HZ2 := hide (hw2.other (unhide HZ1) (by omega))
  have hk2 := readItemS_le (t := t) (s := s1) hk1
  have hsz2 := P2.1.size
  have hbl2 := hw2.2.lt
  generalize hr2 : readItemS t s1 = r2 at *
  obtain ⟨⟨lo, hi⟩, s2⟩ := r2
  have Hr2 := hide hr2
  clear hr2 HZ1 P1 hw2
  simp only at hk2 P2
  have hzlt := (Array.getElem?_eq_some_iff.1 (unhide HZ2)).1
  have HZ3 := hide ((Below.heap_alloc w2 (Obj.cells zcS 85) w.heap.size hzlt).trans (unhide HZ2))
  have HN3 := hide (heap_alloc_new w2 (Obj.cells zcS 85))
  have P3 := P2.alloc (Obj.cells zcS 85)
  generalize hN : w2.heap.size = N at *
  go_wp2_with (refine wpList_store_row0 rfl 85 _ _ rfl rfl N _ rfl rfl 85 _ (unhide HN3) (by rw [size_setA]; kernel_rfl) (by rw [zero84, size_setA, size_setA]) (setA_one _) ?_)
  have P4 := P3.setRow hbl (g := N) (by omega) (setA (addR (fun _ => false) lo hi))
  have HN4 := hide (setRow_heap _ _ _ (setA (addR (fun _ => false) lo hi)) _ _ (unhide HN3))
  have HZ4 := hide ((setRow_other (w2.alloc (Obj.cells zcS 85)) N w.heap.size (setA (addR (fun _ => false) lo hi)) (by omega)).trans (unhide HZ3))
  generalize (w2.alloc (Obj.cells zcS 85)).setRow N (setA (addR (fun _ => false) lo hi)) = w4 at *
  generalize hf0 : addR (fun _ => false) lo hi = f0 at *
  have Hf0 := hide hf0
  have hlft : left t s2 ≤ t.size + 1 := by unfold left; split <;> omega
  clear hf0 P2 P3 HZ2 HZ3 HN3
  go_loopg [10] (t.size + 1) (fun n _ wr => ∃ (f : Nat → Bool) (x : S1), Hid (left t x ≤ n ∧ x.k ≤ t.size ∧ setLoop t n f x = setLoop t (t.size + 1) f0 s2 ∧ Post1 w wr b t x nv sv ∧ wr.heap[N]? = some (Obj.cells (setA f) 85 (0, 0)) ∧ wr.heap[w.heap.size]? = some (Obj.cells zcS 85 (0, 0))))
  case atStart => exact ⟨f0, s2, hlft, hk2, rfl, P4, unhide HN4, unhide HZ4⟩
  case round =>
    obtain ⟨f, x, H⟩ := hrel
    obtain ⟨hl, hkx, hloop, P5, hN5, hZ5⟩ := unhide H
    have HL := hide hl
    have HLoop := hide hloop
    have HN5 := hide hN5
    have HZ5 := hide hZ5
    clear hl hloop hN5 hZ5 H HN4 HZ4 P4
    have HP := hide (peek_any _ b t x nv sv P5.2 ht hkx)
    obtain ⟨c0, c1, c2, -, -⟩ := P5.2.cells
    by_cases hgo : (!x.bad && x.pk t != 93) = true
    · have hbx : x.bad = false := by revert hgo; cases x.bad <;> simp
      have hpx : (x.pk t != 93) = true := by revert hgo; rw [hbx]; simp
      have hl1 : 1 ≤ gk := by have := unhide HL; unfold left at this; rw [hbx] at this; simp at this; omega
      obtain ⟨g1, rfl⟩ : ∃ g1, gk = g1 + 1 := ⟨gk - 1, by omega⟩
      have HGo := hide hgo
      clear hgo hl1
      go_wp2_with (first
        | (go_at_call 79; refine (unhide HP).mono ?_; rintro e w' ⟨rfl, n, rfl⟩)
        | refine wpList_load_row rfl 85 _ rfl N rfl 85 _ (0, 0) _ (unhide HN5) Try.underlying85 rfl (by rw [size_setA]; kernel_rfl) ?_)
      have P6 := P5.drewN n
      refine (readItem_any _ b t x nv sv f P6.2 ht hkx).mono ?_
      rintro e w7 ⟨rfl, hw7⟩
      have P7 := P6.trans hw7
      have HN7 := hide (hw7.other (g := N) (unhide HN5) (by omega))
      have HZ7 := hide (hw7.other (g := w.heap.size) (unhide HZ5) (by omega))
      go_wp2_with (refine wpList_store_row0 rfl 85 _ _ rfl rfl N _ rfl rfl 85 _ (unhide HN7) (by rw [size_setA]; kernel_rfl) (by rw [size_setA, size_setA]) (setA_one _) ?_)
      go_roundg g1
      case measure => omega
      case rel =>
        refine ⟨_, _, ?_, readItemS_le hkx, (setLoop_go g1 f x (unhide HGo)).symm.trans (unhide HLoop), P7.setRow hbl (by omega) _, setRow_heap _ _ _ _ _ _ (unhide HN7), (setRow_other _ _ _ _ (by omega)).trans (unhide HZ7)⟩
        have := left_goes (t := t) hbx (readItemS_le hkx) (readItemS_goes t x)
        have := unhide HL
        omega
    · have hgo' : (!x.bad && x.pk t != 93) = false := by simpa using hgo
      have hst := setLoop_stop gk f x hgo'
      have HF := hide (hst.symm.trans (unhide HLoop))
      have hke := expectS_le (t := t) (c := 93) (s := x) (by omega) hkx
      clear hgo hst HL HLoop
      have fin : ∀ wx : World, Post1 w wx b t x nv sv → wx.heap[N]? = some (Obj.cells (setA f) 85 (0, 0)) → wx.heap[w.heap.size]? = some (Obj.cells zcS 85 (0, 0)) →
          Calls Try.prog 102 #[.pointer (some ⟨b, 0, none⟩), .int .i64 93] wx fun e wy => e = .returned (.tuple #[]) ∧ Post1 w wy b t (expectS t 93 x) nv sv ∧ wy.heap[N]? = some (Obj.cells (setA f) 85 (0, 0)) ∧ wy.heap[w.heap.size]? = some (Obj.cells zcS 85 (0, 0)) := by
        intro wx hx1 hx2 hx3
        refine (expect_any wx b t x nv sv 93 hx1.2 ht hkx).mono ?_
        rintro e wy ⟨rfl, hy⟩
        exact ⟨rfl, hx1.trans hy, hy.other hx2 (by omega), hy.other hx3 (by omega)⟩
      have HFin := hide fin
      have ffin : ∀ v, v = s.pk t → readSetS t s = (if v == 94 then fun j => !f j else f, expectS t 93 x) := by
        rintro v rfl
        simp only [readSetS, unhide Hr1, unhide Hr2, unhide Hf0, ← unhide HF]
      have FF := hide ffin
      clear fin ffin c0 c1
      obtain ⟨kx, bx⟩ := x
      simp only at c2 hgo' hke
      by_cases hnot : (s.pk t == 94) = true
      · cases bx
        · have hpx : (S1.pk t ⟨kx, false⟩ != 93) = false := by simpa using hgo'
          clear hgo'
          go_wp2_with (go_at_call 79; refine (unhide HP).mono ?_; rintro e w' ⟨rfl, n, rfl⟩)
          refine (unhide HFin _ (P5.drewN n) (unhide HN5) (unhide HZ5)).mono ?_
          rintro e wy ⟨rfl, P6, hN6, hZ6⟩
          have HN6 := hide hN6
          have HZ6 := hide hZ6
          clear hN6 hZ6
          go_wp2_with (refine wpList_load_row rfl 85 _ rfl N rfl 85 _ (0, 0) _ (unhide HN6) Try.underlying85 rfl (by rw [size_setA]; kernel_rfl) ?_)
          refine (complement_any _ f).mono ?_
          rintro e w7 ⟨rfl, hw7⟩
          have P7 := P6.below hw7
          have HZ7 := hide ((hw7.block _ (Array.getElem?_eq_some_iff.1 (unhide HZ6)).1).trans (unhide HZ6))
          go_wp2_with (refine wpList_store_row0 rfl 85 _ _ rfl rfl w.heap.size _ rfl rfl 85 _ (unhide HZ7) (by rw [size_setA]; kernel_rfl) (by rw [zero84, size_setA, size_setA]) (setA_one _) ?_)
          refine bodyPost_ret (v := .agg (setA (fun j => !f j)))
            (results_cell_row (p := 2) (ty := 85) rfl _ _ w.heap.size 85 _ (0, 0) _ rfl (setRow_heap _ _ _ _ _ _ (unhide HZ7)) Try.underlying85 rfl (by rw [size_setA]; kernel_rfl))
            rfl ?_
          rw [unhide FF _ rfl, hnot]
          exact ⟨rfl, P7.setRow hbl (Nat.le_refl _) _⟩
        · clear hgo'
          go_wp2_with fail
          refine (unhide HFin _ P5 (unhide HN5) (unhide HZ5)).mono ?_
          rintro e wy ⟨rfl, P6, hN6, hZ6⟩
          have HN6 := hide hN6
          have HZ6 := hide hZ6
          clear hN6 hZ6
          go_wp2_with (refine wpList_load_row rfl 85 _ rfl N rfl 85 _ (0, 0) _ (unhide HN6) Try.underlying85 rfl (by rw [size_setA]; kernel_rfl) ?_)
          refine (complement_any _ f).mono ?_
          rintro e w7 ⟨rfl, hw7⟩
          have P7 := P6.below hw7
          have HZ7 := hide ((hw7.block _ (Array.getElem?_eq_some_iff.1 (unhide HZ6)).1).trans (unhide HZ6))
          go_wp2_with (refine wpList_store_row0 rfl 85 _ _ rfl rfl w.heap.size _ rfl rfl 85 _ (unhide HZ7) (by rw [size_setA]; kernel_rfl) (by rw [zero84, size_setA, size_setA]) (setA_one _) ?_)
          refine bodyPost_ret (v := .agg (setA (fun j => !f j)))
            (results_cell_row (p := 2) (ty := 85) rfl _ _ w.heap.size 85 _ (0, 0) _ rfl (setRow_heap _ _ _ _ _ _ (unhide HZ7)) Try.underlying85 rfl (by rw [size_setA]; kernel_rfl))
            rfl ?_
          rw [unhide FF _ rfl, hnot]
          exact ⟨rfl, P7.setRow hbl (Nat.le_refl _) _⟩
      · have hnot' : (s.pk t == 94) = false := by simpa using hnot
        clear hnot
        cases bx
        · have hpx : (S1.pk t ⟨kx, false⟩ != 93) = false := by simpa using hgo'
          clear hgo'
          go_wp2_with (go_at_call 79; refine (unhide HP).mono ?_; rintro e w' ⟨rfl, n, rfl⟩)
          refine (unhide HFin _ (P5.drewN n) (unhide HN5) (unhide HZ5)).mono ?_
          rintro e wy ⟨rfl, P6, hN6, hZ6⟩
          have HN6 := hide hN6
          have HZ6 := hide hZ6
          clear hN6 hZ6
          go_wp2_with (first
            | refine wpList_load_row rfl 85 _ rfl N rfl 85 _ (0, 0) _ (unhide HN6) Try.underlying85 rfl (by rw [size_setA]; kernel_rfl) ?_
            | refine wpList_store_row0 rfl 85 _ _ rfl rfl w.heap.size _ rfl rfl 85 _ (unhide HZ6) (by rw [size_setA]; kernel_rfl) (by rw [zero84, size_setA, size_setA]) (setA_one _) ?_)
          refine bodyPost_ret (v := .agg (setA (f)))
            (results_cell_row (p := 2) (ty := 85) rfl _ _ w.heap.size 85 _ (0, 0) _ rfl (setRow_heap _ _ _ _ _ _ (unhide HZ6)) Try.underlying85 rfl (by rw [size_setA]; kernel_rfl))
            rfl ?_
          rw [unhide FF _ rfl, hnot']
          exact ⟨rfl, P6.setRow hbl (Nat.le_refl _) _⟩
        · clear hgo'
          go_wp2_with fail
          refine (unhide HFin _ P5 (unhide HN5) (unhide HZ5)).mono ?_
          rintro e wy ⟨rfl, P6, hN6, hZ6⟩
          have HN6 := hide hN6
          have HZ6 := hide hZ6
          clear hN6 hZ6
          go_wp2_with (first
            | refine wpList_load_row rfl 85 _ rfl N rfl 85 _ (0, 0) _ (unhide HN6) Try.underlying85 rfl (by rw [size_setA]; kernel_rfl) ?_
            | refine wpList_store_row0 rfl 85 _ _ rfl rfl w.heap.size _ rfl rfl 85 _ (unhide HZ6) (by rw [size_setA]; kernel_rfl) (by rw [zero84, size_setA, size_setA]) (setA_one _) ?_)
          refine bodyPost_ret (v := .agg (setA (f)))
            (results_cell_row (p := 2) (ty := 85) rfl _ _ w.heap.size 85 _ (0, 0) _ rfl (setRow_heap _ _ _ _ _ _ (unhide HZ6)) Try.underlying85 rfl (by rw [size_setA]; kernel_rfl))
            rfl ?_
          rw [unhide FF _ rfl, hnot']
          exact ⟨rfl, P6.setRow hbl (Nat.le_refl _) _⟩

end Go.Proofs.Ytobfpgoepaeknaa
namespace Go.Proofs.Ytobfpgoepaeknaa
open Go.RowKit

theorem step_append_own {P : Program} {ops : Array Oper} {o : Oper} {a : Act} {w : World} {K : Act → World → Prop} {Q : Exit → Act → World → Prop} {E : Prop}
    (hg : o.guard = none) (s x : Operand) (t : TypeId) (hop : o.op = Op.call { callee := Callee.builtin Builtin.append, args := #[s, x], argTypes := #[t, t] })
    (base : Nat) (e : TypeId) (i : TypeInfo) (z : Value) (size bytes : Nat) (h1 : P.underlying t = some (.slice e)) (h2 : P.info? e = some i) (h3 : i.zero = some z) (h4 : i.size = size) (h5 : i.bytes = bytes) (h6 : z.cells.size = size) (h7 : 0 < size)
    (v : Value) (n : Nat) (xs : List Value) (hs : a.eval s = v) (hown : w.ownsRow base e size v n xs)
    (ad : Addr) (m c : Nat) (news : List Value) (hx : a.eval x = .slice (some ad) m c) (hn : news.length = m * size) (hc : ∀ j u, news[j]? = some u → w.cell? (ad.add j) = some u) (h1c : ∀ u ∈ news, u.oneCell' = true)
    (b1 : n + m ≤ maxLen) (b2 : (n + m) * bytes ≤ 140737488355328) (hbase : base ≤ w.heap.size)
    (hK : ∀ v' w', w'.ownsRow base e size v' (n + m) (xs ++ news) → w.grownBy w' v.ownBlock → K (a.put o.dst v') w') :
    if Region.wanted o (yielded ops a.tmps) = true then Oper.wp P o a w K Q else E := by
  have hw : Region.wanted o (yielded ops a.tmps) = true := by simp [Region.wanted, hg]
  rw [if_pos hw]
  obtain ⟨v', w', hrun, r1, r2, _⟩ := run_append_own (P := P) w base t o.type e i z size bytes h1 h2 h3 h4 h5 h6 h7 v n xs hown ad m c news hn hc h1c b1 b2 hbase
  unfold Oper.wp
  simp [execOp, hop, resolve, invoke, builtin, hs, hx, hrun, Result.andThen]
  exact hK v' w' r1 r2

def ndCells (n : Nd) : List Value := [.int .i64 n.kind, .int .i64 n.left, .int .i64 n.right, .int .i64 n.low, .int .i64 n.high, .int .i64 n.set]
def nodeCells (l : List Nd) : List Value := l.flatMap ndCells
def setsCells (l : List (Nat → Bool)) : List Value := l.flatMap fun f => (setA f).toList

/-- Block b of w is a reader that has read these nodes and these sets. -/
def Rd2 (w : World) (b : Nat) (t : ByteArray) (s : S1) (ns : List Nd) (fs : List (Nat → Bool)) : Prop :=
  ∃ nv sv, Rd1 w b t s nv sv ∧ w.ownsRow (b + 1) 109 6 nv ns.length (nodeCells ns) ∧ w.ownsRow (b + 1) 85 256 sv fs.length (setsCells fs)
def Post2 (w w' : World) (b : Nat) (t : ByteArray) (s : S1) (ns : List Nd) (fs : List (Nat → Bool)) : Prop := Below b w w' ∧ Rd2 w' b t s ns fs

theorem info_of {P : Program} {t : TypeId} {z : Value} {n m : Nat} (h : (P.info? t).map (fun i => (i.zero, i.size, i.bytes)) = some (some z, n, m)) :
    ∃ i, P.info? t = some i ∧ i.zero = some z ∧ i.size = n ∧ i.bytes = m := by
  cases hi : P.info? t with
  | none => rw [hi] at h; cases h
  | some i =>
    rw [hi] at h
    simp only [Option.map_some, Option.some.injEq, Prod.mk.injEq] at h
    exact ⟨i, rfl, h.1, h.2.1, h.2.2⟩

theorem info95 : (Try.prog.info? 109).map (fun i => (i.zero, i.size, i.bytes)) = some (some (.agg #[.int .i64 0, .int .i64 0, .int .i64 0, .int .i64 0, .int .i64 0, .int .i64 0]), 6, 48) := by kernel_rfl

theorem rows_apart {w : World} {B B' e e' z z' : Nat} {v v' : Value} {n n' : Nat} {xs xs' : List Value} (hne : e ≠ e') (h : w.ownsRow B e z v n xs) (h' : w.ownsRow B' e' z' v' n' xs') :
    v.ownBlock = none ∨ v.ownBlock ≠ v'.ownBlock := by
  rcases h.2 with ⟨rfl, _⟩ | ⟨g, cap, cur, rfl, _, hg, _⟩
  · exact Or.inl rfl
  · rcases h'.2 with ⟨rfl, _⟩ | ⟨g', cap', cur', rfl, _, hg', _⟩
    · exact Or.inr (by simp [Value.ownBlock])
    · refine Or.inr ?_
      simp only [Value.ownBlock, ne_eq, Option.some.injEq]
      intro e1
      subst e1
      rw [hg] at hg'
      simp at hg'
      exact hne hg'.2

theorem ownsRow_drewN {w : World} {B e z : Nat} {v : Value} {n : Nat} {xs : List Value} (h : w.ownsRow B e z v n xs) (k : Nat) : (w.drewN k).ownsRow B e z v n xs := h

theorem own_ne {w : World} {b e z : Nat} {v : Value} {n : Nat} {xs : List Value} (h : w.ownsRow (b + 1) e z v n xs) : some b ≠ v.ownBlock := by
  intro e1
  have := (h.lt b e1.symm).1
  omega

theorem below_grown {b : Nat} {w w' : World} {row : Option Nat} (hg : w.grownBy w' row) (hB : b ≤ w.heap.size) (hr : ∀ k, row = some k → b ≤ k) : Below b w w' :=
  (Below.refl b w).grown hg hB hr

theorem setNodes {w : World} {b : Nat} {t : ByteArray} {s : S1} {nv nv' sv : Value} (h : Rd1 w b t s nv sv) : Rd1 (w.setCell ⟨b, 3, none⟩ nv') b t s nv' sv := by
  unfold Rd1 at h ⊢
  simp only [World.setCell, Array.getElem?_modify, if_pos, h]
  simp
theorem setSets {w : World} {b : Nat} {t : ByteArray} {s : S1} {nv sv sv' : Value} (h : Rd1 w b t s nv sv) : Rd1 (w.setCell ⟨b, 4, none⟩ sv') b t s nv sv' := by
  unfold Rd1 at h ⊢
  simp only [World.setCell, Array.getElem?_modify, if_pos, h]
  simp

theorem Rd1.kept {w w' : World} {b : Nat} {t : ByteArray} {s : S1} {nv sv : Value} {row : Option Nat} (h : Rd1 w b t s nv sv) (hg : w.grownBy w' row) (hne : some b ≠ row) : Rd1 w' b t s nv sv := by
  unfold Rd1; rw [hg.block b h.lt hne]; exact h

theorem ndCells_one (n : Nd) : ∀ u ∈ ndCells n, u.oneCell' = true := by
  intro u hu
  simp only [ndCells, List.mem_cons, List.not_mem_nil, or_false] at hu
  rcases hu with rfl | rfl | rfl | rfl | rfl | rfl <;> rfl

theorem cells_new (w : World) (cs : List Value) (e : TypeId) : ∀ j u, cs[j]? = some u → (w.alloc (.cells cs.toArray e)).cell? ((⟨w.heap.size, 0, none⟩ : Addr).add j) = some u := by
  intro j u hu
  have hadd : (⟨w.heap.size, 0, none⟩ : Addr).add j = ⟨w.heap.size, j, none⟩ := by unfold Addr.add; split <;> simp_all
  rw [hadd, cell_of_row _ _ _ _ _ _ (heap_alloc_new w _)]
  simpa using hu

theorem own_form {w : World} {B e z : Nat} {v : Value} {n : Nat} {xs : List Value} (h : w.ownsRow B e z v (n + 1) xs) : ∃ g cap, v = .slice (some ⟨g, 0, none⟩) (n + 1) cap := by
  rcases h.2 with ⟨_, h0⟩ | ⟨g, cap, cur, hv, _⟩
  · omega
  · exact ⟨g, cap, hv⟩

theorem nodeCells_snoc (ns : List Nd) (n : Nd) : nodeCells (ns ++ [n]) = nodeCells ns ++ ndCells n := by simp [nodeCells]
theorem setsCells_snoc (fs : List (Nat → Bool)) (f : Nat → Bool) : setsCells (fs ++ [f]) = setsCells fs ++ (setA f).toList := by simp [setsCells]

theorem add_fin {w W w' : World} {b : Nat} {t : ByteArray} {s : S1} {nv sv v' : Value} {ns : List Nd} {fs : List (Nat → Bool)} {n : Nd} (hb : b < w.heap.size) (hW : Below b w W)
    (h1 : Rd1 W b t s nv sv) (h2 : W.ownsRow (b + 1) 109 6 nv ns.length (nodeCells ns)) (h3 : W.ownsRow (b + 1) 85 256 sv fs.length (setsCells fs))
    (hg : W.grownBy w' nv.ownBlock) (ho : w'.ownsRow (b + 1) 109 6 v' (ns.length + 1) (nodeCells ns ++ ndCells n)) :
    Post2 w (w'.setCell ⟨b, 3, none⟩ v') b t s (ns ++ [n]) fs := by
  have hsz := hW.size
  refine ⟨(hW.trans (below_grown hg (by omega) (fun k hk => by have := (h2.lt k hk).1; omega))).setCell (Nat.le_refl _) _, v', sv, setNodes (h1.kept hg (own_ne h2)), ?_, ?_⟩
  · refine ownsRow_setCell_below ?_ (by simp) _
    rw [nodeCells_snoc]
    simpa using ho
  · exact ownsRow_setCell_below (h3.kept hg (rows_apart (by decide) h3 h2)) (by simp) _

set_option maxHeartbeats 400000 in
theorem add_any (w : World) (b : Nat) (t : ByteArray) (s : S1) (ns : List Nd) (fs : List (Nat → Bool)) (n : Nd) (h : Rd2 w b t s ns fs) (hn : ns.length ≤ 1000) :
    Calls Try.prog 57 #[.pointer (some ⟨b, 0, none⟩), .agg #[.int .i64 n.kind, .int .i64 n.left, .int .i64 n.right, .int .i64 n.low, .int .i64 n.high, .int .i64 n.set]] w fun e w' =>
      e = .returned (.int .i64 (ns.length : Int)) ∧ Post2 w w' b t s (ns ++ [n]) fs := by
  obtain ⟨nv, sv, h1, h2, h3⟩ := h
  obtain ⟨c0, c1, c2, c3, c4⟩ := h1.cells
  obtain ⟨f1, f2, f3, f4⟩ := h1.unfrozen
  obtain ⟨i, i0, i1, i2, i3⟩ := info_of info95
  have hbl := h1.lt
  have H2 := hide ((h2.alloc (Obj.cells (ndCells n).toArray 109)).alloc (Obj.cells (ndCells n).toArray 109))
  have H3 := hide ((h3.alloc (Obj.cells (ndCells n).toArray 109)).alloc (Obj.cells (ndCells n).toArray 109))
  have HC : Hid (∀ j u, (ndCells n)[j]? = some u → ((w.alloc (Obj.cells (ndCells n).toArray 109)).alloc (Obj.cells (ndCells n).toArray 109)).cell? ((⟨w.heap.size + 1, 0, none⟩ : Addr).add j) = some u) := by
    have := cells_new (w.alloc (Obj.cells (ndCells n).toArray 109)) (ndCells n) 109
    exact (by simpa using this : ∀ j u, (ndCells n)[j]? = some u → ((w.alloc (Obj.cells (ndCells n).toArray 109)).alloc (Obj.cells (ndCells n).toArray 109)).cell? ((⟨w.heap.size + 1, 0, none⟩ : Addr).add j) = some u)
  have H1 := hide (((Post1.refl h1).alloc (Obj.cells (ndCells n).toArray 109)).alloc (Obj.cells (ndCells n).toArray 109))
  have HI := hide (And.intro i0 (And.intro i1 (And.intro i2 i3)))
  have HN := hide hn
  have HO := hide (own_ne h2)
  have hL : (ns.length : Int) ≤ 1000 := by omega
  clear i0 i1 i2 i3 h1 h2 h3 hn
  go_enter Try.func57, Try.ntmps57
  go_wp2
  go_region_law (refine step_append_own rfl (.tmp 10) (.tmp 12) 47 rfl (b + 1) 109 i _ 6 48 Try.underlying47 (unhide HI).1 (unhide HI).2.1 (unhide HI).2.2.1 (unhide HI).2.2.2 rfl (by decide) nv ns.length (nodeCells ns) (by simp [Act.eval]) (by exact unhide H2) ⟨w.heap.size + 1, 0, none⟩ 1 1 (ndCells n) (by simp [Act.eval]) rfl (by exact unhide HC) (ndCells_one n) (by have := unhide HN; unfold maxLen; omega) (by have := unhide HN; omega) (by simp; omega) ?_; intro v' w' ho hg'; have hr' := Rd1.kept (h := by exact (unhide H1).2) hg' (unhide HO); obtain ⟨d0, d1, d2, d3, d4⟩ := hr'.cells; obtain ⟨g1, g2, g3, g4⟩ := hr'.unfrozen; obtain ⟨g, cap, hv⟩ := own_form ho; subst hv; have HG := hide hg'; have HO' := hide ho; have HR' := hide hr'; clear hg' ho hr')
  all_goals
    go_wp2
    go_ret
    exact ⟨rfl, add_fin hbl (by exact (((Below.refl b w).alloc (by omega) _).alloc (by simp; omega) _).drew) (by exact (unhide H1).2) (by exact unhide H2) (by exact unhide H3) (unhide HG) (unhide HO')⟩

end Go.Proofs.Ytobfpgoepaeknaa
