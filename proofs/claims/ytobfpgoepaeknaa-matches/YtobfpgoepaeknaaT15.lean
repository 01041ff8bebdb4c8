/-
  The document's answer: over, nibble, named.
  The document's answer: its nodes in memory; but.
-/
import Derived.Test.YtobfpgoepaeknaaT14
import Derived.Test.YtobfpgoepaeknaaT00
namespace Go.Proofs.Ytobfpgoepaeknaa
open Go.RowKit

set_option maxHeartbeats 1000000 in
theorem over_any (p : ByteArray) (hp : p.size ≤ 60) : ∀ (f i j : Nat) (w : World), ovF p f 0 i = some j →
    Calls Try.prog 66 #[.string p, .int .i64 (i : Int)] w fun e w' => e = .returned (.int .i64 (j : Int)) ∧ w' = w := by
  intro f
  induction f using Nat.strongRecOn with
  | _ f ih =>
    intro i j w h
    have hp' : (p.size : Int) ≤ 60 := by omega
    have IH := hide ih
    clear ih
    obtain ⟨f, rfl⟩ : ∃ f', f = f' + 1 := by cases f with | zero => simp [ovF] at h | succ f => exact ⟨f, rfl⟩
    have hi : i < p.size := by
      by_cases hi : i < p.size
      · exact hi
      · simp [ovF, hi] at h
    have hi' : (i : Int) < (p.size : Int) := by omega
    have hb := byteAt_eq hi
    simp only [ovF, hi, if_true] at h
    by_cases c1 : (byteAt p i == 92) = true
    · rw [if_pos c1] at h
      have hi1 : i + 1 < p.size := by
        by_cases hi1 : i + 1 < p.size
        · exact hi1
        · rw [if_neg hi1] at h; cases h
      rw [if_pos hi1] at h
      have hi1' : (i : Int) + 1 < (p.size : Int) := by omega
      have hb1 := byteAt_eq hi1
      rw [hb] at c1
      simp only [Option.some.injEq] at h
      have HM := hide (fun w => marks_any (p[i + 1].toNat : Int) w)
      rw [hb1] at h
      by_cases cm : mayBeEscapedB (p[i + 1].toNat : Int) = true
      · rw [if_pos cm] at h
        subst h
        clear hb hb1 IH
        go_enter Try.func66, Try.ntmps66
        go_wp2_with (go_at_call 83; refine (unhide HM _).mono ?_; rintro e w' ⟨rfl, rfl⟩)
        go_ret
        exact ⟨ret_int (by go_num), rfl⟩
      · have cm' : mayBeEscapedB (p[i + 1].toNat : Int) = false := by simpa using cm
        rw [if_neg cm] at h
        subst h
        clear hb hb1 IH cm
        go_enter Try.func66, Try.ntmps66
        go_wp2_with (go_at_call 83; refine (unhide HM _).mono ?_; rintro e w' ⟨rfl, rfl⟩)
        go_ret
        exact ⟨ret_int (by go_num), rfl⟩
    · rw [if_neg c1] at h
      rw [hb] at c1 h
      have c1' : ((p[i].toNat : Int) == 92) = false := by simpa using c1
      clear c1 hb
      by_cases c2 : ((p[i].toNat : Int) == 91) = true
      · rw [if_pos c2] at h
        have H0 := hide h
        clear h
        go_enter Try.func66, Try.ntmps66
        go_wp2_with fail
        go_loopg [1] f (fun n s wr => ∃ q : Nat, s = .int .i64 (q : Int) ∧ w = wr ∧ Hid (ovF p n 1 q = some j ∧ n ≤ f))
        case atStart => exact ⟨i + 1, by go_num, rfl, unhide H0, Nat.le_refl _⟩
        case round =>
          obtain ⟨q, rfl, rfl, H⟩ := hrel
          obtain ⟨h, hn⟩ := unhide H
          clear H H0
          obtain ⟨n, rfl⟩ : ∃ n', gk = n' + 1 := by cases gk with | zero => simp [ovF] at h | succ n => exact ⟨n, rfl⟩
          have hq : q < p.size := by
            by_cases hq : q < p.size
            · exact hq
            · simp [ovF, hq] at h
          have hq' : (q : Int) < (p.size : Int) := by omega
          have hb := byteAt_eq hq
          simp only [ovF, hq, if_true, hb] at h
          clear hb
          by_cases d1 : ((p[q].toNat : Int) == 93) = true
          · rw [if_pos d1] at h
            simp only [Option.some.injEq] at h
            have d1' : ((p[q].toNat : Int) != 93) = false := by simpa using d1
            subst h
            clear d1
            go_wp2
            go_ret
            exact ⟨ret_int (by go_num), rfl⟩
          · rw [if_neg d1] at h
            have d1' : ((p[q].toNat : Int) != 93) = true := by simpa using d1
            clear d1
            by_cases d2 : ((p[q].toNat : Int) == 92) = true
            · rw [if_pos d2] at h
              rw [Option.bind_eq_some_iff] at h
              obtain ⟨j1, h1, h2⟩ := h
              have HC := hide (unhide IH n (by omega) q j1 w h1)
              have H2 := hide h2
              clear h1 h2
              go_wp2_with (go_at_call 66; refine (unhide HC).mono ?_; rintro e w' ⟨rfl, rfl⟩)
              go_roundg n
              case measure => omega
              case rel => exact ⟨j1, rfl, rfl, unhide H2, by omega⟩
            · rw [if_neg d2] at h
              have d2' : ((p[q].toNat : Int) == 92) = false := by simpa using d2
              have H2 := hide h
              clear h d2
              go_wp2
              go_roundg n
              case measure => omega
              case rel => exact ⟨q + 1, by go_num, rfl, unhide H2, by omega⟩
      · rw [if_neg c2] at h
        have c2' : ((p[i].toNat : Int) == 91) = false := by simpa using c2
        clear c2
        by_cases c3 : ((p[i].toNat : Int) == 40) = true
        · rw [if_pos c3] at h
          have H0 := hide h
          clear h
          go_enter Try.func66, Try.ntmps66
          go_wp2_with fail
          go_loopg [1] f (fun n s wr => ∃ q : Nat, s = .int .i64 (q : Int) ∧ w = wr ∧ Hid (ovF p n 2 q = some j ∧ n ≤ f))
          case atStart => exact ⟨i + 1, by go_num, rfl, unhide H0, Nat.le_refl _⟩
          case round =>
            obtain ⟨q, rfl, rfl, H⟩ := hrel
            obtain ⟨h, hn⟩ := unhide H
            clear H H0
            obtain ⟨n, rfl⟩ : ∃ n', gk = n' + 1 := by cases gk with | zero => simp [ovF] at h | succ n => exact ⟨n, rfl⟩
            have hq : q < p.size := by
              by_cases hq : q < p.size
              · exact hq
              · simp [ovF, hq] at h
            have hq' : (q : Int) < (p.size : Int) := by omega
            have hb := byteAt_eq hq
            simp only [ovF, hq, if_true, hb] at h
            clear hb
            by_cases d1 : ((p[q].toNat : Int) == 41) = true
            · rw [if_pos d1] at h
              simp only [Option.some.injEq] at h
              have d1' : ((p[q].toNat : Int) != 41) = false := by simpa using d1
              subst h
              clear d1
              go_wp2
              go_ret
              exact ⟨ret_int (by go_num), rfl⟩
            · rw [if_neg d1] at h
              have d1' : ((p[q].toNat : Int) != 41) = true := by simpa using d1
              clear d1
              rw [Option.bind_eq_some_iff] at h
              obtain ⟨j1, h1, h2⟩ := h
              have HC := hide (unhide IH n (by omega) q j1 w h1)
              have H2 := hide h2
              clear h1 h2
              go_wp2_with (go_at_call 66; refine (unhide HC).mono ?_; rintro e w' ⟨rfl, rfl⟩)
              go_roundg n
              case measure => omega
              case rel => exact ⟨j1, rfl, rfl, unhide H2, by omega⟩
        · rw [if_neg c3] at h
          have c3' : ((p[i].toNat : Int) == 40) = false := by simpa using c3
          simp only [Option.some.injEq] at h
          subst h
          clear c3 IH
          go_enter Try.func66, Try.ntmps66
          go_wp2
          go_ret
          exact ⟨ret_int (by go_num), rfl⟩

theorem digitI_hex {c : Int} (h : hexB c = true) : (97 ≤ c ∧ c ≤ 102 ∧ digitI c = c - 97 + 10) ∨ (48 ≤ c ∧ c ≤ 57 ∧ digitI c = c - 48) := by
  simp [hexB, decB] at h
  unfold digitI
  by_cases h1 : 48 ≤ c ∧ c ≤ 57
  · right; rw [if_pos h1]; omega
  · left; rw [if_neg h1, if_pos (by omega)]; omega

set_option maxHeartbeats 400000 in
theorem nibble_any (c : Int) (w : World) (h : hexB c = true) : Calls Try.prog 109 #[.int .u8 c] w fun e w' => e = .returned (.int .i64 (digitI c)) ∧ w' = w := by
  rcases digitI_hex h with ⟨h1, h2, h3⟩ | ⟨h1, h2, h3⟩
  · rw [h3]
    clear h h3
    go_enter Try.func109, Try.ntmps109
    go_wp2
    go_ret
    exact ⟨rfl, rfl⟩
  · rw [h3]
    clear h h3
    go_enter Try.func109, Try.ntmps109
    go_wp2
    go_ret
    exact ⟨rfl, rfl⟩

set_option maxHeartbeats 1000000 in
theorem named_any (p : ByteArray) (hp : p.size ≤ 60) (i : Nat) (v : Int) (j : Nat) (w : World) (h : namedS p i = some (v, j)) :
    Calls Try.prog 99 #[.string p, .int .i64 (i : Int)] w fun e w' => e = .returned (.tuple #[.int .i64 v, .int .i64 (j : Int)]) ∧ w' = w := by
  have hp' : (p.size : Int) ≤ 60 := by omega
  unfold namedS at h
  have hi : i < p.size := by
    by_cases hi : i < p.size
    · exact hi
    · rw [if_neg hi] at h; cases h
  have hi' : (i : Int) < (p.size : Int) := by omega
  have hb := byteAt_eq hi
  have bd0 := byteAt_bd p i
  rw [if_pos hi, hb] at h
  rw [hb] at bd0
  clear hb
  by_cases c1 : ((p[i].toNat : Int) == 92) = true
  · rw [if_pos c1] at h
    have c1' : ((p[i].toNat : Int) != 92) = false := by simpa using c1
    have hi1 : i + 1 < p.size := by
      by_cases hi1 : i + 1 < p.size
      · exact hi1
      · rw [if_neg hi1] at h; cases h
    have hi1' : (i : Int) + 1 < (p.size : Int) := by omega
    have hb1 := byteAt_eq hi1
    have bd1 := byteAt_bd p (i + 1)
    rw [if_pos hi1, hb1] at h
    rw [hb1] at bd1
    clear hb1 c1
    have HM := hide (fun w => marks_any (p[i + 1].toNat : Int) w)
    by_cases cm : mayBeEscapedB (p[i + 1].toNat : Int) = true
    · rw [if_pos cm] at h
      simp only [Option.some.injEq, Prod.mk.injEq] at h
      obtain ⟨rfl, rfl⟩ := h
      go_enter Try.func99, Try.ntmps99
      go_wp2_with (go_at_call 83; refine (unhide HM _).mono ?_; rintro e w' ⟨rfl, rfl⟩)
      go_ret2
      exact ⟨by first | rfl | (congr 3; go_num), rfl⟩
    · rw [if_neg cm] at h
      have cm' : mayBeEscapedB (p[i + 1].toNat : Int) = false := by simpa using cm
      clear cm
      by_cases hh : i + 2 < p.size ∧ hexB (p[i + 1].toNat : Int) = true ∧ hexB (byteAt p (i + 2)) = true
      · rw [if_pos hh] at h
        obtain ⟨hi2, x1, x2⟩ := hh
        have hi2' : (i : Int) + 2 < (p.size : Int) := by omega
        have hb2 := byteAt_eq hi2
        rw [hb2] at h x2
        simp only [Option.some.injEq, Prod.mk.injEq] at h
        obtain ⟨rfl, rfl⟩ := h
        have HN1 := hide (fun w => nibble_any (p[i + 1].toNat : Int) w x1)
        have HN2 := hide (fun w => nibble_any (p[i + 2].toNat : Int) w x2)
        have b1 := digitI_bd (p[i + 1].toNat : Int)
        have b2 := digitI_bd (p[i + 2].toNat : Int)
        clear hb2 x1 x2
        generalize digitI (p[i + 1].toNat : Int) = d1 at *
        generalize digitI (p[i + 2].toNat : Int) = d2 at *
        go_enter Try.func99, Try.ntmps99
        go_wp2_with (first | (go_at_call 83; refine (unhide HM _).mono ?_; rintro e w' ⟨rfl, rfl⟩))
        refine (unhide HN1 _).mono ?_
        rintro e w' ⟨rfl, rfl⟩
        go_wp2_with fail
        refine (unhide HN2 _).mono ?_
        rintro e w' ⟨rfl, rfl⟩
        go_wp2
        go_ret2
        exact ⟨by first | rfl | (congr 3; go_num), rfl⟩
      · rw [if_neg hh] at h; cases h
  · rw [if_neg c1] at h
    have c1' : ((p[i].toNat : Int) != 92) = true := by simpa using c1
    simp only [Option.some.injEq, Prod.mk.injEq] at h
    obtain ⟨rfl, rfl⟩ := h
    clear c1
    go_enter Try.func99, Try.ntmps99
    go_wp2
    go_ret2
    exact ⟨by first | rfl | (congr 3; go_num), rfl⟩

end Go.Proofs.Ytobfpgoepaeknaa
namespace Go.Proofs.Ytobfpgoepaeknaa
open Go.RowKit

/-- The 261 cells of a node. -/
def rnA (r : Rn) : Array Value := #[.int .i64 r.kind, .int .i64 r.l, .int .i64 r.r, .int .i64 r.m, .int .i64 r.n] ++ setA r.f

theorem size_rnA (r : Rn) : (rnA r).size = 261 := by simp [rnA, size_setA]
theorem get_rnA (r : Rn) (k : Nat) (h : k < 256) : (rnA r)[5 + k]? = some (.bool (r.f k)) := by
  unfold rnA
  rw [Array.getElem?_append_right (by simp)]
  simp only [List.size_toArray, List.length_cons, List.length_nil, Nat.zero_add, Nat.add_sub_cancel_left]
  exact get_setA r.f k h
theorem rnA_one (r : Rn) : (rnA r).all (·.oneCell') = true := by
  unfold rnA
  rw [Array.all_append, setA_one]
  simp [Value.oneCell']
theorem rnA_set (r : Rn) (k : Nat) (v : Bool) : (rnA r).setIfInBounds (5 + k) (.bool v) = rnA ⟨r.kind, r.l, r.r, r.m, r.n, fun j => if j = k then v else r.f j⟩ := by
  unfold rnA
  rw [← setA_set]
  rw [Array.setIfInBounds_append_right (by simp)]
  simp
theorem rnA_kind (r : Rn) (v : Int) : (rnA r).setIfInBounds 0 (.int .i64 v) = rnA ⟨v, r.l, r.r, r.m, r.n, r.f⟩ := by
  unfold rnA
  rw [Array.setIfInBounds_append_left (by simp)]
  simp
theorem rnA_l (r : Rn) (v : Int) : (rnA r).setIfInBounds 1 (.int .i64 v) = rnA ⟨r.kind, v, r.r, r.m, r.n, r.f⟩ := by
  unfold rnA
  rw [Array.setIfInBounds_append_left (by simp)]
  simp
theorem rnA_r (r : Rn) (v : Int) : (rnA r).setIfInBounds 2 (.int .i64 v) = rnA ⟨r.kind, r.l, v, r.m, r.n, r.f⟩ := by
  unfold rnA
  rw [Array.setIfInBounds_append_left (by simp)]
  simp
theorem rnA_m (r : Rn) (v : Int) : (rnA r).setIfInBounds 3 (.int .i64 v) = rnA ⟨r.kind, r.l, r.r, v, r.n, r.f⟩ := by
  unfold rnA
  rw [Array.setIfInBounds_append_left (by simp)]
  simp
theorem rnA_n (r : Rn) (v : Int) : (rnA r).setIfInBounds 4 (.int .i64 v) = rnA ⟨r.kind, r.l, r.r, r.m, v, r.f⟩ := by
  unfold rnA
  rw [Array.setIfInBounds_append_left (by simp)]
  simp
theorem rnA_congr {r r' : Rn} (h0 : r.kind = r'.kind) (h1 : r.l = r'.l) (h2 : r.r = r'.r) (h3 : r.m = r'.m) (h4 : r.n = r'.n) (h : ∀ j, j < 256 → r.f j = r'.f j) : rnA r = rnA r' := by
  unfold rnA
  rw [h0, h1, h2, h3, h4, setA_congr h]
theorem zero78 : Try.zeroCells95 = rnA ⟨0, 0, 0, 0, 0, noSet⟩ := by kernel_rfl
theorem info78 : (Try.prog.info? 95).map (·.size) = some 261 := by kernel_rfl

def butTo (f : Nat → Bool) (k : Nat) : Nat → Bool := fun j => if j < k then !f j else false
def butR (r : Rn) : Rn := ⟨2, 0, 0, 0, 0, fun j => !r.f j⟩

theorem butTo_step (f : Nat → Bool) (k : Nat) : rnA ⟨2, 0, 0, 0, 0, fun j => if j = k then !f k else butTo f k j⟩ = rnA ⟨2, 0, 0, 0, 0, butTo f (k + 1)⟩ := by
  refine rnA_congr rfl rfl rfl rfl rfl (fun j _ => ?_)
  simp only [butTo]
  by_cases e : j = k
  · subst e; simp
  · simp [e, show (j < k + 1) = (j < k) from propext ⟨fun _ => by omega, fun _ => by omega⟩]

theorem heap3_0 (w : World) (A B C : Obj) : (((w.alloc A).alloc B).alloc C).heap[w.heap.size]? = some A := by
  rw [Below.heap_alloc _ _ _ (by simp; omega)]; exact heap_alloc2_old w A B
theorem heap3_1 (w : World) (A B C : Obj) : (((w.alloc A).alloc B).alloc C).heap[w.heap.size + 1]? = some B := by
  rw [Below.heap_alloc _ _ _ (by simp)]; exact heap_alloc2_new w A B
theorem heap3_2 (w : World) (A B C : Obj) : (((w.alloc A).alloc B).alloc C).heap[w.heap.size + 2]? = some C := by
  have := heap_alloc_new ((w.alloc A).alloc B) C
  simpa using this

set_option maxHeartbeats 1000000 in
theorem but_any (w : World) (r : Rn) :
    Calls Try.prog 97 #[.agg (rnA r)] w fun e w' => e = .returned (.agg (rnA (butR r))) ∧ Below w.heap.size w w' := by
  have HA := hide (heap3_0 w (Obj.cells (rnA r) 95) (Obj.cells Try.zeroCells95 95) (Obj.cells Try.zeroCells95 95))
  have HB := hide (heap3_1 w (Obj.cells (rnA r) 95) (Obj.cells Try.zeroCells95 95) (Obj.cells Try.zeroCells95 95))
  have HC := hide (heap3_2 w (Obj.cells (rnA r) 95) (Obj.cells Try.zeroCells95 95) (Obj.cells Try.zeroCells95 95))
  have hB : Below w.heap.size w (((w.alloc (Obj.cells (rnA r) 95)).alloc (Obj.cells Try.zeroCells95 95)).alloc (Obj.cells Try.zeroCells95 95)) := (((Below.refl _ _).alloc (Nat.le_refl _) _).alloc (by simp) _).alloc (by simp; omega) _
  have HBel := hide hB
  clear hB
  have hz2 : Try.zeroCells95.setIfInBounds 0 (.int .i64 2) = rnA ⟨2, 0, 0, 0, 0, noSet⟩ := by rw [zero78, rnA_kind]
  have HZ2 := hide hz2
  clear hz2
  go_enter Try.func97, Try.ntmps97
  go_wp2_with (refine wpList_store_row0 rfl 95 _ _ rfl rfl (w.heap.size + 2) _ rfl rfl 95 _ (unhide HC) (by rw [unhide HZ2, size_rnA]; exact info78) (by rw [unhide HZ2, zero78, size_rnA, size_rnA]) (by rw [unhide HZ2]; exact rnA_one _) ?_)
  have HA2 := hide ((setRow_other (((w.alloc (Obj.cells (rnA r) 95)).alloc (Obj.cells Try.zeroCells95 95)).alloc (Obj.cells Try.zeroCells95 95)) (w.heap.size + 2) w.heap.size (Try.zeroCells95.setIfInBounds 0 (.int .i64 2)) (by omega)).trans (unhide HA))
  have HB2 := hide ((setRow_other (((w.alloc (Obj.cells (rnA r) 95)).alloc (Obj.cells Try.zeroCells95 95)).alloc (Obj.cells Try.zeroCells95 95)) (w.heap.size + 2) (w.heap.size + 1) (Try.zeroCells95.setIfInBounds 0 (.int .i64 2)) (by omega)).trans (unhide HB))
  have HC2 := hide (setRow_heap _ _ _ (Try.zeroCells95.setIfInBounds 0 (.int .i64 2)) _ _ (unhide HC))
  have HBel2 := hide (below_setRow (unhide HBel) (g := w.heap.size + 2) (by omega) (Try.zeroCells95.setIfInBounds 0 (.int .i64 2)))
  clear HA HB HC HBel
  generalize (((w.alloc (Obj.cells (rnA r) 95)).alloc (Obj.cells Try.zeroCells95 95)).alloc (Obj.cells Try.zeroCells95 95)).setRow (w.heap.size + 2) (Try.zeroCells95.setIfInBounds 0 (.int .i64 2)) = w0 at *
  go_loopw [4] (fun i wr => ∃ k : Nat, i = .int .i64 k ∧ Hid (k ≤ 256 ∧ Below w.heap.size w wr ∧ wr.heap[w.heap.size]? = some (Obj.cells (rnA r) 95 (0, 0)) ∧ wr.heap[w.heap.size + 1]? = some (Obj.cells Try.zeroCells95 95 (0, 0)) ∧ wr.heap[w.heap.size + 1 + 1]? = some (Obj.cells (rnA ⟨2, 0, 0, 0, 0, butTo r.f k⟩) 95 (0, 0)))) (fun i _ => left256 i)
  case atStart => exact ⟨0, rfl, by omega, unhide HBel2, unhide HA2, unhide HB2, by rw [show rnA ⟨2, 0, 0, 0, 0, butTo r.f 0⟩ = rnA ⟨2, 0, 0, 0, 0, noSet⟩ from rnA_congr rfl rfl rfl rfl rfl (fun j _ => by simp [butTo, noSet]), ← unhide HZ2]; exact unhide HC2⟩
  case round =>
    rename_i wr
    obtain ⟨k, rfl, H⟩ := hrel
    obtain ⟨hk, hb, ha, hz, hc⟩ := unhide H
    have HB := hide hb
    have HA := hide ha
    have HZ := hide hz
    have HC := hide hc
    clear H HA2 HB2 HC2 HBel2
    by_cases hlt : k < 256
    · have x1 : wr.cell? ⟨w.heap.size, 5 + k, none⟩ = some (.bool (r.f k)) := by rw [cell_of_row _ _ _ _ _ _ ha, get_rnA _ _ hlt]
      have x2 : wr.cell? ⟨w.heap.size + 1 + 1, 5 + k, none⟩ = some (.bool (butTo r.f k k)) := by rw [cell_of_row _ _ _ _ _ _ hc, get_rnA _ _ hlt]
      have x3 : wr.frozen? ⟨w.heap.size + 1 + 1, 5 + k, none⟩ = false := frozen_of_row _ _ _ _ _ hc
      have hlt' : (k : Int) < 256 := by omega
      have HL := hide hlt
      generalize butTo r.f k k = v0 at x2
      clear hb ha hz hc hk hlt
      go_wp2
      go_roundw
      case rel =>
        refine ⟨k + 1, by go_num, by have := unhide HL; omega, (unhide HB).setCell (by simp; omega) _, by rw [heap_setCell_other _ _ _ _ (by simp; omega)]; exact unhide HA, by rw [heap_setCell_other _ _ _ _ (by simp)]; exact unhide HZ, ?_⟩
        rw [heap_setCell_same _ _ _ _ _ _ (unhide HC), rnA_set, butTo_step]
      case measure => have := unhide HL; simp [left256, intOf]; omega
    · have hk2 : k = 256 := by omega
      subst hk2
      clear hb ha hz hc
      go_wp2_with (first
        | refine wpList_load_row rfl 95 _ rfl (w.heap.size + 1 + 1) rfl 95 _ (0, 0) _ (unhide HC) Try.underlying95 rfl (by rw [size_rnA]; exact info78) ?_
        | refine wpList_store_row0 rfl 95 _ _ rfl rfl (w.heap.size + 1) _ rfl rfl 95 _ (unhide HZ) (by rw [size_rnA]; exact info78) (by rw [zero78, size_rnA, size_rnA]) (rnA_one _) ?_)
      have hfin : rnA ⟨2, 0, 0, 0, 0, butTo r.f 256⟩ = rnA (butR r) := rnA_congr rfl rfl rfl rfl rfl (fun j hj => by simp [butTo, butR, hj])
      exact bodyPost_ret (v := .agg (rnA ⟨2, 0, 0, 0, 0, butTo r.f 256⟩))
        (results_cell_row (p := 2) (ty := 95) rfl _ _ (w.heap.size + 1) 95 _ (0, 0) _ rfl (setRow_heap _ _ _ _ _ _ (unhide HZ)) Try.underlying95 rfl (by rw [size_rnA]; exact info78))
        rfl ⟨by rw [hfin], below_setRow (unhide HB) (by omega) _⟩

end Go.Proofs.Ytobfpgoepaeknaa
