/-
  The look over a text: among, digit, hex, outside, inside, goes.
  The look over a text: outside, inside, goes, place.
-/
import Derived.Test.YtobfpgoepaeknaaT07
import Derived.Test.YtobfpgoepaeknaaT00
namespace Go.Proofs.Ytobfpgoepaeknaa
open Go.RowKit

def anyB (s : ByteArray) (c : Int) : Bool := s.data.toList.any fun b => (b.toNat : Int) == c

set_option maxHeartbeats 400000 in
theorem among_any (c : Int) (s : ByteArray) (w : World) (hs : s.size ≤ 60) :
    Calls Try.prog 83 #[.int .u8 c, .string s] w fun e w' => e = .returned (.bool (anyB s c)) ∧ w' = w := by
  have hs' : (s.size : Int) ≤ 60 := by omega
  have HS := hide hs
  clear hs
  go_enter Try.func83, Try.ntmps83
  go_wp2
  go_loop [5] (fun i => ∃ k : Nat, k ≤ s.size ∧ i = .int .i64 k ∧ Hid (∀ j (h : j < s.size), j < k → ((s[j].toNat : Int) == c) = false)) (fun i => s.size - (intOf i).toNat)
  case atStart => exact ⟨0, Nat.zero_le _, rfl, fun j _ hj => absurd hj (Nat.not_lt_zero j)⟩
  case round =>
    obtain ⟨k, hk, rfl, H⟩ := hrel
    by_cases hlt : k < s.size
    · by_cases hc : ((s[k].toNat : Int) == c) = true
      · go_wp2
        go_ret
        refine ⟨ret_bool ?_, rfl⟩
        symm
        unfold anyB
        rw [List.any_eq_true]
        exact ⟨s[k], by simp [ByteArray.getElem_eq_getElem_data], hc⟩
      · have hc' : ((s[k].toNat : Int) == c) = false := by simpa using hc
        clear hc
        have HC := hide hc'
        go_wp2
        go_round
        case rel =>
          refine ⟨k + 1, by omega, by go_num, fun j hj hjk => ?_⟩
          by_cases e : j = k
          · subst e; exact unhide HC
          · exact unhide H j hj (by omega)
        case measure => simp [intOf]; omega
    · go_wp2
      go_ret
      refine ⟨ret_bool ?_, rfl⟩
      symm
      unfold anyB
      rw [List.any_eq_false]
      intro b hb
      rw [List.mem_iff_getElem] at hb
      obtain ⟨j, hj, rfl⟩ := hb
      have hj' : j < s.size := by simpa using hj
      have := unhide H j hj' (by omega)
      rw [ByteArray.getElem_eq_getElem_data] at this
      simpa using this

theorem anyB_marks (c : Int) : anyB { data := #[124, 42, 43, 63, 123, 125, 40, 41, 91, 93, 46, 92, 45, 94] } c = mayBeEscapedB c := by
  rw [Bool.eq_iff_iff]
  simp [anyB, mayBeEscapedB, isMarkB]
  omega

theorem marks_any (c : Int) (w : World) :
    Calls Try.prog 83 #[.int .u8 c, .string { data := #[124, 42, 43, 63, 123, 125, 40, 41, 91, 93, 46, 92, 45, 94] }] w fun e w' => e = .returned (.bool (mayBeEscapedB c)) ∧ w' = w := by
  rw [← anyB_marks]
  exact among_any c _ w (by decide)

set_option maxHeartbeats 400000 in
theorem dec_any (c : Int) (w : World) : Calls Try.prog 85 #[.int .u8 c] w fun e w' => e = .returned (.bool (decB c)) ∧ w' = w := by
  go_enter Try.func85, Try.ntmps85
  go_wp2
  all_goals
    go_ret
    exact ⟨ret_bool (by simp_all [decB]; try (intros; omega)), rfl⟩

set_option maxHeartbeats 400000 in
theorem hex_any (c : Int) (w : World) : Calls Try.prog 84 #[.int .u8 c] w fun e w' => e = .returned (.bool (hexB c)) ∧ w' = w := by
  go_enter Try.func84, Try.ntmps84
  go_wp2_with (go_at_call 85; refine (dec_any _ _).mono ?_; rintro e w' ⟨rfl, rfl⟩)
  all_goals
    go_ret
    exact ⟨ret_bool (by simp_all [hexB]; try (intros; omega)), rfl⟩

end Go.Proofs.Ytobfpgoepaeknaa
namespace Go.Proofs.Ytobfpgoepaeknaa
open Go.RowKit

def ScB (w : World) (b : Nat) (x : Sc) : Prop := w.heap[b]? = some (.cells #[.int .i64 x.mode, .int .i64 x.depth, .int .i64 x.back] 118 (0, 0))
def ScP (w w' : World) (b : Nat) (x : Sc) : Prop := w.grownBy w' (some b) ∧ ScB w' b x

section
variable {w w' : World} {b : Nat} {x : Sc}
theorem ScB.cells (h : ScB w b x) : w.cell? ⟨b, 0, none⟩ = some (.int .i64 x.mode) ∧ w.cell? ⟨b, 1, none⟩ = some (.int .i64 x.depth) ∧ w.cell? ⟨b, 2, none⟩ = some (.int .i64 x.back) := by
  unfold ScB at h
  simp [World.cell?, h]
theorem ScB.unfrozen (h : ScB w b x) : w.frozen? ⟨b, 0, none⟩ = false ∧ w.frozen? ⟨b, 1, none⟩ = false ∧ w.frozen? ⟨b, 2, none⟩ = false := by
  unfold ScB at h
  simp [World.frozen?, h]
theorem ScP.refl (h : ScB w b x) : ScP w w b x := ⟨grownBy_refl _ _, h⟩
theorem ScP.trans {w1 : World} {y : Sc} (h : ScP w w1 b x) (k : ScP w1 w' b y) : ScP w w' b y := ⟨grownBy_trans h.1 k.1, k.2⟩
theorem ScP.mode (h : ScP w w' b x) (m : Int) : ScP w (w'.setCell ⟨b, 0, none⟩ (.int .i64 m)) b ⟨m, x.depth, x.back⟩ := by
  refine ⟨grownBy_setCell h.1 _, ?_⟩
  have hr := h.2
  unfold ScB at hr ⊢
  simp only [World.setCell, Array.getElem?_modify, if_pos, hr]
  simp
theorem ScP.depth (h : ScP w w' b x) (m : Int) : ScP w (w'.setCell ⟨b, 1, none⟩ (.int .i64 m)) b ⟨x.mode, m, x.back⟩ := by
  refine ⟨grownBy_setCell h.1 _, ?_⟩
  have hr := h.2
  unfold ScB at hr ⊢
  simp only [World.setCell, Array.getElem?_modify, if_pos, hr]
  simp
theorem ScP.back (h : ScP w w' b x) (m : Int) : ScP w (w'.setCell ⟨b, 2, none⟩ (.int .i64 m)) b ⟨x.mode, x.depth, m⟩ := by
  refine ⟨grownBy_setCell h.1 _, ?_⟩
  have hr := h.2
  unfold ScB at hr ⊢
  simp only [World.setCell, Array.getElem?_modify, if_pos, hr]
  simp
end

set_option maxHeartbeats 2000000 in
theorem outside_any (w : World) (b : Nat) (x : Sc) (c : Int) (h : ScB w b x) (hd0 : -1 ≤ x.depth) (hd1 : x.depth ≤ 100) :
    Calls Try.prog 82 #[.pointer (some ⟨b, 0, none⟩), .int .u8 c] w fun e w' =>
      e = .returned (.bool (outsideS x c).1) ∧ ScP w w' b (outsideS x c).2 := by
  obtain ⟨k0, k1, k2⟩ := h.cells
  obtain ⟨f0, f1, f2⟩ := h.unfrozen
  by_cases c0 : (c == 124) = true
  · have e0 : outsideS x c = (true, ⟨0, x.depth, x.back⟩) := by simp only [outsideS, c0]; rfl
    rw [e0]
    clear e0
    go_enter Try.func82, Try.ntmps82
    go_wp2
    all_goals
      go_ret
      exact ⟨rfl, (ScP.refl h).mode 0⟩
  · have c0' : (c == 124) = false := by simpa using c0
    clear c0
    by_cases c1 : (c == 40) = true
    · have e0 : outsideS x c = (true, ⟨0, x.depth + 1, x.back⟩) := by simp only [outsideS, c0', c1]; rfl
      rw [e0]
      clear e0
      go_enter Try.func82, Try.ntmps82
      go_wp2
      all_goals
        go_ret
        exact ⟨rfl, ((ScP.refl h).mode 0).depth (x.depth + 1)⟩
    · have c1' : (c == 40) = false := by simpa using c1
      clear c1
      by_cases c2 : (c == 41) = true
      · have e0 : outsideS x c = (decide (0 ≤ x.depth - 1), ⟨1, x.depth - 1, x.back⟩) := by simp only [outsideS, c0', c1', c2]; rfl
        rw [e0]
        clear e0
        go_enter Try.func82, Try.ntmps82
        go_wp2
        all_goals
          go_ret
          exact ⟨ret_bool (by first | rfl | simp | (simp; omega)), ((ScP.refl h).mode 1).depth (x.depth - 1)⟩
      · have c2' : (c == 41) = false := by simpa using c2
        clear c2
        by_cases c3 : (c == 42) = true
        · have e0 : outsideS x c = (x.mode == 1, x) := by simp only [outsideS, c0', c1', c2', c3]; rfl
          rw [e0]
          clear e0
          go_enter Try.func82, Try.ntmps82
          go_wp2
          all_goals
            go_ret
            exact ⟨rfl, ScP.refl h⟩
        · have c3' : (c == 42) = false := by simpa using c3
          clear c3
          by_cases c4 : (c == 43) = true
          · have e0 : outsideS x c = (x.mode == 1, x) := by simp only [outsideS, c0', c1', c2', c3', c4]; rfl
            rw [e0]
            clear e0
            go_enter Try.func82, Try.ntmps82
            go_wp2
            all_goals
              go_ret
              exact ⟨rfl, ScP.refl h⟩
          · have c4' : (c == 43) = false := by simpa using c4
            clear c4
            by_cases c5 : (c == 63) = true
            · have e0 : outsideS x c = (x.mode == 1, x) := by simp only [outsideS, c0', c1', c2', c3', c4', c5]; rfl
              rw [e0]
              clear e0
              go_enter Try.func82, Try.ntmps82
              go_wp2
              all_goals
                go_ret
                exact ⟨rfl, ScP.refl h⟩
            · have c5' : (c == 63) = false := by simpa using c5
              clear c5
              by_cases c6 : (c == 123) = true
              · have e0 : outsideS x c = (x.mode == 1, ⟨4, x.depth, x.back⟩) := by simp only [outsideS, c0', c1', c2', c3', c4', c5', c6]; rfl
                rw [e0]
                clear e0
                go_enter Try.func82, Try.ntmps82
                go_wp2
                all_goals
                  go_ret
                  exact ⟨rfl, (ScP.refl h).mode 4⟩
              · have c6' : (c == 123) = false := by simpa using c6
                clear c6
                by_cases c7 : (c == 91) = true
                · have e0 : outsideS x c = (true, ⟨8, x.depth, x.back⟩) := by simp only [outsideS, c0', c1', c2', c3', c4', c5', c6', c7]; rfl
                  rw [e0]
                  clear e0
                  go_enter Try.func82, Try.ntmps82
                  go_wp2
                  all_goals
                    go_ret
                    exact ⟨rfl, (ScP.refl h).mode 8⟩
                · have c7' : (c == 91) = false := by simpa using c7
                  clear c7
                  by_cases c8 : (c == 92) = true
                  · have e0 : outsideS x c = (true, ⟨2, x.depth, 1⟩) := by simp only [outsideS, c0', c1', c2', c3', c4', c5', c6', c7', c8]; rfl
                    rw [e0]
                    clear e0
                    go_enter Try.func82, Try.ntmps82
                    go_wp2
                    all_goals
                      go_ret
                      exact ⟨rfl, ((ScP.refl h).mode 2).back 1⟩
                  · have c8' : (c == 92) = false := by simpa using c8
                    clear c8
                    by_cases c9 : (c == 125) = true
                    · have e0 : outsideS x c = (false, x) := by simp only [outsideS, c0', c1', c2', c3', c4', c5', c6', c7', c8', c9]; rfl
                      rw [e0]
                      clear e0
                      go_enter Try.func82, Try.ntmps82
                      go_wp2
                      all_goals
                        go_ret
                        exact ⟨rfl, ScP.refl h⟩
                    · have c9' : (c == 125) = false := by simpa using c9
                      clear c9
                      by_cases c10 : (c == 93) = true
                      · have e0 : outsideS x c = (false, x) := by simp only [outsideS, c0', c1', c2', c3', c4', c5', c6', c7', c8', c9', c10]; rfl
                        rw [e0]
                        clear e0
                        go_enter Try.func82, Try.ntmps82
                        go_wp2
                        all_goals
                          go_ret
                          exact ⟨rfl, ScP.refl h⟩
                      · have c10' : (c == 93) = false := by simpa using c10
                        clear c10
                        have e0 : outsideS x c = (printB c, ⟨1, x.depth, x.back⟩) := by simp only [outsideS, c0', c1', c2', c3', c4', c5', c6', c7', c8', c9', c10']; rfl
                        rw [e0]
                        clear e0
                        go_enter Try.func82, Try.ntmps82
                        go_wp2
                        all_goals
                          go_ret
                          exact ⟨ret_bool (by simp_all [printB]; try (intros; omega)), (ScP.refl h).mode 1⟩

end Go.Proofs.Ytobfpgoepaeknaa
