/-
  The look over a text: inside, goes.
  The look over a text: place.
-/
import Derived.Test.YtobfpgoepaeknaaT13
namespace Go.Proofs.Ytobfpgoepaeknaa
open Go.RowKit

set_option maxHeartbeats 2000000 in
theorem inside_yes (w : World) (b : Nat) (x : Sc) (c : Int) (h : ScB w b x) (hm : (x.mode == 11) = true) :
    Calls Try.prog 86 #[.pointer (some ⟨b, 0, none⟩), .int .u8 c] w fun e w' =>
      e = .returned (.bool (insideS x c).1) ∧ ScP w w' b (insideS x c).2 := by
  obtain ⟨k0, k1, k2⟩ := h.cells
  obtain ⟨f0, f1, f2⟩ := h.unfrozen
  have et : toS x = 12 := by simp only [toS, hm, if_true]
  by_cases c0 : (c == 94) = true
  · have e0 : insideS x c = (x.mode == 8, ⟨9, x.depth, x.back⟩) := by simp only [insideS, c0, et]; rfl
    rw [e0]
    clear e0 et
    go_enter Try.func86, Try.ntmps86
    go_wp2
    all_goals
      go_ret
      exact ⟨ret_bool (by first | rfl | simp_all), (ScP.refl h).mode 9⟩
  · have c0' : (c == 94) = false := by simpa using c0
    clear c0
    by_cases c1 : (c == 45) = true
    · have e0 : insideS x c = (x.mode == 10, ⟨11, x.depth, x.back⟩) := by simp only [insideS, c0', c1, et]; rfl
      rw [e0]
      clear e0 et
      go_enter Try.func86, Try.ntmps86
      go_wp2
      all_goals
        go_ret
        exact ⟨ret_bool (by first | rfl | simp_all), (ScP.refl h).mode 11⟩
    · have c1' : (c == 45) = false := by simpa using c1
      clear c1
      by_cases c2 : (c == 93) = true
      · have e0 : insideS x c = (x.mode == 10 || x.mode == 12, ⟨1, x.depth, x.back⟩) := by simp only [insideS, c0', c1', c2, et]; rfl
        rw [e0]
        clear e0 et
        go_enter Try.func86, Try.ntmps86
        go_wp2
        all_goals
          go_ret
          exact ⟨ret_bool (by simp_all), (ScP.refl h).mode 1⟩
      · have c2' : (c == 93) = false := by simpa using c2
        clear c2
        by_cases c3 : (c == 91) = true
        · have e0 : insideS x c = (false, x) := by simp only [insideS, c0', c1', c2', c3, et]; rfl
          rw [e0]
          clear e0 et
          go_enter Try.func86, Try.ntmps86
          go_wp2
          all_goals
            go_ret
            exact ⟨rfl, ScP.refl h⟩
        · have c3' : (c == 91) = false := by simpa using c3
          clear c3
          by_cases c4 : (c == 92) = true
          · have e0 : insideS x c = (true, ⟨2, x.depth, 12⟩) := by simp only [insideS, c0', c1', c2', c3', c4, et]; rfl
            rw [e0]
            clear e0 et
            go_enter Try.func86, Try.ntmps86
            go_wp2
            all_goals
              go_ret
              exact ⟨rfl, ((ScP.refl h).mode 2).back 12⟩
          · have c4' : (c == 92) = false := by simpa using c4
            clear c4
            have e0 : insideS x c = (printB c, ⟨12, x.depth, x.back⟩) := by simp only [insideS, c0', c1', c2', c3', c4', et]; rfl
            rw [e0]
            clear e0 et
            go_enter Try.func86, Try.ntmps86
            go_wp2
            all_goals
              go_ret
              exact ⟨ret_bool (by simp_all [printB]; try (intros; omega)), (ScP.refl h).mode 12⟩

set_option maxHeartbeats 2000000 in
theorem inside_no (w : World) (b : Nat) (x : Sc) (c : Int) (h : ScB w b x) (hm : (x.mode == 11) = false) :
    Calls Try.prog 86 #[.pointer (some ⟨b, 0, none⟩), .int .u8 c] w fun e w' =>
      e = .returned (.bool (insideS x c).1) ∧ ScP w w' b (insideS x c).2 := by
  obtain ⟨k0, k1, k2⟩ := h.cells
  obtain ⟨f0, f1, f2⟩ := h.unfrozen
  have et : toS x = 10 := by simp only [toS, hm]; rfl
  by_cases c0 : (c == 94) = true
  · have e0 : insideS x c = (x.mode == 8, ⟨9, x.depth, x.back⟩) := by simp only [insideS, c0, et]; rfl
    rw [e0]
    clear e0 et
    go_enter Try.func86, Try.ntmps86
    go_wp2
    all_goals
      go_ret
      exact ⟨ret_bool (by first | rfl | simp_all), (ScP.refl h).mode 9⟩
  · have c0' : (c == 94) = false := by simpa using c0
    clear c0
    by_cases c1 : (c == 45) = true
    · have e0 : insideS x c = (x.mode == 10, ⟨11, x.depth, x.back⟩) := by simp only [insideS, c0', c1, et]; rfl
      rw [e0]
      clear e0 et
      go_enter Try.func86, Try.ntmps86
      go_wp2
      all_goals
        go_ret
        exact ⟨ret_bool (by first | rfl | simp_all), (ScP.refl h).mode 11⟩
    · have c1' : (c == 45) = false := by simpa using c1
      clear c1
      by_cases c2 : (c == 93) = true
      · have e0 : insideS x c = (x.mode == 10 || x.mode == 12, ⟨1, x.depth, x.back⟩) := by simp only [insideS, c0', c1', c2, et]; rfl
        rw [e0]
        clear e0 et
        go_enter Try.func86, Try.ntmps86
        go_wp2
        all_goals
          go_ret
          exact ⟨ret_bool (by simp_all), (ScP.refl h).mode 1⟩
      · have c2' : (c == 93) = false := by simpa using c2
        clear c2
        by_cases c3 : (c == 91) = true
        · have e0 : insideS x c = (false, x) := by simp only [insideS, c0', c1', c2', c3, et]; rfl
          rw [e0]
          clear e0 et
          go_enter Try.func86, Try.ntmps86
          go_wp2
          all_goals
            go_ret
            exact ⟨rfl, ScP.refl h⟩
        · have c3' : (c == 91) = false := by simpa using c3
          clear c3
          by_cases c4 : (c == 92) = true
          · have e0 : insideS x c = (true, ⟨2, x.depth, 10⟩) := by simp only [insideS, c0', c1', c2', c3', c4, et]; rfl
            rw [e0]
            clear e0 et
            go_enter Try.func86, Try.ntmps86
            go_wp2
            all_goals
              go_ret
              exact ⟨rfl, ((ScP.refl h).mode 2).back 10⟩
          · have c4' : (c == 92) = false := by simpa using c4
            clear c4
            have e0 : insideS x c = (printB c, ⟨10, x.depth, x.back⟩) := by simp only [insideS, c0', c1', c2', c3', c4', et]; rfl
            rw [e0]
            clear e0 et
            go_enter Try.func86, Try.ntmps86
            go_wp2
            all_goals
              go_ret
              exact ⟨ret_bool (by simp_all [printB]; try (intros; omega)), (ScP.refl h).mode 10⟩

theorem inside_any (w : World) (b : Nat) (x : Sc) (c : Int) (h : ScB w b x) :
    Calls Try.prog 86 #[.pointer (some ⟨b, 0, none⟩), .int .u8 c] w fun e w' =>
      e = .returned (.bool (insideS x c).1) ∧ ScP w w' b (insideS x c).2 := by
  by_cases hm : (x.mode == 11) = true
  · exact inside_yes w b x c h hm
  · exact inside_no w b x c h (by simpa using hm)

set_option maxHeartbeats 2000000 in
theorem goes_any (w : World) (b : Nat) (x : Sc) (c : Int) (hSc : ScB w b x) (hd0 : -1 ≤ x.depth) (hd1 : x.depth ≤ 100) (_hm0 : 0 ≤ x.mode) (_hm1 : x.mode ≤ 12) :
    Calls Try.prog 65 #[.pointer (some ⟨b, 0, none⟩), .int .u8 c] w fun e w' =>
      e = .returned (.bool (goesS x c).1) ∧ ScP w w' b (goesS x c).2 := by
  obtain ⟨k0, k1, k2⟩ := hSc.cells
  obtain ⟨f0, f1, f2⟩ := hSc.unfrozen
  have HO := hide (outside_any w b x c hSc hd0 hd1)
  have HI := hide (inside_any w b x c hSc)
  by_cases c0 : (x.mode == 0) = true
  · have e0 : goesS x c = outsideS x c := by simp only [goesS, c0]; rfl
    rw [e0]
    clear e0
    go_enter Try.func65, Try.ntmps65
    go_wp2_with (go_at_call 82; refine (unhide HO).mono ?_; rintro e w1 ⟨rfl, hw1⟩)
    go_ret
    exact ⟨rfl, hw1⟩
  · have c0' : (x.mode == 0) = false := by simpa using c0
    clear c0
    by_cases c1 : (x.mode == 1) = true
    · have e0 : goesS x c = outsideS x c := by simp only [goesS, c0', c1]; rfl
      rw [e0]
      clear e0
      go_enter Try.func65, Try.ntmps65
      go_wp2_with (go_at_call 82; refine (unhide HO).mono ?_; rintro e w1 ⟨rfl, hw1⟩)
      go_ret
      exact ⟨rfl, hw1⟩
    · have c1' : (x.mode == 1) = false := by simpa using c1
      clear c1
      by_cases c2 : (x.mode == 2) = true
      · by_cases hb : mayBeEscapedB c = true
        · have e0 : goesS x c = (true, ⟨x.back, x.depth, x.back⟩) := by simp only [goesS, c0', c1', c2, hb]; rfl
          rw [e0]
          clear e0
          go_enter Try.func65, Try.ntmps65
          go_wp2_with (first | (go_at_call 83; refine (marks_any _ _).mono ?_; rintro e w1 ⟨rfl, rfl⟩) | (go_at_call 84; refine (hex_any _ _).mono ?_; rintro e w1 ⟨rfl, rfl⟩))
          go_ret
          exact ⟨rfl, ((ScP.refl hSc).mode 3).mode x.back⟩
        · have hb' : mayBeEscapedB c = false := by simpa using hb
          clear hb
          have e0 : goesS x c = (hexB c, ⟨3, x.depth, x.back⟩) := by simp only [goesS, c0', c1', c2, hb']; rfl
          rw [e0]
          clear e0
          go_enter Try.func65, Try.ntmps65
          go_wp2_with (first | (go_at_call 83; refine (marks_any _ _).mono ?_; rintro e w1 ⟨rfl, rfl⟩) | (go_at_call 84; refine (hex_any _ _).mono ?_; rintro e w1 ⟨rfl, rfl⟩))
          go_ret
          exact ⟨rfl, (ScP.refl hSc).mode 3⟩
      · have c2' : (x.mode == 2) = false := by simpa using c2
        clear c2
        by_cases c3 : (x.mode == 3) = true
        · have e0 : goesS x c = (hexB c, ⟨x.back, x.depth, x.back⟩) := by simp only [goesS, c0', c1', c2', c3]; rfl
          rw [e0]
          clear e0
          go_enter Try.func65, Try.ntmps65
          go_wp2_with (go_at_call 84; refine (hex_any _ _).mono ?_; rintro e w1 ⟨rfl, rfl⟩)
          go_ret
          exact ⟨rfl, (ScP.refl hSc).mode x.back⟩
        · have c3' : (x.mode == 3) = false := by simpa using c3
          clear c3
          by_cases c4 : (x.mode == 4) = true
          · have e0 : goesS x c = (decB c, ⟨x.mode + 1, x.depth, x.back⟩) := by simp only [goesS, c0', c1', c2', c3', c4]; rfl
            rw [e0]
            clear e0
            go_enter Try.func65, Try.ntmps65
            go_wp2_with (go_at_call 85; refine (dec_any _ _).mono ?_; rintro e w1 ⟨rfl, rfl⟩)
            go_ret
            exact ⟨rfl, (ScP.refl hSc).mode (x.mode + 1)⟩
          · have c4' : (x.mode == 4) = false := by simpa using c4
            clear c4
            by_cases c5 : (x.mode == 6) = true
            · have e0 : goesS x c = (decB c, ⟨x.mode + 1, x.depth, x.back⟩) := by simp only [goesS, c0', c1', c2', c3', c4', c5]; rfl
              rw [e0]
              clear e0
              go_enter Try.func65, Try.ntmps65
              go_wp2_with (go_at_call 85; refine (dec_any _ _).mono ?_; rintro e w1 ⟨rfl, rfl⟩)
              go_ret
              exact ⟨rfl, (ScP.refl hSc).mode (x.mode + 1)⟩
            · have c5' : (x.mode == 6) = false := by simpa using c5
              clear c5
              by_cases c6 : (x.mode == 5) = true
              · have e0 : goesS x c = (c == 44, ⟨6, x.depth, x.back⟩) := by simp only [goesS, c0', c1', c2', c3', c4', c5', c6]; rfl
                rw [e0]
                clear e0
                go_enter Try.func65, Try.ntmps65
                go_wp2
                go_ret
                exact ⟨rfl, (ScP.refl hSc).mode 6⟩
              · have c6' : (x.mode == 5) = false := by simpa using c6
                clear c6
                by_cases c7 : (x.mode == 7) = true
                · have e0 : goesS x c = (c == 125, ⟨1, x.depth, x.back⟩) := by simp only [goesS, c0', c1', c2', c3', c4', c5', c6', c7]; rfl
                  rw [e0]
                  clear e0
                  go_enter Try.func65, Try.ntmps65
                  go_wp2
                  go_ret
                  exact ⟨rfl, (ScP.refl hSc).mode 1⟩
                · have c7' : (x.mode == 7) = false := by simpa using c7
                  clear c7
                  have e0 : goesS x c = insideS x c := by simp only [goesS, c0', c1', c2', c3', c4', c5', c6', c7']; rfl
                  rw [e0]
                  clear e0
                  go_enter Try.func65, Try.ntmps65
                  go_wp2_with (go_at_call 86; refine (unhide HI).mono ?_; rintro e w1 ⟨rfl, hw1⟩)
                  go_ret
                  exact ⟨rfl, hw1⟩

end Go.Proofs.Ytobfpgoepaeknaa
namespace Go.Proofs.Ytobfpgoepaeknaa
open Go.RowKit

set_option maxHeartbeats 400000 in
theorem place_any (w : World) (t : ByteArray) (ht : t.size ≤ 60) :
    Calls Try.prog 45 #[.string t] w fun e w' => e = .returned (.int .i64 (placeS t)) ∧ Below w.heap.size w w' := by
  have ht' : (t.size : Int) ≤ 60 := by omega
  have S0 : ScB (w.alloc (Obj.cells #[.int .i64 0, .int .i64 0, .int .i64 0] 118)) w.heap.size ⟨0, 0, 0⟩ := heap_alloc_new w _
  have HS := hide (ScP.refl S0)
  have HW : Hid (Below w.heap.size w (w.alloc (Obj.cells #[.int .i64 0, .int .i64 0, .int .i64 0] 118))) := (Below.refl _ _).alloc (Nat.le_refl _) _
  clear S0
  go_enter Try.func45, Try.ntmps45
  go_wp2
  go_loopw [4] (fun i wr => ∃ (k : Nat) (x : Sc), i = .int .i64 k ∧ k ≤ t.size ∧ Hid (ScOk k x ∧ scanS t (t.size - k) k x = placeS t ∧ ScB wr w.heap.size x ∧ Below w.heap.size w wr)) (fun i _ => t.size - (intOf i).toNat)
  case atStart => exact ⟨0, ⟨0, 0, 0⟩, rfl, Nat.zero_le _, ⟨by decide, by decide, by decide, by decide, by decide, by decide⟩, rfl, (unhide HS).2, unhide HW⟩
  case round =>
    rename_i wr
    obtain ⟨k, x, rfl, hk, H⟩ := hrel
    obtain ⟨hok, hsc, hb, hbel⟩ := unhide H
    obtain ⟨k0, k1, k2⟩ := hb.cells
    by_cases hlt : k < t.size
    · have HG := hide (goes_any wr w.heap.size x (t[k].toNat : Int) hb (by have := hok.2.2.2.2.1; omega) (by have := hok.2.2.2.2.2; omega) hok.1 hok.2.1)
      obtain ⟨m, hm⟩ : ∃ m, t.size - k = m + 1 := ⟨t.size - k - 1, by omega⟩
      have hbe := byteAt_eq hlt
      by_cases hg : (goesS x (t[k].toNat : Int)).1 = true
      · have hn : scanS t (t.size - (k + 1)) (k + 1) (goesS x (t[k].toNat : Int)).2 = placeS t := by
          rw [← hsc, hm, scanS, hbe, if_pos hg, show t.size - (k + 1) = m from by omega]
        have HN := hide (And.intro (goesS_ok hok hg) hn)
        have HB := hide hbel
        have HGG := hide hg
        clear hok hsc hb hbel hn hbe hm k0 k1 k2 H
        generalize goesS x (t[k].toNat : Int) = r at *
        obtain ⟨r1, r2⟩ := r
        simp only at hg
        subst hg
        go_wp2_with (go_at_call 65; refine (unhide HG).mono ?_; rintro e w1 ⟨rfl, hw1⟩)
        go_roundw
        case rel => exact ⟨k + 1, r2, by go_num, by omega, (unhide HN).1, (unhide HN).2, hw1.2, (unhide HB).grown hw1.1 (unhide HB).size (fun k' hk' => by simp at hk'; omega)⟩
        case measure => simp [intOf]; omega
      · have hg' : (goesS x (t[k].toNat : Int)).1 = false := by simpa using hg
        have hn : placeS t = (k : Int) := by
          rw [← hsc, hm, scanS, hbe, if_neg hg]
        have HN := hide hn
        have HB := hide hbel
        clear hok hsc hb hbel hn hbe hm k0 k1 k2 H hg
        generalize goesS x (t[k].toNat : Int) = r at *
        obtain ⟨r1, r2⟩ := r
        simp only at hg'
        subst hg'
        go_wp2_with (go_at_call 65; refine (unhide HG).mono ?_; rintro e w1 ⟨rfl, hw1⟩)
        go_ret
        exact ⟨ret_int (unhide HN).symm, (unhide HB).grown hw1.1 (unhide HB).size (fun k' hk' => by simp at hk'; omega)⟩
    · have hk2 : t.size - k = 0 := by omega
      rw [hk2, scanS] at hsc
      have HSC := hide hsc
      have HB := hide hbel
      clear hsc hbel hb hok H hk2
      obtain ⟨md, dp, bk⟩ := x
      simp only at k0 k1 k2 HSC
      by_cases hd : 0 < dp
      · have HF : Hid (placeS t = (t.size : Int)) := by have := unhide HSC; rw [if_pos (by simp [hd])] at this; exact this.symm
        clear HSC
        go_wp2
        go_ret
        exact ⟨ret_int (unhide HF).symm, unhide HB⟩
      · by_cases hm : 1 < md
        · have HF : Hid (placeS t = (t.size : Int)) := by have := unhide HSC; rw [if_pos (by simp [hm])] at this; exact this.symm
          clear HSC
          go_wp2
          go_ret
          exact ⟨ret_int (unhide HF).symm, unhide HB⟩
        · have HF : Hid (placeS t = -1) := by have := unhide HSC; rw [if_neg (by simp; omega)] at this; exact this.symm
          clear HSC
          go_wp2
          go_ret
          exact ⟨ret_int (unhide HF).symm, unhide HB⟩

end Go.Proofs.Ytobfpgoepaeknaa
