/-
  The law Splits.
-/
import Derived.Test.YtobfpgoepaeknaaKi
namespace Go.Proofs.Ytobfpgoepaeknaa
open Go.RowKit
attribute [local go_sem ↓] Go.wp_at_zero Go.wp_at_succ

set_option maxRecDepth 20000 in
set_option maxHeartbeats 1000000 in
theorem Splits_of (raw other s : ByteArray) (w : World) (h1 : raw.size ≤ 9223372036854775807) (h2 : other.size ≤ 9223372036854775807) :
    Calls Try.prog 5 #[.string raw, .string other, .string s] w fun e w' => e = .returned (.bool true) ∧ Below w.heap.size w w' := by
  have HM1 := hide (made_any w raw 6 26 h1 (by omega) (by omega) (by omega))
  have HM2 := hide (fun w => made_any w other 6 26 h2 (by omega) (by omega) (by omega))
  clear h1 h2
  go_enter Try.func5, Try.ntmps5
  go_wp2_with fail
  refine (unhide HM1).mono ?_
  rintro e w1 ⟨⟨p, xp, vp, rfl, p1, p2, p3, p4, p5⟩, hw1⟩
  have HB1 := hide hw1
  have HP := hide (And.intro p1 (And.intro (show vp.2 ≤ 6 by omega) (show p.size ≤ 26 from p5)))
  clear p1 p2 hw1 HM1
  go_wp2_with fail
  refine (unhide HM2 w1).mono ?_
  rintro e w2 ⟨⟨q, xq, vq, rfl, q1, q2, q3, q4, q5⟩, hw2⟩
  have HB2 := hide ((unhide HB1).trans (hw2.mono (unhide HB1).size))
  have HQ := hide (And.intro q1 (And.intro (show vq.2 ≤ 6 by omega) (show q.size ≤ 26 from q5)))
  clear q1 q2 hw2 HM2 HB1
  go_wp2_with fail
  refine (short_any w2 s 16 (by omega)).mono ?_
  rintro e w' ⟨⟨r, rfl, hr, -⟩, rfl⟩
  go_wp2_with fail
  refine (short_any _ r 4 (by omega)).mono ?_
  rintro e w' ⟨⟨m, rfl, hm, hmb⟩, rfl⟩
  have hmI : (m.size : Int) ≤ 4 := by omega
  have hrI : (r.size : Int) ≤ 16 := by omega
  obtain ⟨n, hn⟩ : ∃ n : Nat, n = 16 - m.size := ⟨_, rfl⟩
  have hnI : (16 : Int) - (m.size : Int) = (n : Int) := by omega
  have HN := hide hn
  clear hn
  have HR := hide hr
  have HM := hide hm
  have HMB := hide hmb
  clear hr hm hmb
  go_wp2_with fail
  refine (short_any _ r n (by have := unhide HN; omega)).mono ?_
  rintro e w' ⟨⟨t, rfl, ht, -⟩, rfl⟩
  have htI : (t.size : Int) ≤ 16 := by have := unhide HN; omega
  have HT := hide (show t.size + m.size ≤ 16 by have := unhide HM; have := unhide HN; omega)
  clear ht
  go_wp2_with fail
  refine (match_text _ p r _ vp (unhide HP).1.1 rfl (by have := (unhide HP).2.2; omega) (by have := (unhide HP).2.1; omega) (unhide HR)).mono ?_
  rintro e w3 ⟨⟨b1, rfl, hb1⟩, hw3⟩
  have HB3 := hide ((unhide HB2).trans (hw3.mono (unhide HB2).size))
  have H1 := hide hb1
  clear hb1 hw3 HB2
  go_wp2_with fail
  refine (match_text _ q r _ vq (unhide HQ).1.1 rfl (by have := (unhide HQ).2.2; omega) (by have := (unhide HQ).2.1; omega) (unhide HR)).mono ?_
  rintro e w4 ⟨⟨b2, rfl, hb2⟩, hw4⟩
  have HB4 := hide ((unhide HB3).trans (hw4.mono (unhide HB3).size))
  have H2 := hide hb2
  clear hb2 hw4 HB3
  go_wp2_with fail
  refine (match_text _ p t _ vp (unhide HP).1.1 rfl (by have := (unhide HP).2.2; omega) (by have := (unhide HP).2.1; omega) (by omega)).mono ?_
  rintro e w5 ⟨⟨b3, rfl, hb3⟩, hw5⟩
  have HB5 := hide ((unhide HB4).trans (hw5.mono (unhide HB4).size))
  have H3 := hide hb3
  clear hb3 hw5 HB4
  go_wp2_with fail
  refine (follows_any _ p q r 0 _ _ vp vq (unhide HP).1.1 rfl (by have := (unhide HP).2.2; omega) (by have := (unhide HP).2.1; omega) (unhide HQ).1.1 rfl (by have := (unhide HQ).2.2; omega) (by have := (unhide HQ).2.1; omega) (unhide HR) (Nat.zero_le _)).mono ?_
  rintro e w6 ⟨⟨b4, rfl, hb4⟩, hw6⟩
  have HB6 := hide ((unhide HB5).trans (hw6.mono (unhide HB5).size))
  have H4 : Hid (b4 = true ↔ catL vp.1 vq.1 (bytesN r)) := by
    show _ ↔ _
    rw [hb4, ← bytesN_len, cut_cat]
  clear hb4 hw6 HB5
  go_wp2_with fail
  refine (escaped_any _ m (by have := unhide HM; omega)).mono ?_
  rintro e w7 ⟨⟨h, rfl, hh⟩, hw7⟩
  have HB7 := hide ((unhide HB6).trans (hw7.mono (unhide HB6).size))
  have HH := hide hh
  have hhs : h.size ≤ 12 := by rw [← bytesN_len, hh, escAll_len, bytesN_len]; have := unhide HM; omega
  clear hh hw7 HB6
  have HL4 : Hid ((bytesN m).length ≤ 4) := by show _ ≤ _; rw [bytesN_len]; exact unhide HM
  have HS1 := hide (fun w => says_seq w (p := p) (q := q) (s := r) (y := b4) (unhide HP).1.1 rfl (unhide HQ).1.1 rfl (unhide HP).2.2 (unhide HQ).2.2 (by have := (unhide HP).2.1; have := (unhide HQ).2.1; omega) (unhide HR) (unhide H4))
  have HS2 := hide (fun w y hy => says_or w (p := p) (q := q) (s := r) (y := y) (unhide HP).1.1 rfl (unhide HQ).1.1 rfl (unhide HP).2.2 (unhide HQ).2.2 (by have := (unhide HP).2.1; have := (unhide HQ).2.1; omega) (unhide HR) hy)
  have HS3 := hide (fun w s y hs hy => says_bar w (p := p) (h := h) (s := s) (y := y) (unhide HP).1 rfl (unhide HH) (bytesN_lt m) (unhide HL4) (unhide HP).2.2 (unhide HP).2.1 hs hy)
  have HS4 := hide (fun w => says_behind w (p := p) (h := h) (t := t) (m := m) (y := b3) (unhide HP).1.1 rfl (unhide HH) (unhide HM) (unhide HP).2.2 (unhide HP).2.1 (unhide HT) (unhide H3))
  have HS5 := hide (fun w => says_before w (p := p) (h := h) (t := t) (m := m) (y := b3) (unhide HP).1.1 rfl (unhide HH) (unhide HM) (unhide HP).2.2 (unhide HP).2.1 (by have := unhide HT; omega) (unhide H3))
  go_wp2_with fail
  refine (unhide HS1 _).mono ?_
  rintro e w8 ⟨rfl, hw8⟩
  have HB8 := hide ((unhide HB7).trans (hw8.mono (unhide HB7).size))
  clear hw8 HB7 HS1
  cases b1
  all_goals
    go_wp2_with fail
    refine (unhide HS2 _ _ (by first | exact yes_iff (Or.inl ((unhide H1).1 rfl)) | (rw [← unhide H1, ← unhide H2]; simp))).mono ?_
    rintro e w9 ⟨rfl, hw9⟩
    have HB9 := hide ((unhide HB8).trans (hw9.mono (unhide HB8).size))
    clear hw9 HB8
    go_wp2_with fail
    refine (unhide HS3 _ _ _ (unhide HR) (by first | (rw [← unhide H1, same_bytes]; constructor; (intro hx; exact Or.inr hx.symm); (rintro (hx | hx); cases hx; exact hx.symm)) | (rw [← unhide H1]; simp))).mono ?_
    rintro e w10 ⟨rfl, hw10⟩
    have HB10 := hide ((unhide HB9).trans (hw10.mono (unhide HB9).size))
    clear hw10 HB9
    go_wp2_with fail
    refine (unhide HS3 _ m true (by have := unhide HM; omega) (yes_iff (Or.inr rfl))).mono ?_
    rintro e w11 ⟨rfl, hw11⟩
    have HB11 := hide ((unhide HB10).trans (hw11.mono (unhide HB10).size))
    clear hw11 HB10
    go_wp2_with fail
    refine (unhide HS4 _).mono ?_
    rintro e w12 ⟨rfl, hw12⟩
    have HB12 := hide ((unhide HB11).trans (hw12.mono (unhide HB11).size))
    clear hw12 HB11
    go_wp2_with fail
    refine (unhide HS5 _).mono ?_
    rintro e w13 ⟨rfl, hw13⟩
    go_wp2
    go_ret
    exact ⟨rfl, (unhide HB12).trans (hw13.mono (unhide HB12).size)⟩

end Go.Proofs.Ytobfpgoepaeknaa
