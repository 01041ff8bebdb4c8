/-
  The law Loops, where times does its part.
-/
import Derived.Test.YtobfpgoepaeknaaT23
namespace Go.Proofs.Ytobfpgoepaeknaa
open Go.RowKit
attribute [local go_sem ↓] Go.wp_at_zero Go.wp_at_succ

/-- What times does. -/
def TimesDoes : Prop := ∀ (w : World) (p s : ByteArray) (m n : Nat) (x : List Nat) (v : Val), Ga x v → bytesN p = x → p.size ≤ 42 → m ≤ 9 → n ≤ 9 → 1 ≤ v.2 → v.2 * (n : Int) ≤ 12 → s.size ≤ 16 →
    Calls Try.prog 19 #[.string p, .int .i64 (m : Int), .int .i64 (n : Int), .string s] w fun e w' => e = .returned (.bool true) ∧ Below w.heap.size w w'

theorem nil_bytes (s : ByteArray) : s.toList.isEmpty = true ↔ bytesN s = [] := by
  rw [ByteArray.toList_eq, List.isEmpty_iff]
  unfold bytesN
  rw [List.map_eq_nil_iff]

theorem times_call (ht : TimesDoes) {P r : ByteArray} {z : List Nat} {u : Val} {x : Int} (hG : Ga z u) (hB : bytesN P = z) (hS : P.size ≤ 42) (hU : u.2 = x) (hR : r.size ≤ 16) (m n k : Int) (hk : 1 ≤ k) (h9 : k ≤ 10) (hx : 1 ≤ x) (hxk : x * (k - 1) ≤ 12) (w : World) :
    Calls Try.prog 19 #[.string P, .int .i64 (picked m 10), .int .i64 (picked n k), .string r] w fun e w' => e = .returned (.bool true) ∧ Below w.heap.size w w' := by
  obtain ⟨a, ha⟩ := Int.eq_ofNat_of_zero_le (picked_bd m (n := 10) (by omega)).1
  obtain ⟨b, hb⟩ := Int.eq_ofNat_of_zero_le (picked_bd n (n := k) (by omega)).1
  have ha' := (picked_bd m (n := 10) (by omega)).2
  have hb' := (picked_bd n (n := k) (by omega)).2
  rw [ha] at ha' ⊢
  rw [hb] at hb' ⊢
  have hle : x * (b : Int) ≤ x * (k - 1) := Int.mul_le_mul_of_nonneg_left (by omega) (by omega)
  exact ht w P r a b z u hG hB hS (by omega) (by omega) (by rw [hU]; exact hx) (by rw [hU]; omega) hR

set_option maxRecDepth 20000 in
set_option maxHeartbeats 2000000 in
theorem Loops_of (ht : TimesDoes) (raw s : ByteArray) (m n : Int) (w : World) (hraw : raw.size ≤ 9223372036854775807) (m1 : -9223372036854775808 ≤ m) (m2 : m ≤ 9223372036854775807) (n1 : -9223372036854775808 ≤ n) (n2 : n ≤ 9223372036854775807) :
    Calls Try.prog 6 #[.string raw, .string s, .int .i64 m, .int .i64 n] w fun e w' => e = .returned (.bool true) ∧ Below w.heap.size w w' := by
  have HMA := hide (made_any w raw 6 40 hraw (by omega) (by omega) (by omega))
  have HPM := hide (fun w => pick_any w m 10 m1 m2 (by omega) (by omega))
  have HPN := hide (fun w k h1 h2 => pick_any w n k n1 n2 h1 h2)
  have HTD := hide ht
  clear hraw m1 m2 n1 n2 ht
  go_enter Try.func6, Try.ntmps6
  go_wp2_with fail
  refine (unhide HMA).mono ?_
  rintro e w1 ⟨⟨p, x, u, rfl, p1, p2, p3, p4, p5⟩, hw1⟩
  have HB1 := hide hw1
  have HG : Hid (Ga (parT (bytesN p)) u) := Gp.par p1.1
  have HU := hide p2
  have p4' : x ≤ 6 := p4
  clear p1 p2 hw1 HMA p4
  go_wp2_with fail
  refine (short_any w1 s 16 (by omega)).mono ?_
  rintro e w' ⟨⟨r, rfl, hr, -⟩, rfl⟩
  have HR := hide hr
  have hrI : (r.size : Int) ≤ 16 := by omega
  clear hr
  obtain ⟨P, hP⟩ : ∃ P : ByteArray, ({ data := #[40] } : ByteArray) ++ p ++ { data := #[41] } = P := ⟨_, rfl⟩
  have HPB : Hid (bytesN P = parT (bytesN p)) := by show _ = _; rw [← hP, par_bytes]
  have hPs : P.size ≤ 42 := by rw [← hP, par_size]; omega
  have HPS := hide hPs
  have HU12 : Hid (u.2 ≤ 6) := by show _ ≤ _; rw [unhide HU]; omega
  have HST : Hid (Gp (parT (bytesN p) ++ [42]) (starV u)) := (Gi.of (unhide HG) Gs.star).b.p
  have HSB : Hid (bytesN (P ++ { data := #[42] }) = parT (bytesN p) ++ [42]) := by show _ = _; rw [bytesN_app, unhide HPB]; rfl
  have HSS : Hid ((P ++ { data := #[42] }).size ≤ 60) := by show _ ≤ _; rw [ByteArray.size_append]; show P.size + 1 ≤ 60; omega
  have HF : Hid (∀ (a : Nat) (z : Int) (w : World), (a : Int) = z → a ≤ r.size + 1 → Calls Try.prog 18 #[.string P, .string (P ++ { data := #[42] }), .string r, .int .i64 z] w fun e w' => (∃ b, e = .returned (.tuple #[.bool b, .bool true]) ∧ (b = true ↔ CutTo u.1 (starL u.1) (bytesN r) a (r.size + 1))) ∧ Below w.heap.size w w') := by
    intro a z w hz ha
    subst hz
    refine (follows_any w P (P ++ { data := #[42] }) r a (parT (bytesN p)) (parT (bytesN p) ++ [42]) u (starV u) (unhide HG).i.b.p (unhide HPB) (by have := unhide HPS; omega) (by have := unhide HU12; omega) (unhide HST) (unhide HSB) (unhide HSS) (by have := unhide HU12; show u.2 ≤ 12; omega) (unhide HR) ha).mono ?_
    rintro e w' ⟨⟨b, rfl, hb⟩, hw'⟩
    refine ⟨⟨b, rfl, ?_⟩, hw'⟩
    rw [hb]
    exact Iff.rfl
  go_wp2_with fail
  refine (match_text _ P r _ u (unhide HG).i.b.p (unhide HPB) (by have := unhide HPS; omega) (by have := unhide HU12; omega) (unhide HR)).mono ?_
  rintro e w3 ⟨⟨b1, rfl, hb1⟩, hw3⟩
  have HB3 := hide ((unhide HB1).trans (hw3.mono (unhide HB1).size))
  have H1 := hide hb1
  clear hb1 hw3 HB1
  go_wp2_with fail
  refine (unhide HF 1 1 _ rfl (by omega)).mono ?_
  rintro e w4 ⟨⟨b2, rfl, hb2⟩, hw4⟩
  have HB4 := hide ((unhide HB3).trans (hw4.mono (unhide HB3).size))
  have H2 : Hid (b2 = true ↔ CutTo u.1 (starL u.1) (bytesN r) 1 ((bytesN r).length + 1)) := by
    show _ ↔ _
    rw [hb2, bytesN_len]
  clear hb2 hw4 HB3
  go_wp2_with fail
  refine (unhide HF 0 0 _ rfl (by omega)).mono ?_
  rintro e w5 ⟨⟨b3, rfl, hb3⟩, hw5⟩
  have HB5 := hide ((unhide HB4).trans (hw5.mono (unhide HB4).size))
  have H3 : Hid (b3 = true ↔ plusL u.1 (bytesN r)) := by
    show _ ↔ _
    rw [hb3, ← bytesN_len, cut_cat0, plus_cut]
  clear hb3 hw5 HB4
  have HS1 := hide (fun w s y hs hy => says_suf w (p := P) (s := s) (y := y) (c := 42) (F := starV) (unhide HG) (unhide HPB) Gs.star (unhide HPS) (by have := unhide HU12; show u.2 ≤ 12; omega) hs hy)
  have HS2 := hide (fun w => says_suf w (p := P) (s := r) (y := b3) (c := 43) (F := plusV) (unhide HG) (unhide HPB) Gs.plus (unhide HPS) (by have := unhide HU12; show u.2 ≤ 12; omega) (unhide HR) (unhide H3))
  have HS3 := hide (fun w y hy => says_suf w (p := P) (s := r) (y := y) (c := 63) (F := optV) (unhide HG) (unhide HPB) Gs.opt (unhide HPS) (by have := unhide HU12; show u.2 ≤ 12; omega) (unhide HR) hy)
  by_cases he : bytesN r = []
  · obtain rfl : r = ⟨#[]⟩ := bytesN_inj (he.trans rfl)
    go_wp2_with fail
    refine (unhide HS1 _ _ true (unhide HR) (yes_iff ⟨0, rfl⟩)).mono ?_
    rintro e w6 ⟨rfl, hw6⟩
    have HB6 := hide ((unhide HB5).trans (hw6.mono (unhide HB5).size))
    clear hw6 HB5
    go_wp2_with fail
    refine (unhide HS2 _).mono ?_
    rintro e w7 ⟨rfl, hw7⟩
    have HB7 := hide ((unhide HB6).trans (hw7.mono (unhide HB6).size))
    clear hw7 HB6
    go_wp2_with fail
    refine (unhide HS3 _ true (yes_iff (Or.inl rfl))).mono ?_
    rintro e w8 ⟨rfl, hw8⟩
    have HB8 := hide ((unhide HB7).trans (hw8.mono (unhide HB7).size))
    clear hw8 HB7
    go_wp2_with fail
    refine (unhide HS1 _ ⟨#[]⟩ true (by decide) (yes_iff ⟨0, rfl⟩)).mono ?_
    rintro e w9 ⟨rfl, hw9⟩
    have HB9 := hide ((unhide HB8).trans (hw9.mono (unhide HB8).size))
    clear hw9 HB8 HS1 HS2 HS3
    have hx6 : x = 1 ∨ x = 2 ∨ x = 3 ∨ x = 4 ∨ x = 5 ∨ x = 6 := by omega
    rcases hx6 with rfl | rfl | rfl | rfl | rfl | rfl
    all_goals
      go_wp2_with fail
      refine (unhide HPM _).mono ?_
      rintro e w' ⟨rfl, rfl⟩
      go_wp2_with fail
      refine (unhide HPN _ _ (by omega) (by omega)).mono ?_
      rintro e w' ⟨rfl, rfl⟩
      go_wp2_with fail
      refine (times_call (unhide HTD) (unhide HG) (unhide HPB) (unhide HPS) (unhide HU) (unhide HR) m n _ (by decide) (by decide) (by decide) (by decide) _).mono ?_
      rintro e w10 ⟨rfl, hw10⟩
      go_wp2
      go_ret
      exact ⟨rfl, (unhide HB9).trans (hw10.mono (unhide HB9).size)⟩
  · have hre : r.toList.isEmpty = false := by
      cases hh : r.toList.isEmpty
      · rfl
      · exact absurd ((nil_bytes r).1 hh) he
    have HE := hide he
    clear he
    go_wp2_with fail
    refine (unhide HS1 _ _ b2 (unhide HR) (by rw [unhide H2]; exact ⟨fun h => (star_cut _ _).2 (Or.inr h), fun h => ((star_cut _ _).1 h).elim (fun h0 => absurd h0 (unhide HE)) id⟩)).mono ?_
    rintro e w6 ⟨rfl, hw6⟩
    have HB6 := hide ((unhide HB5).trans (hw6.mono (unhide HB5).size))
    clear hw6 HB5
    go_wp2_with fail
    refine (unhide HS2 _).mono ?_
    rintro e w7 ⟨rfl, hw7⟩
    have HB7 := hide ((unhide HB6).trans (hw7.mono (unhide HB6).size))
    clear hw7 HB6
    go_wp2_with fail
    refine (unhide HS3 _ b1 (by rw [unhide H1]; exact ⟨Or.inr, fun h => h.elim (fun h0 => absurd h0 (unhide HE)) id⟩)).mono ?_
    rintro e w8 ⟨rfl, hw8⟩
    have HB8 := hide ((unhide HB7).trans (hw8.mono (unhide HB7).size))
    clear hw8 HB7
    go_wp2_with fail
    refine (unhide HS1 _ ⟨#[]⟩ true (by decide) (yes_iff ⟨0, rfl⟩)).mono ?_
    rintro e w9 ⟨rfl, hw9⟩
    have HB9 := hide ((unhide HB8).trans (hw9.mono (unhide HB8).size))
    clear hw9 HB8 HS1 HS2 HS3
    have hx6 : x = 1 ∨ x = 2 ∨ x = 3 ∨ x = 4 ∨ x = 5 ∨ x = 6 := by omega
    rcases hx6 with rfl | rfl | rfl | rfl | rfl | rfl
    all_goals
      go_wp2_with fail
      refine (unhide HPM _).mono ?_
      rintro e w' ⟨rfl, rfl⟩
      go_wp2_with fail
      refine (unhide HPN _ _ (by omega) (by omega)).mono ?_
      rintro e w' ⟨rfl, rfl⟩
      go_wp2_with fail
      refine (times_call (unhide HTD) (unhide HG) (unhide HPB) (unhide HPS) (unhide HU) (unhide HR) m n _ (by decide) (by decide) (by decide) (by decide) _).mono ?_
      rintro e w10 ⟨rfl, hw10⟩
      go_wp2
      go_ret
      exact ⟨rfl, (unhide HB9).trans (hw10.mono (unhide HB9).size)⟩

end Go.Proofs.Ytobfpgoepaeknaa
