/-
  Cuts of a string: follows.
  The law Splits.
  The law Splits.
-/
import Derived.Test.YtibhlnhmejlhbaaKg
import Derived.Test.YtibhlnhmejlhbaaKd
namespace Go.Proofs.Ytibhlnhmejlhbaa
open Go.RowKit
attribute [local go_sem ↓] Go.wp_at_zero Go.wp_at_succ

/-- A cut at some place from a on, before k. -/
def CutTo (A B : Lang) (s : List Nat) (a k : Nat) : Prop := ∃ i, a ≤ i ∧ i < k ∧ A (s.take i) ∧ B (s.drop i)
theorem CutTo.none (A B : Lang) (s : List Nat) (a : Nat) : ¬ CutTo A B s a a := by rintro ⟨i, h1, h2, _⟩; omega
theorem CutTo.step {A B : Lang} {s : List Nat} {a k : Nat} (h : a ≤ k) : CutTo A B s a (k + 1) ↔ CutTo A B s a k ∨ (A (s.take k) ∧ B (s.drop k)) := by
  constructor
  · rintro ⟨i, h1, h2, h3⟩
    by_cases hi : i = k
    · subst hi; exact Or.inr h3
    · exact Or.inl ⟨i, h1, by omega, h3⟩
  · rintro (⟨i, h1, h2, h3⟩ | h3)
    · exact ⟨i, h1, by omega, h3⟩
    · exact ⟨k, h, by omega, h3⟩
theorem ext_take (s : ByteArray) (k : Nat) : bytesN (s.extract 0 k) = (bytesN s).take k := by
  rw [bytesN_ext, List.extract_eq_take_drop]; simp
theorem ext_drop (s : ByteArray) (k : Nat) : bytesN (s.extract k s.size) = (bytesN s).drop k := by
  rw [bytesN_ext, List.extract_eq_take_drop, ← bytesN_len]
  rw [List.take_of_length_le (by simp)]

set_option maxHeartbeats 2000000 in
theorem follows_any (w : World) (p q s : ByteArray) (a : Nat) (x y : List Nat) (v u : Val) (hG : Gp x v) (hx : bytesN p = x) (hp : p.size ≤ 60) (hw : v.2 ≤ 12) (kG : Gp y u) (ky : bytesN q = y) (kp : q.size ≤ 60) (kw : u.2 ≤ 12) (hs : s.size ≤ 16) (ha : a ≤ s.size + 1) :
    Calls Try.prog 19 #[.string p, .string q, .string s, .int .i64 (a : Int)] w fun e w' => (∃ b, e = .returned (.tuple #[.bool b, .bool true]) ∧ (b = true ↔ CutTo v.1 u.1 (bytesN s) a (s.size + 1))) ∧ Below w.heap.size w w' := by
  have HP := hide (fun w s hs => match_text w p s x v hG hx hp hw hs)
  have HQ := hide (fun w s hs => match_text w q s y u kG ky kp kw hs)
  have hsI : (s.size : Int) ≤ 16 := by omega
  have haI : (a : Int) ≤ (s.size : Int) + 1 := by omega
  have HS := hide hs
  have HA := hide ha
  clear hG hx hp hw kG ky kp kw hs ha
  go_enter Try.func19, Try.ntmps19
  go_wp2
  go_loopw [10, 11] (fun bx ix wr => ∃ (k : Nat) (b : Bool), ix = .int .i64 (k : Int) ∧ bx = .bool b ∧ k ≤ s.size + 1 ∧ Hid (a ≤ k ∧ (b = true ↔ CutTo v.1 u.1 (bytesN s) a k) ∧ Below w.heap.size w wr)) (fun _ ix _ => s.size + 1 - (intOf ix).toNat)
  case atStart => exact ⟨a, false, rfl, rfl, unhide HA, Nat.le_refl _, ⟨fun h => Bool.noConfusion h, fun h => absurd h (CutTo.none _ _ _ _)⟩, Below.refl _ _⟩
  case round =>
    rename World => wr
    obtain ⟨k, b, rfl, rfl, hk, HH⟩ := hrel
    by_cases hlt : k ≤ s.size
    · have hlt' : (k : Int) ≤ (s.size : Int) := by omega
      have HCP := hide (unhide HP wr (s.extract 0 k) (by rw [size_ext hlt]; have := unhide HS; omega))
      have HCQ := hide (fun w => unhide HQ w (s.extract k s.size) (by rw [size_ext (Nat.le_refl _)]; have := unhide HS; omega))
      have HL := hide hlt
      clear hlt
      go_wp2_with fail
      refine (unhide HCP).mono ?_
      rintro e w2 ⟨⟨b1, rfl, h1⟩, hw2⟩
      have H1 := hide h1
      have HB2 : Hid (Below w.heap.size w w2) := (unhide HH).2.2.trans (hw2.mono (unhide HH).2.2.size)
      clear h1 hw2 HCP
      go_wp2_with fail
      refine (unhide HCQ w2).mono ?_
      rintro e w3 ⟨⟨b2, rfl, h2⟩, hw3⟩
      have H2 := hide h2
      have HB3 : Hid (Below w.heap.size w w3) := (unhide HB2).trans (hw3.mono (unhide HB2).size)
      clear h2 hw3 HCQ HB2
      have HN : Hid ((b || b1 && b2) = true ↔ CutTo v.1 u.1 (bytesN s) a (k + 1)) := by
        show _ ↔ _
        rw [CutTo.step (unhide HH).1, Bool.or_eq_true, Bool.and_eq_true, (unhide HH).2.1, unhide H1, unhide H2, ext_take, ext_drop]
      clear H1 H2
      cases b
      · cases b1
        · go_wp2
          go_roundw
          case rel => exact ⟨k + 1, _, by go_num, rfl, by have := unhide HL; omega, by have := (unhide HH).1; omega, unhide HN, unhide HB3⟩
          case measure => have := unhide HL; simp [intOf]; omega
        · cases b2
          · go_wp2
            go_roundw
            case rel => exact ⟨k + 1, _, by go_num, rfl, by have := unhide HL; omega, by have := (unhide HH).1; omega, unhide HN, unhide HB3⟩
            case measure => have := unhide HL; simp [intOf]; omega
          · go_wp2
            go_roundw
            case rel => exact ⟨k + 1, _, by go_num, rfl, by have := unhide HL; omega, by have := (unhide HH).1; omega, unhide HN, unhide HB3⟩
            case measure => have := unhide HL; simp [intOf]; omega
      · go_wp2
        go_roundw
        case rel => exact ⟨k + 1, true, by go_num, rfl, by have := unhide HL; omega, by have := (unhide HH).1; omega, unhide HN, unhide HB3⟩
        case measure => have := unhide HL; simp [intOf]; omega
    · have hk2 : k = s.size + 1 := by omega
      subst hk2
      go_wp2
      go_ret2
      exact ⟨⟨b, rfl, (unhide HH).2.1⟩, (unhide HH).2.2⟩

end Go.Proofs.Ytibhlnhmejlhbaa
namespace Go.Proofs.Ytibhlnhmejlhbaa
open Go.RowKit
attribute [local go_sem ↓] Go.wp_at_zero Go.wp_at_succ

theorem cut_cat (A B : Lang) (s : List Nat) : CutTo A B s 0 (s.length + 1) ↔ catL A B s := by
  constructor
  · rintro ⟨i, _, _, h1, h2⟩; exact ⟨_, _, (List.take_append_drop i s).symm, h1, h2⟩
  · rintro ⟨u, v, rfl, h1, h2⟩
    exact ⟨u.length, Nat.zero_le _, by simp; omega, by rw [List.take_left']; exact h1; rfl, by rw [List.drop_left']; exact h2; rfl⟩
theorem strL_nil : strL [] = epsL := rfl
theorem cat_str (A : Lang) (t u : List Nat) : catL A (strL u) (t ++ u) ↔ A t := by
  constructor
  · rintro ⟨a, b, h1, h2, rfl⟩
    rw [List.append_cancel_right h1]; exact h2
  · intro h; exact ⟨t, u, rfl, h, rfl⟩
theorem str_cat (A : Lang) (t u : List Nat) : catL (strL u) A (u ++ t) ↔ A t := by
  constructor
  · rintro ⟨a, b, h1, rfl, h2⟩
    rw [List.append_cancel_left h1]; exact h2
  · intro h; exact ⟨u, t, rfl, rfl, h⟩
theorem eps_cat (A : Lang) : catL epsL A = A := by
  refine Lang.ext fun w => ⟨?_, ?_⟩
  · rintro ⟨a, b, rfl, rfl, h⟩; exact h
  · intro h; exact ⟨[], w, rfl, rfl, h⟩
/-- An escaped string before a branch. -/
theorem Gb.strCat {y : List Nat} {u : Val} (k : Gb y u) (hy : Lead y) : ∀ s : List Nat, (∀ c ∈ s, c < 256) → ∃ X, Gb (escAll s ++ y) X ∧ Lead (escAll s ++ y) ∧ X.1 = catL (strL s) u.1 ∧ X.2 = (s.length : Int) + u.2
  | [], _ => ⟨u, k, hy, by rw [strL_nil, eps_cat], by simp⟩
  | b :: s, h => by
    obtain ⟨X, g1, g2, g3, g4⟩ := Gb.strCat k hy s (fun c hc => h c (List.mem_cons_of_mem _ hc))
    have e : escAll (b :: s) ++ y = escN b ++ (escAll s ++ y) := by rw [← List.append_assoc]; rfl
    refine ⟨catV (Re.set (addR noSet (b : Int) (b : Int))).val X, ?_, ?_, ?_, ?_⟩
    · rw [e]; exact (Ga.esc (h b (by simp))).i.cat g1 g2
    · exact ⟨92, _, rfl, by decide⟩
    · show catL (setL (addR noSet (b : Int) (b : Int))) X.1 = _
      rw [g3, ← catL_assoc, strL_cons]
    · show (1 : Int) + X.2 = _
      rw [g4]; simp; omega
/-- An escaped string behind a bracket. -/
theorem par_str {x : List Nat} {v : Val} (hG : Gp x v) (s : List Nat) (h : ∀ c ∈ s, c < 256) : ∃ X, Gp (parT x ++ escAll s) X ∧ X.1 = catL v.1 (strL s) ∧ X.2 = v.2 + (s.length : Int) := by
  cases s with
  | nil =>
    refine ⟨v, ?_, by rw [strL_nil, catL_eps], by simp⟩
    have : parT x ++ escAll [] = parT x := List.append_nil _
    rw [this]; exact (Gp.par hG).i.b.p
  | cons b s =>
    have g := Gb.escs b s h
    exact ⟨_, ((Gp.par hG).i.cat g (escAll_lead b s)).p, rfl, by show v.2 + ((s.length : Int) + 1) = _; simp⟩

section
variable (w : World) {p q h s : ByteArray} {x z : List Nat} {v u : Val} {y : Bool}

theorem says_seq (hG : Gp x v) (hx : bytesN p = x) (kG : Gp z u) (kx : bytesN q = z) (hp : p.size ≤ 26) (hq : q.size ≤ 26) (hw : v.2 + u.2 ≤ 12) (hs : s.size ≤ 16) (hy : y = true ↔ catL v.1 u.1 (bytesN s)) :
    Calls Try.prog 14 #[.string (({ data := #[40] } : ByteArray) ++ p ++ { data := #[41, 40] } ++ q ++ { data := #[41] }), .string s, .bool y] w fun e w' => e = .returned (.bool true) ∧ Below w.heap.size w w' := by
  have hb : bytesN (({ data := #[40] } : ByteArray) ++ p ++ { data := #[41, 40] } ++ q ++ { data := #[41] }) = parT x ++ parT z := by
    rw [bytesN_app, bytesN_app, bytesN_app, bytesN_app, hx, kx]; simp [parT, bytesN]
  refine says_any w _ s y _ _ ((Gp.par hG).i.cat (Gp.par kG).i.b (parT_lead z)).p hb ?_ hw hs hy
  rw [← bytesN_len, hb]
  have h1 := bytesN_len p
  have h2 := bytesN_len q
  rw [hx] at h1; rw [kx] at h2
  simp [parT]; omega
theorem says_or (hG : Gp x v) (hx : bytesN p = x) (kG : Gp z u) (kx : bytesN q = z) (hp : p.size ≤ 26) (hq : q.size ≤ 26) (hw : v.2 + u.2 ≤ 12) (hs : s.size ≤ 16) (hy : y = true ↔ (v.1 (bytesN s) ∨ u.1 (bytesN s))) :
    Calls Try.prog 14 #[.string (({ data := #[40] } : ByteArray) ++ p ++ { data := #[41, 124, 40] } ++ q ++ { data := #[41] }), .string s, .bool y] w fun e w' => e = .returned (.bool true) ∧ Below w.heap.size w w' := by
  have hb : bytesN (({ data := #[40] } : ByteArray) ++ p ++ { data := #[41, 124, 40] } ++ q ++ { data := #[41] }) = parT x ++ 124 :: parT z := by
    rw [bytesN_app, bytesN_app, bytesN_app, bytesN_app, hx, kx]; simp [parT, bytesN]
  refine says_any w _ s y _ (altV v u) ((Gp.par hG).i.b.alt (Gp.par kG).i.b.p) hb ?_ hw hs hy
  rw [← bytesN_len, hb]
  have h1 := bytesN_len p
  have h2 := bytesN_len q
  rw [hx] at h1; rw [kx] at h2
  simp [parT]; omega
theorem says_bar {r : List Nat} (hG : Gq x v) (hx : bytesN p = x) (hh : bytesN h = escAll r) (hr : ∀ c ∈ r, c < 256) (hl : r.length ≤ 4) (hp : p.size ≤ 26) (hw : v.2 ≤ 6) (hs : s.size ≤ 16) (hy : y = true ↔ (v.1 (bytesN s) ∨ bytesN s = r)) :
    Calls Try.prog 14 #[.string (p ++ { data := #[124] } ++ h), .string s, .bool y] w fun e w' => e = .returned (.bool true) ∧ Below w.heap.size w w' := by
  have hb : bytesN (p ++ { data := #[124] } ++ h) = x ++ 124 :: escAll r := by
    rw [bytesN_app, bytesN_app, hx, hh]; simp [bytesN]
  refine says_any w _ s y _ (altV v (strV r)) (hG.alt (Gb.str r hr)).1 hb ?_ ?_ hs hy
  · rw [← bytesN_len, hb]
    have h1 := bytesN_len p
    rw [hx] at h1
    simp [escAll_len]; omega
  · show v.2 + (strV r).2 ≤ 12
    unfold strV; simp only; split <;> omega
theorem says_behind {t m : ByteArray} (hG : Gp x v) (hx : bytesN p = x) (hh : bytesN h = escAll (bytesN m)) (hl : m.size ≤ 4) (hp : p.size ≤ 26) (hw : v.2 ≤ 6) (hs : t.size + m.size ≤ 16) (hy : y = true ↔ v.1 (bytesN t)) :
    Calls Try.prog 14 #[.string (({ data := #[40] } : ByteArray) ++ p ++ { data := #[41] } ++ h), .string (t ++ m), .bool y] w fun e w' => e = .returned (.bool true) ∧ Below w.heap.size w w' := by
  obtain ⟨X, g1, g2, g3⟩ := par_str hG (bytesN m) (bytesN_lt m)
  have hb : bytesN (({ data := #[40] } : ByteArray) ++ p ++ { data := #[41] } ++ h) = parT x ++ escAll (bytesN m) := by
    rw [bytesN_app, par_bytes, hx, hh]
  have hml := bytesN_len m
  refine says_any w _ _ y _ X g1 hb ?_ (by rw [g3]; omega) (by rw [ByteArray.size_append]; exact hs) (by rw [bytesN_app, g2, cat_str]; exact hy)
  rw [← bytesN_len, hb]
  have h1 := bytesN_len p
  rw [hx] at h1
  simp [parT, escAll_len]; omega
theorem says_before {t m : ByteArray} (hG : Gp x v) (hx : bytesN p = x) (hh : bytesN h = escAll (bytesN m)) (hl : m.size ≤ 4) (hp : p.size ≤ 26) (hw : v.2 ≤ 6) (hs : m.size + t.size ≤ 16) (hy : y = true ↔ v.1 (bytesN t)) :
    Calls Try.prog 14 #[.string (h ++ { data := #[40] } ++ p ++ { data := #[41] }), .string (m ++ t), .bool y] w fun e w' => e = .returned (.bool true) ∧ Below w.heap.size w w' := by
  obtain ⟨X, g1, g2, g3, g4⟩ := Gb.strCat (Gp.par hG).i.b (parT_lead x) (bytesN m) (bytesN_lt m)
  have hb : bytesN (h ++ { data := #[40] } ++ p ++ { data := #[41] }) = escAll (bytesN m) ++ parT x := by
    rw [bytesN_app, bytesN_app, bytesN_app, hx, hh]; simp [parT, bytesN]
  have hml := bytesN_len m
  refine says_any w _ _ y _ X g1.p hb ?_ (by rw [g4]; omega) (by rw [ByteArray.size_append]; exact hs) (by rw [bytesN_app, g3, str_cat]; exact hy)
  rw [← bytesN_len, hb]
  have h1 := bytesN_len p
  rw [hx] at h1
  simp [parT, escAll_len]; omega
end

end Go.Proofs.Ytibhlnhmejlhbaa
namespace Go.Proofs.Ytibhlnhmejlhbaa
open Go.RowKit
attribute [local go_sem ↓] Go.wp_at_zero Go.wp_at_succ

set_option maxRecDepth 20000 in
set_option maxHeartbeats 1000000 in
theorem Splits_of (raw other s : ByteArray) (w : World) (h1 : raw.size ≤ 9223372036854775807) (h2 : other.size ≤ 9223372036854775807) :
    Calls Try.prog 6 #[.string raw, .string other, .string s] w fun e w' => e = .returned (.bool true) ∧ Below w.heap.size w w' := by
  have HM1 := hide (made_any w raw 6 26 h1 (by omega) (by omega) (by omega))
  have HM2 := hide (fun w => made_any w other 6 26 h2 (by omega) (by omega) (by omega))
  clear h1 h2
  go_enter Try.func6, Try.ntmps6
  go_wp2_with fail
  refine (unhide HM1).mono ?_
  rintro e w1 ⟨⟨p, xp, vp, rfl, p1, p2, p3, p4, p5⟩, hw1⟩
  have HB1 := hide hw1
  have HP := hide (And.intro p1 (And.intro (show vp.2 ≤ 6 by omega) (show p.size ≤ 26 from p5)))
  clear p1 p2 hw1 HM1
  go_wp2_with fail
  refine (unhide HM2 w1).mono ?_
  rintro e w2 ⟨⟨q, xq, vq, rfl, q1, q2, q3, q4, q5⟩, hw2⟩
  have HB2 := hide ((unhide HB1).trans (hw2.mono (unhide HB1).size))
  have HQ := hide (And.intro q1 (And.intro (show vq.2 ≤ 6 by omega) (show q.size ≤ 26 from q5)))
  clear q1 q2 hw2 HM2 HB1
  go_wp2_with fail
  refine (short_any w2 s 16 (by omega)).mono ?_
  rintro e w' ⟨⟨r, rfl, hr, -⟩, rfl⟩
  go_wp2_with fail
  refine (short_any _ r 4 (by omega)).mono ?_
  rintro e w' ⟨⟨m, rfl, hm, hmb⟩, rfl⟩
  have hmI : (m.size : Int) ≤ 4 := by omega
  have hrI : (r.size : Int) ≤ 16 := by omega
  obtain ⟨n, hn⟩ : ∃ n : Nat, n = 16 - m.size := ⟨_, rfl⟩
  have hnI : (16 : Int) - (m.size : Int) = (n : Int) := by omega
  have HN := hide hn
  clear hn
  have HR := hide hr
  have HM := hide hm
  have HMB := hide hmb
  clear hr hm hmb
  go_wp2_with fail
  refine (short_any _ r n (by have := unhide HN; omega)).mono ?_
  rintro e w' ⟨⟨t, rfl, ht, -⟩, rfl⟩
  have htI : (t.size : Int) ≤ 16 := by have := unhide HN; omega
  have HT := hide (show t.size + m.size ≤ 16 by have := unhide HM; have := unhide HN; omega)
  clear ht
  go_wp2_with fail
  refine (match_text _ p r _ vp (unhide HP).1.1 rfl (by have := (unhide HP).2.2; omega) (by have := (unhide HP).2.1; omega) (unhide HR)).mono ?_
  rintro e w3 ⟨⟨b1, rfl, hb1⟩, hw3⟩
  have HB3 := hide ((unhide HB2).trans (hw3.mono (unhide HB2).size))
  have H1 := hide hb1
  clear hb1 hw3 HB2
  go_wp2_with fail
  refine (match_text _ q r _ vq (unhide HQ).1.1 rfl (by have := (unhide HQ).2.2; omega) (by have := (unhide HQ).2.1; omega) (unhide HR)).mono ?_
  rintro e w4 ⟨⟨b2, rfl, hb2⟩, hw4⟩
  have HB4 := hide ((unhide HB3).trans (hw4.mono (unhide HB3).size))
  have H2 := hide hb2
  clear hb2 hw4 HB3
  go_wp2_with fail
  refine (match_text _ p t _ vp (unhide HP).1.1 rfl (by have := (unhide HP).2.2; omega) (by have := (unhide HP).2.1; omega) (by omega)).mono ?_
  rintro e w5 ⟨⟨b3, rfl, hb3⟩, hw5⟩
  have HB5 := hide ((unhide HB4).trans (hw5.mono (unhide HB4).size))
  have H3 := hide hb3
  clear hb3 hw5 HB4
  go_wp2_with fail
  refine (follows_any _ p q r 0 _ _ vp vq (unhide HP).1.1 rfl (by have := (unhide HP).2.2; omega) (by have := (unhide HP).2.1; omega) (unhide HQ).1.1 rfl (by have := (unhide HQ).2.2; omega) (by have := (unhide HQ).2.1; omega) (unhide HR) (Nat.zero_le _)).mono ?_
  rintro e w6 ⟨⟨b4, rfl, hb4⟩, hw6⟩
  have HB6 := hide ((unhide HB5).trans (hw6.mono (unhide HB5).size))
  have H4 : Hid (b4 = true ↔ catL vp.1 vq.1 (bytesN r)) := by
    show _ ↔ _
    rw [hb4, ← bytesN_len, cut_cat]
  clear hb4 hw6 HB5
  go_wp2_with fail
  refine (escaped_any _ m (by have := unhide HM; omega)).mono ?_
  rintro e w7 ⟨⟨h, rfl, hh⟩, hw7⟩
  have HB7 := hide ((unhide HB6).trans (hw7.mono (unhide HB6).size))
  have HH := hide hh
  have hhs : h.size ≤ 12 := by rw [← bytesN_len, hh, escAll_len, bytesN_len]; have := unhide HM; omega
  clear hh hw7 HB6
  have HL4 : Hid ((bytesN m).length ≤ 4) := by show _ ≤ _; rw [bytesN_len]; exact unhide HM
  have HS1 := hide (fun w => says_seq w (p := p) (q := q) (s := r) (y := b4) (unhide HP).1.1 rfl (unhide HQ).1.1 rfl (unhide HP).2.2 (unhide HQ).2.2 (by have := (unhide HP).2.1; have := (unhide HQ).2.1; omega) (unhide HR) (unhide H4))
  have HS2 := hide (fun w y hy => says_or w (p := p) (q := q) (s := r) (y := y) (unhide HP).1.1 rfl (unhide HQ).1.1 rfl (unhide HP).2.2 (unhide HQ).2.2 (by have := (unhide HP).2.1; have := (unhide HQ).2.1; omega) (unhide HR) hy)
  have HS3 := hide (fun w s y hs hy => says_bar w (p := p) (h := h) (s := s) (y := y) (unhide HP).1 rfl (unhide HH) (bytesN_lt m) (unhide HL4) (unhide HP).2.2 (unhide HP).2.1 hs hy)
  have HS4 := hide (fun w => says_behind w (p := p) (h := h) (t := t) (m := m) (y := b3) (unhide HP).1.1 rfl (unhide HH) (unhide HM) (unhide HP).2.2 (unhide HP).2.1 (unhide HT) (unhide H3))
  have HS5 := hide (fun w => says_before w (p := p) (h := h) (t := t) (m := m) (y := b3) (unhide HP).1.1 rfl (unhide HH) (unhide HM) (unhide HP).2.2 (unhide HP).2.1 (by have := unhide HT; omega) (unhide H3))
  go_wp2_with fail
  refine (unhide HS1 _).mono ?_
  rintro e w8 ⟨rfl, hw8⟩
  have HB8 := hide ((unhide HB7).trans (hw8.mono (unhide HB7).size))
  clear hw8 HB7 HS1
  cases b1
  all_goals
    go_wp2_with fail
    refine (unhide HS2 _ _ (by first | exact yes_iff (Or.inl ((unhide H1).1 rfl)) | (rw [← unhide H1, ← unhide H2]; simp))).mono ?_
    rintro e w9 ⟨rfl, hw9⟩
    have HB9 := hide ((unhide HB8).trans (hw9.mono (unhide HB8).size))
    clear hw9 HB8
    go_wp2_with fail
    refine (unhide HS3 _ _ _ (unhide HR) (by first | (rw [← unhide H1, same_bytes]; constructor; (intro hx; exact Or.inr hx.symm); (rintro (hx | hx); cases hx; exact hx.symm)) | (rw [← unhide H1]; simp))).mono ?_
    rintro e w10 ⟨rfl, hw10⟩
    have HB10 := hide ((unhide HB9).trans (hw10.mono (unhide HB9).size))
    clear hw10 HB9
    go_wp2_with fail
    refine (unhide HS3 _ m true (by have := unhide HM; omega) (yes_iff (Or.inr rfl))).mono ?_
    rintro e w11 ⟨rfl, hw11⟩
    have HB11 := hide ((unhide HB10).trans (hw11.mono (unhide HB10).size))
    clear hw11 HB10
    go_wp2_with fail
    refine (unhide HS4 _).mono ?_
    rintro e w12 ⟨rfl, hw12⟩
    have HB12 := hide ((unhide HB11).trans (hw12.mono (unhide HB11).size))
    clear hw12 HB11
    go_wp2_with fail
    refine (unhide HS5 _).mono ?_
    rintro e w13 ⟨rfl, hw13⟩
    go_wp2
    go_ret
    exact ⟨rfl, (unhide HB12).trans (hw13.mono (unhide HB12).size)⟩

end Go.Proofs.Ytibhlnhmejlhbaa
