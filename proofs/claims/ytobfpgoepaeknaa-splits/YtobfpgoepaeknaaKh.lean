/-
  Cuts of a string: follows.
-/
import Derived.Test.YtobfpgoepaeknaaKg
namespace Go.Proofs.Ytobfpgoepaeknaa
open Go.RowKit
attribute [local go_sem ↓] Go.wp_at_zero Go.wp_at_succ

/-- A cut at some place from a on, before k. -/
def CutTo (A B : Lang) (s : List Nat) (a k : Nat) : Prop := ∃ i, a ≤ i ∧ i < k ∧ A (s.take i) ∧ B (s.drop i)
theorem CutTo.none (A B : Lang) (s : List Nat) (a : Nat) : ¬ CutTo A B s a a := by rintro ⟨i, h1, h2, _⟩; omega
theorem CutTo.step {A B : Lang} {s : List Nat} {a k : Nat} (h : a ≤ k) : CutTo A B s a (k + 1) ↔ CutTo A B s a k ∨ (A (s.take k) ∧ B (s.drop k)) := by
  constructor
  · rintro ⟨i, h1, h2, h3⟩
    by_cases hi : i = k
    · subst hi; exact Or.inr h3
    · exact Or.inl ⟨i, h1, by omega, h3⟩
  · rintro (⟨i, h1, h2, h3⟩ | h3)
    · exact ⟨i, h1, by omega, h3⟩
    · exact ⟨k, h, by omega, h3⟩
theorem ext_take (s : ByteArray) (k : Nat) : bytesN (s.extract 0 k) = (bytesN s).take k := by
  rw [bytesN_ext, List.extract_eq_take_drop]; simp
theorem ext_drop (s : ByteArray) (k : Nat) : bytesN (s.extract k s.size) = (bytesN s).drop k := by
  rw [bytesN_ext, List.extract_eq_take_drop, ← bytesN_len]
  rw [List.take_of_length_le (by simp)]

set_option maxHeartbeats 2000000 in
theorem follows_any (w : World) (p q s : ByteArray) (a : Nat) (x y : List Nat) (v u : Val) (hG : Gp x v) (hx : bytesN p = x) (hp : p.size ≤ 60) (hw : v.2 ≤ 12) (kG : Gp y u) (ky : bytesN q = y) (kp : q.size ≤ 60) (kw : u.2 ≤ 12) (hs : s.size ≤ 16) (ha : a ≤ s.size + 1) :
    Calls Try.prog 18 #[.string p, .string q, .string s, .int .i64 (a : Int)] w fun e w' => (∃ b, e = .returned (.tuple #[.bool b, .bool true]) ∧ (b = true ↔ CutTo v.1 u.1 (bytesN s) a (s.size + 1))) ∧ Below w.heap.size w w' := by
  have HP := hide (fun w s hs => match_text w p s x v hG hx hp hw hs)
  have HQ := hide (fun w s hs => match_text w q s y u kG ky kp kw hs)
  have hsI : (s.size : Int) ≤ 16 := by omega
  have haI : (a : Int) ≤ (s.size : Int) + 1 := by omega
  have HS := hide hs
  have HA := hide ha
  clear hG hx hp hw kG ky kp kw hs ha
  go_enter Try.func18, Try.ntmps18
  go_wp2
  go_loopw [10, 11] (fun bx ix wr => ∃ (k : Nat) (b : Bool), ix = .int .i64 (k : Int) ∧ bx = .bool b ∧ k ≤ s.size + 1 ∧ Hid (a ≤ k ∧ (b = true ↔ CutTo v.1 u.1 (bytesN s) a k) ∧ Below w.heap.size w wr)) (fun _ ix _ => s.size + 1 - (intOf ix).toNat)
  case atStart => exact ⟨a, false, rfl, rfl, unhide HA, Nat.le_refl _, ⟨fun h => Bool.noConfusion h, fun h => absurd h (CutTo.none _ _ _ _)⟩, Below.refl _ _⟩
  case round =>
    rename World => wr
    obtain ⟨k, b, rfl, rfl, hk, HH⟩ := hrel
    by_cases hlt : k ≤ s.size
    · have hlt' : (k : Int) ≤ (s.size : Int) := by omega
      have HCP := hide (unhide HP wr (s.extract 0 k) (by rw [size_ext hlt]; have := unhide HS; omega))
      have HCQ := hide (fun w => unhide HQ w (s.extract k s.size) (by rw [size_ext (Nat.le_refl _)]; have := unhide HS; omega))
      have HL := hide hlt
      clear hlt
      go_wp2_with fail
      refine (unhide HCP).mono ?_
      rintro e w2 ⟨⟨b1, rfl, h1⟩, hw2⟩
      have H1 := hide h1
      have HB2 : Hid (Below w.heap.size w w2) := (unhide HH).2.2.trans (hw2.mono (unhide HH).2.2.size)
      clear h1 hw2 HCP
      go_wp2_with fail
      refine (unhide HCQ w2).mono ?_
      rintro e w3 ⟨⟨b2, rfl, h2⟩, hw3⟩
      have H2 := hide h2
      have HB3 : Hid (Below w.heap.size w w3) := (unhide HB2).trans (hw3.mono (unhide HB2).size)
      clear h2 hw3 HCQ HB2
      have HN : Hid ((b || b1 && b2) = true ↔ CutTo v.1 u.1 (bytesN s) a (k + 1)) := by
        show _ ↔ _
        rw [CutTo.step (unhide HH).1, Bool.or_eq_true, Bool.and_eq_true, (unhide HH).2.1, unhide H1, unhide H2, ext_take, ext_drop]
      clear H1 H2
      cases b
      · cases b1
        · go_wp2
          go_roundw
          case rel => exact ⟨k + 1, _, by go_num, rfl, by have := unhide HL; omega, by have := (unhide HH).1; omega, unhide HN, unhide HB3⟩
          case measure => have := unhide HL; simp [intOf]; omega
        · cases b2
          · go_wp2
            go_roundw
            case rel => exact ⟨k + 1, _, by go_num, rfl, by have := unhide HL; omega, by have := (unhide HH).1; omega, unhide HN, unhide HB3⟩
            case measure => have := unhide HL; simp [intOf]; omega
          · go_wp2
            go_roundw
            case rel => exact ⟨k + 1, _, by go_num, rfl, by have := unhide HL; omega, by have := (unhide HH).1; omega, unhide HN, unhide HB3⟩
            case measure => have := unhide HL; simp [intOf]; omega
      · go_wp2
        go_roundw
        case rel => exact ⟨k + 1, true, by go_num, rfl, by have := unhide HL; omega, by have := (unhide HH).1; omega, unhide HN, unhide HB3⟩
        case measure => have := unhide HL; simp [intOf]; omega
    · have hk2 : k = s.size + 1 := by omega
      subst hk2
      go_wp2
      go_ret2
      exact ⟨⟨b, rfl, (unhide HH).2.1⟩, (unhide HH).2.2⟩

end Go.Proofs.Ytobfpgoepaeknaa
