/-
  Escapes that are put together: escape, escaped; at.
-/
import Derived.Test.YtobfpgoepaeknaaT22
namespace Go.Proofs.Ytobfpgoepaeknaa
open Go.RowKit
attribute [local go_sem ↓] Go.wp_at_zero Go.wp_at_succ

set_option maxHeartbeats 400000 in
theorem escape_any (w : World) (b : Nat) (hb : b < 256) :
    Calls Try.prog 15 #[.int .i64 (b : Int)] w fun e w' => (∃ q : ByteArray, e = .returned (.string q) ∧ bytesN q = escN b) ∧ Below w.heap.size w w' := by
  have hbI : (b : Int) < 256 := by omega
  obtain ⟨k1, hk1⟩ : ∃ k1 : Nat, k1 = b / 16 := ⟨_, rfl⟩
  obtain ⟨k2, hk2⟩ : ∃ k2 : Nat, k2 = b % 16 := ⟨_, rfl⟩
  have e1 : (b : Int) / 16 = (k1 : Int) := by omega
  have e2 : (b : Int) % 16 = (k2 : Int) := by omega
  have l1 : (k1 : Int) < 16 := by omega
  have l2 : (k2 : Int) < 16 := by omega
  have HQ : Hid (bytesN (({ data := #[92] } : ByteArray) ++ digitsB.extract k1 (k1 + 1) ++ digitsB.extract k2 (k2 + 1)) = escN b) := by
    show _ = _
    rw [bytesN_app, bytesN_app, digits_at k1 (by omega), digits_at k2 (by omega), hk1, hk2]; rfl
  clear hk1 hk2 hb
  go_enter Try.func15, Try.ntmps15
  go_wp2
  go_quiet (fail)
  go_wp2
  go_ret
  exact ⟨⟨_, rfl, by exact unhide HQ⟩, below_drewN (Below.refl _ _) _⟩

theorem escAll_snoc (s : List Nat) (b : Nat) : escAll (s ++ [b]) = escAll s ++ escN b := by simp [escAll]
theorem take_snoc_nat {s : List Nat} {k : Nat} (h : k < s.length) : s.take (k + 1) = s.take k ++ [s[k]] := by
  rw [List.take_add_one, List.getElem?_eq_getElem h]; rfl

set_option maxHeartbeats 400000 in
theorem escaped_any (w : World) (s : ByteArray) (hs : s.size ≤ 60) :
    Calls Try.prog 12 #[.string s] w fun e w' => (∃ q : ByteArray, e = .returned (.string q) ∧ bytesN q = escAll (bytesN s)) ∧ Below w.heap.size w w' := by
  have hsI : (s.size : Int) ≤ 60 := by omega
  clear hs
  go_enter Try.func12, Try.ntmps12
  go_wp2
  go_loopw [3, 4] (fun px ix wr => ∃ (k : Nat) (q : ByteArray), ix = .int .i64 (k : Int) ∧ px = .string q ∧ k ≤ s.size ∧ Hid (bytesN q = escAll ((bytesN s).take k) ∧ Below w.heap.size w wr)) (fun _ ix _ => s.size - (intOf ix).toNat)
  case atStart => exact ⟨0, ⟨#[]⟩, rfl, rfl, Nat.zero_le _, rfl, Below.refl _ _⟩
  case round =>
    rename World => wr
    obtain ⟨k, q, rfl, rfl, hk, HH⟩ := hrel
    by_cases hlt : k < s.size
    · have hlt' : (k : Int) < (s.size : Int) := by omega
      have hbt : s[k].toNat < 256 := s[k].toNat_lt
      have HC := hide (fun w => escape_any w s[k].toNat hbt)
      have hl2 : k < (bytesN s).length := by rw [bytesN_len]; exact hlt
      have HSN : Hid ((bytesN s).take (k + 1) = (bytesN s).take k ++ [s[k].toNat]) := by
        show _ = _
        rw [take_snoc_nat hl2, bytesN_at s k hlt hl2]
      have hbI : (s[k].toNat : Int) < 256 := by omega
      clear hbt hl2
      go_wp2_with fail
      refine (unhide HC wr).mono ?_
      rintro e w2 ⟨⟨r, rfl, hr⟩, hw2⟩
      have HR := hide hr
      have HW := hide hw2
      clear hr hw2 hbI
      have hz : q.size + r.size ≤ 9223372036854775807 := by
        have e1 := bytesN_len q
        have e2 := bytesN_len r
        rw [(unhide HH).1, escAll_len, List.length_take] at e1
        rw [unhide HR] at e2
        simp [escN] at e2
        omega
      go_wp2
      go_roundw
      case rel =>
        refine ⟨k + 1, q ++ r, by go_num, rfl, by omega, ?_, (unhide HH).2.trans ((unhide HW).mono (unhide HH).2.size)⟩
        rw [bytesN_app, (unhide HH).1, unhide HR, unhide HSN, escAll_snoc]
      case measure => simp [intOf]; omega
    · have hk2 : k = s.size := by omega
      subst hk2
      go_wp2
      go_ret
      refine ⟨⟨q, rfl, ?_⟩, (unhide HH).2⟩
      rw [(unhide HH).1, ← bytesN_len, List.take_length]

set_option maxHeartbeats 400000 in
theorem at_any (w : World) (s : ByteArray) (hs : s.size = 1) (h0 : 0 < s.size) :
    Calls Try.prog 16 #[.string s, .int .i64 0] w fun e w' => e = .returned (.int .i64 (s[0].toNat : Int)) ∧ w' = w := by
  have hsI : (s.size : Int) = 1 := by omega
  have hbt : s[0].toNat < 256 := s[0].toNat_lt
  have hbI : (s[0].toNat : Int) < 256 := by omega
  go_enter Try.func16, Try.ntmps16
  go_wp2
  go_ret
  exact ⟨rfl, rfl⟩

end Go.Proofs.Ytobfpgoepaeknaa
