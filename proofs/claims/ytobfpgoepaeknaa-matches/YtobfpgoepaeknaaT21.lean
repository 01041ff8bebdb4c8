/-
  The document's answer: Match.
  The law Matches.
-/
import Derived.Test.YtobfpgoepaeknaaSd
import Derived.Test.YtobfpgoepaeknaaT20
import Derived.Test.YtobfpgoepaeknaaT12
import Derived.Test.YtobfpgoepaeknaaT00
namespace Go.Proofs.Ytobfpgoepaeknaa
open Go.RowKit
attribute [local go_sem ↓] Go.wp_at_zero Go.wp_at_succ

set_option maxHeartbeats 400000 in
theorem RMatch_long (w : World) (p s : ByteArray) (h : 60 < p.size ∨ 16 < s.size) :
    Calls Try.prog 9 #[.string p, .string s] w fun e w' => e = .returned (.tuple #[.bool false, .int .i64 1]) ∧ Below w.heap.size w w' := by
  by_cases hp : 60 < p.size
  · have hp' : (60 : Int) < (p.size : Int) := by omega
    clear h hp
    go_enter Try.func9, Try.ntmps9
    go_wp2
    go_ret2
    exact ⟨rfl, Below.refl _ _⟩
  · have hp' : (p.size : Int) ≤ 60 := by omega
    have hs' : (16 : Int) < (s.size : Int) := by omega
    clear h hp
    go_enter Try.func9, Try.ntmps9
    go_wp2
    go_ret2
    exact ⟨rfl, Below.refl _ _⟩

set_option maxHeartbeats 1000000 in
theorem RMatch_any (w : World) (p s : ByteArray) (y : St) (n : Nat) (rs : List Rn) (k : Int) (S : Re) (hp : p.size ≤ 60) (hs : s.size ≤ 16) (h : RefOk p y)
    (hm : (readErr p y).1 = 0 → rfF n 0 p 0 0 [] = some (rs, k) ∧ rs.length ≤ 1000 ∧ Dr rs S k) :
    Calls Try.prog 9 #[.string p, .string s] w fun e w' => ∃ b, e = .returned (.tuple #[.bool b, .int .i64 (readErr p y).1]) ∧ Below w.heap.size w w' ∧ ((readErr p y).1 ≠ 0 → b = false) ∧
      ((readErr p y).1 = 0 → (b = true ↔ S.L (bytesN s))) := by
  have HR := hide (RefPattern_any w p y hp h)
  have hpI : (p.size : Int) ≤ 60 := by omega
  have hsI : (s.size : Int) ≤ 16 := by omega
  by_cases h0 : (readErr p y).1 = 0
  · obtain ⟨m1, m2, m3⟩ := hm h0
    have HT := hide (fun w1 => tree_any p w1 n (rs, k) hp m2 m1)
    have HX := hide (fun w2 b hb => spans_any (b := b) m2 hs S k m3 w2 hb)
    have HBT := hide (bit_test (spansN (bytesN s) S 0) s.size (low_top (low_spans (by rw [bytesN_len]; exact hs) S) 0))
    have HAL := hide (spansN_all (bytesN s) S)
    generalize readErr p y = re at *
    clear h hm m1 m2 m3 hp hs
    obtain ⟨e1, e2⟩ := re
    have h0' : e1 = 0 := h0
    subst h0'
    go_enter Try.func9, Try.ntmps9
    go_wp2_with fail
    refine (unhide HR).mono ?_
    rintro e w1 ⟨rfl, hw1⟩
    have HB1 := hide hw1
    clear hw1 HR
    go_wp2_with fail
    refine (unhide HT w1).mono ?_
    rintro e w2 ⟨rfl, hw2, hr2⟩
    have HB2 := hide ((unhide HB1).trans (hw2.mono (unhide HB1).size))
    have HC := hide (unhide HX w2 _ hr2)
    clear hw2 hr2 HT HX
    go_wp2_with fail
    refine (unhide HC).mono ?_
    rintro e w3 ⟨rfl, hw3⟩
    have HB3 := hide ((unhide HB2).trans (hw3.mono (unhide HB2).size))
    clear hw3 HC
    have hG : SpB (w3.alloc (Obj.cells zeroSpan 64)) w3.heap.size (fun _ => 0) := SpB.zero (heap_alloc_new _ _)
    have HG := hide hG
    have hc := (hG.row (spansN (bytesN s) S)).cell (k := 0) (by omega)
    unfold zeroSpan at hc
    clear hG
    generalize hx : spansN (bytesN s) S 0 = x at *
    have HX0 := hide hx
    clear hx
    have hbt := unhide HBT
    go_wp2_with (refine wpList_store_row0 rfl 64 _ _ rfl rfl w3.heap.size (spanA (spansN (bytesN s) S)) rfl rfl 64 _ (unhide HG) (by rw [size_spanA]; exact info63) (by rw [size_spanA, size_spanA]) (spanA_one _) ?_)
    go_ret2
    refine ⟨x.testBit s.size, ?_, below_setRow ((unhide HB3).alloc (unhide HB3).size _) (unhide HB3).size _, fun h => absurd rfl h, fun _ => ?_⟩
    · first | rfl | rw [hbt]
    · rw [← bytesN_len]; exact unhide HAL
  · generalize readErr p y = re at *
    clear h hm hp hs
    obtain ⟨e1, e2⟩ := re
    have h0' : ¬ e1 = 0 := h0
    clear h0
    go_enter Try.func9, Try.ntmps9
    go_wp2_with fail
    refine (unhide HR).mono ?_
    rintro e w1 ⟨rfl, hw1⟩
    have HB1 := hide hw1
    clear hw1 HR
    go_wp2
    go_ret2
    exact ⟨false, rfl, unhide HB1, fun _ => rfl, fun h => absurd h h0'⟩

end Go.Proofs.Ytobfpgoepaeknaa
namespace Go.Proofs.Ytobfpgoepaeknaa
open Go.RowKit
attribute [local go_sem ↓] Go.wp_at_zero Go.wp_at_succ

theorem rfF_same {p : ByteArray} {n n' : Nat} {r r' : List Rn × Int} (h : rfF n 0 p 0 0 [] = some r) (h' : rfF n' 0 p 0 0 [] = some r') : r = r' := by
  have a := rfF_mono n (max n n') 0 p 0 0 [] r (Nat.le_max_left _ _) h
  have b := rfF_mono n' (max n n') 0 p 0 0 [] r' (Nat.le_max_right _ _) h'
  rw [a] at b
  exact Option.some.inj b

theorem ok_len {p : ByteArray} {y : St} {n : Nat} {rs : List Rn} {k : Int} (h : RefOk p y) (h0 : (readErr p y).1 = 0) (hf : rfF n 0 p 0 0 [] = some (rs, k)) : rs.length ≤ 1000 := by
  have hn : ¬ (y.s.bad = true ∨ y.s.k < p.size) := fun h => by rw [readErr_bad h] at h0; cases h0
  obtain ⟨_, n', r, m, W, h1, h2, _⟩ := h.2 hn
  have := rfF_same h1 hf
  subst this
  exact h2

set_option maxHeartbeats 1000000 in
theorem Matches_of (p s : ByteArray) (w : World) :
    Calls Try.prog 3 #[.string p, .string s] w fun e w' => e = .returned (.bool true) ∧ Below w.heap.size w w' := by
  by_cases hl : p.size ≤ 60 ∧ s.size ≤ 16
  · have HV := hide (VMatch_any w p s hl.1 hl.2)
    have HLP := hide hl
    clear hl
    go_enter Try.func3, Try.ntmps3
    go_wp2_with fail
    refine (unhide HV).mono ?_
    rintro e w1 ⟨y, i, b, hr, rfl, hw1, hne, heq⟩
    have hro := refOk_all p y i (unhide HLP).1 hr
    have HRM : Hid (∀ w1, Calls Try.prog 9 #[.string p, .string s] w1 fun e w' => e = .returned (.tuple #[.bool b, .int .i64 (readErr p y).1]) ∧ Below w1.heap.size w1 w') := by
      intro w1
      by_cases h0 : (readErr p y).1 = 0
      · obtain ⟨n, rs, k, S, f1, f2, f3⟩ := heq h0
        refine (RMatch_any w1 p s y n rs k S (unhide HLP).1 (unhide HLP).2 hro (fun _ => ⟨f1, ok_len hro h0 f1, f2⟩)).mono ?_
        rintro e w2 ⟨b2, rfl, hw2, -, g2⟩
        have : b = b2 := by rw [Bool.eq_iff_iff, f3, g2 h0]
        subst this
        exact ⟨rfl, hw2⟩
      · refine (RMatch_any w1 p s y 0 [] 0 .blank (unhide HLP).1 (unhide HLP).2 hro (fun h => absurd h h0)).mono ?_
        rintro e w2 ⟨b2, rfl, hw2, g1, -⟩
        have : b = b2 := by rw [hne h0, g1 h0]
        subst this
        exact ⟨rfl, hw2⟩
    clear hr hne heq hro HV
    generalize (readErr p y).1 = e1 at *
    go_wp2_with fail
    refine (unhide HRM w1).mono ?_
    rintro e w2 ⟨rfl, hw2⟩
    go_wp2_with (go_at_call 10; refine (num_any _ _).mono ?_; rintro e w' ⟨rfl, rfl⟩)
    all_goals go_ret
    all_goals exact ⟨ret_bool (by simp_all), below_trans' hw1 hw2⟩
  · have hl' : 60 < p.size ∨ 16 < s.size := by omega
    have HA := hide (VMatch_long w p s hl')
    go_enter Try.func3, Try.ntmps3
    go_wp2_with fail
    refine (unhide HA).mono ?_
    rintro e w1 ⟨rfl, hw1⟩
    go_wp2_with fail
    refine (RMatch_long w1 p s hl').mono ?_
    rintro e w2 ⟨rfl, hw2⟩
    go_wp2_with (go_at_call 10; refine (num_any _ _).mono ?_; rintro e w' ⟨rfl, rfl⟩)
    all_goals go_ret
    all_goals exact ⟨rfl, below_trans' hw1 hw2⟩

end Go.Proofs.Ytobfpgoepaeknaa
