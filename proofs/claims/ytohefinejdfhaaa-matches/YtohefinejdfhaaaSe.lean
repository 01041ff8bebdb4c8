/-
  The document's answer: Match.
-/
import Derived.Test.YtohefinejdfhaaaSd
import Derived.Test.YtohefinejdfhaaaRm
namespace Go.Proofs.Ytohefinejdfhaaa
open Go.RowKit
attribute [local go_sem ↓] Go.wp_at_zero Go.wp_at_succ

set_option maxHeartbeats 400000 in
theorem RMatch_long (w : World) (p s : ByteArray) (h : 60 < p.size ∨ 16 < s.size) :
    Calls Try.prog 16 #[.string p, .string s] w fun e w' => e = .returned (.tuple #[.bool false, .int .i64 1]) ∧ Below w.heap.size w w' := by
  by_cases hp : 60 < p.size
  · have hp' : (60 : Int) < (p.size : Int) := by omega
    clear h hp
    go_enter Try.func16, Try.ntmps16
    go_wp2
    go_ret2
    exact ⟨rfl, Below.refl _ _⟩
  · have hp' : (p.size : Int) ≤ 60 := by omega
    have hs' : (16 : Int) < (s.size : Int) := by omega
    clear h hp
    go_enter Try.func16, Try.ntmps16
    go_wp2
    go_ret2
    exact ⟨rfl, Below.refl _ _⟩

set_option maxHeartbeats 1000000 in
theorem RMatch_any (w : World) (p s : ByteArray) (y : St) (n : Nat) (rs : List Rn) (k : Int) (S : Re) (hp : p.size ≤ 60) (hs : s.size ≤ 16) (h : RefOk p y)
    (hm : (readErr p y).1 = 0 → rfF n 0 p 0 0 [] = some (rs, k) ∧ rs.length ≤ 1000 ∧ Dr rs S k) :
    Calls Try.prog 16 #[.string p, .string s] w fun e w' => ∃ b, e = .returned (.tuple #[.bool b, .int .i64 (readErr p y).1]) ∧ Below w.heap.size w w' ∧ ((readErr p y).1 ≠ 0 → b = false) ∧
      ((readErr p y).1 = 0 → (b = true ↔ S.L (bytesN s))) := by
  have HR := hide (RefPattern_any w p y hp h)
  have hpI : (p.size : Int) ≤ 60 := by omega
  have hsI : (s.size : Int) ≤ 16 := by omega
  by_cases h0 : (readErr p y).1 = 0
  · obtain ⟨m1, m2, m3⟩ := hm h0
    have HT := hide (fun w1 => tree_any p w1 n (rs, k) hp m2 m1)
    have HX := hide (fun w2 b hb => spans_any (b := b) m2 hs S k m3 w2 hb)
    have HBT := hide (bit_test (spansN (bytesN s) S 0) s.size (low_top (low_spans (by rw [bytesN_len]; exact hs) S) 0))
    have HAL := hide (spansN_all (bytesN s) S)
    generalize readErr p y = re at *
    clear h hm m1 m2 m3 hp hs
    obtain ⟨e1, e2⟩ := re
    have h0' : e1 = 0 := h0
    subst h0'
    go_enter Try.func16, Try.ntmps16
    go_wp2_with fail
    refine (unhide HR).mono ?_
    rintro e w1 ⟨rfl, hw1⟩
    have HB1 := hide hw1
    clear hw1 HR
    go_wp2_with fail
    refine (unhide HT w1).mono ?_
    rintro e w2 ⟨rfl, hw2, hr2⟩
    have HB2 := hide ((unhide HB1).trans (hw2.mono (unhide HB1).size))
    have HC := hide (unhide HX w2 _ hr2)
    clear hw2 hr2 HT HX
    go_wp2_with fail
    refine (unhide HC).mono ?_
    rintro e w3 ⟨rfl, hw3⟩
    have HB3 := hide ((unhide HB2).trans (hw3.mono (unhide HB2).size))
    clear hw3 HC
    have hG : SpB (w3.alloc (Obj.cells zeroSpan 78)) w3.heap.size (fun _ => 0) := SpB.zero (heap_alloc_new _ _)
    have HG := hide hG
    have hc := (hG.row (spansN (bytesN s) S)).cell (k := 0) (by omega)
    unfold zeroSpan at hc
    clear hG
    generalize hx : spansN (bytesN s) S 0 = x at *
    have HX0 := hide hx
    clear hx
    have hbt := unhide HBT
    go_wp2_with (refine wpList_store_row0 rfl 78 _ _ rfl rfl w3.heap.size (spanA (spansN (bytesN s) S)) rfl rfl 78 _ (unhide HG) (by rw [size_spanA]; exact info63) (by rw [size_spanA, size_spanA]) (spanA_one _) ?_)
    go_ret2
    refine ⟨x.testBit s.size, ?_, below_setRow ((unhide HB3).alloc (unhide HB3).size _) (unhide HB3).size _, fun h => absurd rfl h, fun _ => ?_⟩
    · first | rfl | rw [hbt]
    · rw [← bytesN_len]; exact unhide HAL
  · generalize readErr p y = re at *
    clear h hm hp hs
    obtain ⟨e1, e2⟩ := re
    have h0' : ¬ e1 = 0 := h0
    clear h0
    go_enter Try.func16, Try.ntmps16
    go_wp2_with fail
    refine (unhide HR).mono ?_
    rintro e w1 ⟨rfl, hw1⟩
    have HB1 := hide hw1
    clear hw1 HR
    go_wp2
    go_ret2
    exact ⟨false, rfl, unhide HB1, fun _ => rfl, fun h => absurd h h0'⟩

end Go.Proofs.Ytohefinejdfhaaa
