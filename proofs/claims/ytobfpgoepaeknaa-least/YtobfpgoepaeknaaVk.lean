/-
  table.folded.next, table.leadAlike: where letters lead from kinds.
-/
import Derived.Test.YtobfpgoepaeknaaVj
namespace Go.Proofs.Ytobfpgoepaeknaa
open Go.RowKit
attribute [local go_sem ↓] Go.wp_at_zero Go.wp_at_succ

/-- Where a letter leads from a kind. -/
def nfT (ks hs nxs : List Nat) (M k l : Nat) : Nat := ks.getD (nlM nxs M (hs.getD k 0) l) 0
/-- The kinds in memory. -/
structure FoldB (w : World) (gf : Nat) (ks hs : List Nat) : Prop where
  ex : ∃ ka kc ha hc, w.heap[gf]? = some (.cells #[.slice ka ks.length kc, .slice ha hs.length hc] 126 (0, 0)) ∧ NRow w 0 (.slice ka ks.length kc) ks ∧ NRow w 0 (.slice ha hs.length hc) hs
theorem FoldB.below {w w' : World} {gf : Nat} {ks hs : List Nat} (h : FoldB w gf ks hs) (hb : Below w.heap.size w w') : FoldB w' gf ks hs := by
  obtain ⟨ka, kc, ha, hc, h1, h2, h3⟩ := h.ex
  exact ⟨ka, kc, ha, hc, by rw [hb.block _ (Array.getElem?_eq_some_iff.1 h1).1]; exact h1, h2.below hb, h3.below hb⟩
/-- What the bounds of kinds are. -/
structure SmallF (ks hs : List Nat) : Prop where
  k : ks.length ≤ 10000
  h : hs.length ≤ 24
  x : ∀ k, hs.getD k 0 ≤ 10000

set_option maxHeartbeats 1000000 in
theorem next_any (w : World) (g gf M : Nat) (F : Nat → Nat) (grs : List Bool) (nxs ks hs : List Nat) (h : GraphB w g M F grs nxs) (hf : FoldB w gf ks hs) (sm : Small M grs nxs) (sf : SmallF ks hs) (k l : Nat) (hl : l ≤ 256) :
    Calls Try.prog 76 #[.pointer (some ⟨gf, 0, none⟩), .pointer (some ⟨g, 0, none⟩), .int .i64 (k : Int), .int .i64 (l : Int)] w fun e w' => e = .returned (.int .i64 ((nfT ks hs nxs M k l : Nat) : Int)) ∧ w' = w.drew := by
  obtain ⟨ka, kc, ha, hc, h1, h2, h3⟩ := hf.ex
  have c0 : w.cell? ⟨gf, 0, none⟩ = some (.slice ka ks.length kc) := by rw [cell_of_row _ _ _ _ _ _ h1]; rfl
  have c1 : w.cell? ⟨gf, 1, none⟩ = some (.slice ha hs.length hc) := by rw [cell_of_row _ _ _ _ _ _ h1]; rfl
  have HA := hide (at_any w 0 _ hs k h3 (by have := sf.h; omega))
  have HN : Hid (Calls Try.prog 92 #[.pointer (some ⟨g, 0, none⟩), .int .i64 ((hs.getD k 0 : Nat) : Int), .int .i64 (l : Int)] w.drew fun e w' => e = .returned (.int .i64 ((nlM nxs M (hs.getD k 0) l : Nat) : Int)) ∧ w' = w.drew) := Next_any w.drew g M F grs nxs h.drew _ l sm.m (sf.x k) hl sm.n
  have HK : Hid (Calls Try.prog 73 #[.slice ka ks.length kc, .int .i64 ((nlM nxs M (hs.getD k 0) l : Nat) : Int)] w.drew fun e w' => e = .returned (.int .i64 ((nfT ks hs nxs M k l : Nat) : Int)) ∧ w' = w.drew) := at_any w.drew 0 _ ks _ h2.drew (by have := sf.k; omega)
  generalize nfT ks hs nxs M k l = r at *
  generalize nlM nxs M (hs.getD k 0) l = m at *
  generalize hs.getD k 0 = x at *
  clear h hf sm sf h1 h2 h3 hl
  go_enter Try.func76, Try.ntmps76
  go_wp2_with fail
  refine (unhide HA).mono ?_
  rintro e w1 ⟨rfl, hww⟩
  obtain rfl : w = w1 := hww.symm
  clear hww
  go_wp2_with fail
  go_region_with (first
    | (go_at_call 92; refine (unhide HN).mono ?_; rintro e w2 ⟨rfl, hww⟩; obtain rfl : w.drew = w2 := hww.symm)
    | (go_at_call 73; refine (unhide HK).mono ?_; rintro e w2 ⟨rfl, hww⟩; obtain rfl : w.drew = w2 := hww.symm))
  all_goals
    go_wp2_with fail
    go_ret
    exact ⟨rfl, rfl⟩

set_option maxHeartbeats 1000000 in
theorem leadAlike_any (w : World) (g gf M : Nat) (F : Nat → Nat) (grs : List Bool) (nxs ks hs : List Nat) (h : GraphB w g M F grs nxs) (hf : FoldB w gf ks hs) (sm : Small M grs nxs) (sf : SmallF ks hs) (a b : Nat) (ha : a ≤ 256) (hb : b ≤ 256) :
    Calls Try.prog 91 #[.pointer (some ⟨g, 0, none⟩), .pointer (some ⟨gf, 0, none⟩), .int .i64 (a : Int), .int .i64 (b : Int)] w fun e w' => (∃ y, e = .returned (.bool y) ∧ (y = true ↔ ElT hs.length (nfT ks hs nxs M) a b)) ∧ Below w.heap.size w w' := by
  have HN : Hid (∀ W, Below w.heap.size w W → ∀ k l : Nat, l ≤ 256 → Calls Try.prog 76 #[.pointer (some ⟨gf, 0, none⟩), .pointer (some ⟨g, 0, none⟩), .int .i64 (k : Int), .int .i64 (l : Int)] W fun e w' => e = .returned (.int .i64 ((nfT ks hs nxs M k l : Nat) : Int)) ∧ w' = W.drew) :=
    fun W hW k l hl => next_any W g gf M F grs nxs ks hs (h.below hW) (hf.below hW) sm sf k l hl
  have HF := hide hf
  have HS := hide sf.h
  have hsI : (hs.length : Int) ≤ 24 := by have := sf.h; omega
  have HA := hide ha
  have HB := hide hb
  clear h hf sm sf ha hb
  go_enter Try.func91, Try.ntmps91
  go_wp2_with fail
  go_loopw [9] (fun kx wr => ∃ k : Nat, kx = .int .i64 (k : Int) ∧ Hid (k ≤ hs.length ∧ Below w.heap.size w wr ∧ ∀ k', k' < k → nfT ks hs nxs M k' a = nfT ks hs nxs M k' b)) (fun kx _ => hs.length - (intOf kx).toNat)
  case atStart => exact ⟨0, rfl, Nat.zero_le _, Below.refl _ _, fun k' hk' => absurd hk' (Nat.not_lt_zero _)⟩
  case round =>
    rename World => wr
    obtain ⟨k, rfl, HH⟩ := hrel
    obtain ⟨hk, hB, hall⟩ := unhide HH
    obtain ⟨ka, kc, ha, hc, h1, -, -⟩ := ((unhide HF).below hB).ex
    have c1 : wr.cell? ⟨gf, 1, none⟩ = some (.slice ha hs.length hc) := by rw [cell_of_row _ _ _ _ _ _ h1]; rfl
    clear h1 HH
    have HBW := hide hB
    have HALL := hide hall
    by_cases hlt : k < hs.length
    · have hltI : (k : Int) < (hs.length : Int) := by omega
      have HLT := hide hlt
      have HN1 := hide (unhide HN wr hB k a (unhide HA))
      have HN2 := hide (unhide HN wr.drew hB.drew k b (unhide HB))
      have HSN : Hid (nfT ks hs nxs M k a = nfT ks hs nxs M k b → ∀ k', k' < k + 1 → nfT ks hs nxs M k' a = nfT ks hs nxs M k' b) := fun he k' hk' => by
        by_cases e : k' = k
        · subst e; exact he
        · exact hall k' (by omega)
      have HNO : Hid (nfT ks hs nxs M k a ≠ nfT ks hs nxs M k b → ¬ ElT hs.length (nfT ks hs nxs M) a b) := fun hne hE => hne (hE k hlt)
      clear hlt hk hB hall
      generalize nfT ks hs nxs M k a = x at *
      generalize nfT ks hs nxs M k b = y at *
      go_wp2_with fail
      refine (unhide HN1).mono ?_
      rintro e w1 ⟨rfl, hww⟩
      obtain rfl : wr.drew = w1 := hww.symm
      clear hww
      go_wp2_with fail
      refine (unhide HN2).mono ?_
      rintro e w1 ⟨rfl, hww⟩
      obtain rfl : wr.drew.drew = w1 := hww.symm
      clear hww
      by_cases hxy : x = y
      · subst hxy
        go_wp2_with fail
        go_roundw
        case rel => exact ⟨k + 1, by go_num, unhide HLT, (unhide HBW).drew.drew, unhide HSN (by first | rfl | trivial)⟩
        case measure => have := unhide HLT; simp [intOf]; omega
      · have hxI : ¬ (x : Int) = (y : Int) := by omega
        have HX := hide hxy
        clear hxy
        go_wp2_with fail
        go_ret
        exact ⟨⟨false, rfl, by simp; exact unhide HNO (unhide HX)⟩, (unhide HBW).drew.drew⟩
    · have hk2 : k = hs.length := by omega
      subst hk2
      clear hk hB hall hlt
      go_wp2_with fail
      go_ret
      exact ⟨⟨true, rfl, by simp; exact unhide HALL⟩, unhide HBW⟩

end Go.Proofs.Ytobfpgoepaeknaa
