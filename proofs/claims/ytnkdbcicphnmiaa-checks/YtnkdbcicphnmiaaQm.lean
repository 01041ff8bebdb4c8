/-
  veillaw.ownOps.
-/
import Derived.Test.YtnkdbcicphnmiaaNt
import Derived.Test.YtnkdbcicphnmiaaQl
namespace Go.Proofs.Ytnkdbcicphnmiaa
namespace Mc
open Go.RowKit
attribute [local go_sem ↓] Go.wp_at_zero Go.wp_at_succ

/-- The first so many places of a row of operations hold one operation. -/
def OpFull (w : World) (g cap n : Nat) (o : OpI) : Prop := ∃ cu, w.heap[g]? = some (.cells cu 62 (0, 0)) ∧ cu.size = cap * 4 ∧ ∀ j, j < n → OpIn cu j o
theorem OpFull.fr {w w' : World} {g cap n : Nat} {o : OpI} {S : List Nat} (h : OpFull w g cap n o) (f : Fr S w w') (hn : g ∉ S) : OpFull w' g cap n o := by
  obtain ⟨cu, h1, h2⟩ := h
  exact ⟨cu, f.at h1 hn, h2⟩
theorem OpFull.cells {w : World} {g cap n : Nat} {o : OpI} (h : OpFull w g cap n o) {j : Nat} (hj : j < n) : w.cell? ⟨g, j * 4, none⟩ = some (.int .i64 o.k) ∧ w.cell? ⟨g, j * 4 + 1, none⟩ = some (.int .i64 o.a) ∧ w.cell? ⟨g, j * 4 + 2, none⟩ = some (.int .i64 o.b) ∧ w.cell? ⟨g, j * 4 + 3, none⟩ = some (.int .i64 o.c) := by
  obtain ⟨cu, h1, h2, h3⟩ := h
  obtain ⟨a, b, c, d⟩ := h3 j hj
  refine ⟨?_, ?_, ?_, ?_⟩ <;> rw [cell_of_row _ _ _ _ _ _ h1] <;> assumption
theorem OpFull.any {w : World} {g cap n : Nat} {o : OpI} (h : OpFull w g cap n o) {j : Nat} (hj : j < cap) (hn : n = j) : ∃ y0 y1 y2 y3, (w.cell? ⟨g, j * 4, none⟩ = some y0 ∧ w.cell? ⟨g, j * 4 + 1, none⟩ = some y1 ∧ w.cell? ⟨g, j * 4 + 2, none⟩ = some y2 ∧ w.cell? ⟨g, j * 4 + 3, none⟩ = some y3) ∧ (∀ k, w.frozen? ⟨g, k, none⟩ = false) ∧
    OpFull ((((w.setCell ⟨g, j * 4, none⟩ (.int .i64 o.k)).setCell ⟨g, j * 4 + 1, none⟩ (.int .i64 o.a)).setCell ⟨g, j * 4 + 2, none⟩ (.int .i64 o.b)).setCell ⟨g, j * 4 + 3, none⟩ (.int .i64 o.c)) g cap (j + 1) o := by
  subst hn
  obtain ⟨cu, hg, hs, hb⟩ := h
  refine ⟨cu[n * 4]'(by omega), cu[n * 4 + 1]'(by omega), cu[n * 4 + 2]'(by omega), cu[n * 4 + 3]'(by omega), ⟨?_, ?_, ?_, ?_⟩, fun k => frozen_of_row _ _ _ _ _ hg, ?_⟩
  · rw [cell_of_row _ _ _ _ _ _ hg]; exact Array.getElem?_eq_getElem _
  · rw [cell_of_row _ _ _ _ _ _ hg]; exact Array.getElem?_eq_getElem _
  · rw [cell_of_row _ _ _ _ _ _ hg]; exact Array.getElem?_eq_getElem _
  · rw [cell_of_row _ _ _ _ _ _ hg]; exact Array.getElem?_eq_getElem _
  · refine ⟨_, heap_setCell_same _ _ _ _ _ _ (heap_setCell_same _ _ _ _ _ _ (heap_setCell_same _ _ _ _ _ _ (heap_setCell_same _ _ _ _ _ _ hg))), by simpa using hs, fun i h1 => ?_⟩
    by_cases e : i = n
    · subst e; exact OpIn.new (by omega) o
    · exact (hb i (by omega)).set e _ _ _ _
theorem set4_fr (w : World) (g j : Nat) (a b c d : Value) : Fr [g] w ((((w.setCell ⟨g, j * 4, none⟩ a).setCell ⟨g, j * 4 + 1, none⟩ b).setCell ⟨g, j * 4 + 2, none⟩ c).setCell ⟨g, j * 4 + 3, none⟩ d) :=
  ((((Fr.refl [g] w).set (Or.inl (by simp)) _ _).set (Or.inl (by simp)) _ _).set (Or.inl (by simp)) _ _).set (Or.inl (by simp)) _ _
theorem box4 {w : World} {g : Nat} {a b c d : Value} (h : w.heap[g]? = some (.cells #[a, b, c, d] 62 (0, 0))) : w.cell? ⟨g, 0, none⟩ = some a ∧ w.cell? ⟨g, 1, none⟩ = some b ∧ w.cell? ⟨g, 2, none⟩ = some c ∧ w.cell? ⟨g, 3, none⟩ = some d := by
  refine ⟨?_, ?_, ?_, ?_⟩ <;> rw [cell_of_row _ _ _ _ _ _ h] <;> rfl

set_option maxRecDepth 20000 in
set_option maxHeartbeats 2000000 in
theorem ownOps_any (w : World) (ga gb na nb ca cb : Nat) (o0 : OpI) (ha : OpFull w ga ca 0 o0) (hb : OpFull w gb cb 0 o0) (hne : ga ≠ gb) (hna : na ≤ ca) (hnb : nb ≤ cb) (hca : ca ≤ maxLen) (hcb : cb ≤ maxLen) :
    Calls Try.prog 43 #[.slice (some ⟨ga, 0, none⟩) na ca, .slice (some ⟨gb, 0, none⟩) nb cb] w fun e w' => e = .returned (.bool true) ∧ Fr [ga, gb] w w' := by
  have hga : ga < w.heap.size := by obtain ⟨_, h, _⟩ := ha; exact (Array.getElem?_eq_some_iff.1 h).1
  have hgb : gb < w.heap.size := by obtain ⟨_, h, _⟩ := hb; exact (Array.getElem?_eq_some_iff.1 h).1
  have hcaI : (ca : Int) ≤ 9223372036854775807 := by unfold maxLen at hca; omega
  have hcbI : (cb : Int) ≤ 9223372036854775807 := by unfold maxLen at hcb; omega
  have hnaI : (na : Int) ≤ (ca : Int) := by omega
  have hnbI : (nb : Int) ≤ (cb : Int) := by omega
  have hb1 : Below w.heap.size w ((w.alloc (.cells #[.int .i64 (-3), .int .i64 0, .int .i64 0, .int .i64 0] 62)).alloc (.cells #[.int .i64 (-4), .int .i64 0, .int .i64 0, .int .i64 0] 62)) := below2 _ _ _
  have HA0 : Hid (OpFull ((w.alloc (.cells #[.int .i64 (-3), .int .i64 0, .int .i64 0, .int .i64 0] 62)).alloc (.cells #[.int .i64 (-4), .int .i64 0, .int .i64 0, .int .i64 0] 62)) ga ca 0 ⟨-3, 0, 0, 0⟩) := by
    obtain ⟨cu, h1, h2, -⟩ := ha
    exact ⟨cu, (Fr.ofBelow hb1).at h1 (by simp), h2, fun j hj => by omega⟩
  have HB0 : Hid (OpFull ((w.alloc (.cells #[.int .i64 (-3), .int .i64 0, .int .i64 0, .int .i64 0] 62)).alloc (.cells #[.int .i64 (-4), .int .i64 0, .int .i64 0, .int .i64 0] 62)) gb cb 0 ⟨-4, 0, 0, 0⟩) := by
    obtain ⟨cu, h1, h2, -⟩ := hb
    exact ⟨cu, (Fr.ofBelow hb1).at h1 (by simp), h2, fun j hj => by omega⟩
  have HBX : Hid (((w.alloc (.cells #[.int .i64 (-3), .int .i64 0, .int .i64 0, .int .i64 0] 62)).alloc (.cells #[.int .i64 (-4), .int .i64 0, .int .i64 0, .int .i64 0] 62)).heap[w.heap.size]? = some (.cells #[.int .i64 (-3), .int .i64 0, .int .i64 0, .int .i64 0] 62 (0, 0))) := heap_alloc2_old _ _ _
  have HBY : Hid (((w.alloc (.cells #[.int .i64 (-3), .int .i64 0, .int .i64 0, .int .i64 0] 62)).alloc (.cells #[.int .i64 (-4), .int .i64 0, .int .i64 0, .int .i64 0] 62)).heap[w.heap.size + 1]? = some (.cells #[.int .i64 (-4), .int .i64 0, .int .i64 0, .int .i64 0] 62 (0, 0))) := heap_alloc2_new _ _ _
  have HF1 := hide (Fr.ofBelow hb1)
  have HNE := hide hne
  clear ha hb hb1 hna hnb hca hcb hne
  go_enter Try.func43, Try.ntmps43
  go_wp2_with fail
  generalize (w.alloc (.cells #[.int .i64 (-3), .int .i64 0, .int .i64 0, .int .i64 0] 62)).alloc (.cells #[.int .i64 (-4), .int .i64 0, .int .i64 0, .int .i64 0] 62) = w1 at *
  go_loopw [7] (fun ix wr => ∃ i : Nat, ix = .int .i64 (i : Int) ∧ Hid (i ≤ ca ∧ Fr [ga] w1 wr ∧ OpFull wr ga ca i ⟨-3, 0, 0, 0⟩)) (fun ix _ => lenLeft ca ix)
  case atStart => exact ⟨0, rfl, Nat.zero_le _, Fr.refl _ _, unhide HA0⟩
  case round =>
    clear HA0
    rename World => wr
    obtain ⟨i, rfl, HH⟩ := hrel
    obtain ⟨hi, hF, hU⟩ := unhide HH
    clear HH
    by_cases hlt : i < ca
    · obtain ⟨y0, y1, y2, y3, ⟨c0, c1, c2, c3⟩, hfz, hN⟩ := hU.any hlt rfl
      have f0 := hfz (i * 4)
      have f1 := hfz (i * 4 + 1)
      have f2 := hfz (i * 4 + 2)
      have f3 := hfz (i * 4 + 3)
      obtain ⟨x0, x1, x2, x3⟩ := box4 (hF.at (unhide HBX) (by simp; omega))
      have hiI : (i : Int) < (ca : Int) := by omega
      have HLT := hide hlt
      have HN := hide hN
      have HF := hide (hF.and (set4_fr wr ga i (.int .i64 (-3)) (.int .i64 0) (.int .i64 0) (.int .i64 0)) (fun x hx => Or.inl hx))
      clear hi hF hU hfz hN hlt
      go_wp2_with fail
      go_roundw
      case rel => exact ⟨i + 1, by go_num, unhide HLT, unhide HF, unhide HN⟩
      case measure => have := unhide HLT; simp [lenLeft, intOf]; omega
    · have hi2 : i = ca := by omega
      subst hi2
      have hltI : ¬ (i : Int) < (i : Int) := by omega
      have HF := hide hF
      have HU := hide hU
      clear hi hF hU hlt
      go_wp2_with fail
      have HB1 : Hid (OpFull wr gb cb 0 ⟨-4, 0, 0, 0⟩) := (unhide HB0).fr (unhide HF) (by have := unhide HNE; simp; omega)
      go_loopw [8] (fun jx wq => ∃ j : Nat, jx = .int .i64 (j : Int) ∧ Hid (j ≤ cb ∧ Fr [gb] wr wq ∧ OpFull wq gb cb j ⟨-4, 0, 0, 0⟩)) (fun jx _ => lenLeft cb jx)
      case atStart => exact ⟨0, rfl, Nat.zero_le _, Fr.refl _ _, unhide HB1⟩
      case round =>
        clear HB1
        rename World => wq
        obtain ⟨j, rfl, HH⟩ := hrel
        obtain ⟨hj, hF, hU⟩ := unhide HH
        clear HH
        by_cases hlt : j < cb
        · obtain ⟨y0, y1, y2, y3, ⟨c0, c1, c2, c3⟩, hfz, hN⟩ := hU.any hlt rfl
          have f0 := hfz (j * 4)
          have f1 := hfz (j * 4 + 1)
          have f2 := hfz (j * 4 + 2)
          have f3 := hfz (j * 4 + 3)
          obtain ⟨x0, x1, x2, x3⟩ := box4 (hF.at ((unhide HF).at (unhide HBY) (by simp; omega)) (by simp; omega))
          have hjI : (j : Int) < (cb : Int) := by omega
          have HLT := hide hlt
          have HN := hide hN
          have HF2 := hide (hF.and (set4_fr wq gb j (.int .i64 (-4)) (.int .i64 0) (.int .i64 0) (.int .i64 0)) (fun x hx => Or.inl hx))
          clear hj hF hU hfz hN hlt
          go_wp2_with fail
          go_roundw
          case rel => exact ⟨j + 1, by go_num, unhide HLT, unhide HF2, unhide HN⟩
          case measure => have := unhide HLT; simp [lenLeft, intOf]; omega
        · have hj2 : j = cb := by omega
          subst hj2
          have hltI : ¬ (j : Int) < (j : Int) := by omega
          have HF2 := hide hF
          have HU2 := hide hU
          have HU1 : Hid (OpFull wq ga i i ⟨-3, 0, 0, 0⟩) := (unhide HU).fr hF (by have := unhide HNE; simp; omega)
          have HX2 : Hid (wq.heap[w.heap.size]? = some (.cells #[.int .i64 (-3), .int .i64 0, .int .i64 0, .int .i64 0] 62 (0, 0))) := hF.at ((unhide HF).at (unhide HBX) (by simp; omega)) (by simp; omega)
          have HY2 : Hid (wq.heap[w.heap.size + 1]? = some (.cells #[.int .i64 (-4), .int .i64 0, .int .i64 0, .int .i64 0] 62 (0, 0))) := hF.at ((unhide HF).at (unhide HBY) (by simp; omega)) (by simp; omega)
          have HFA : Hid (Fr [ga, gb] w wq) := (((unhide HF1).mono (S' := [ga, gb]) (by simp)).and ((unhide HF).mono (S' := [ga, gb]) (by simp)) (fun x hx => Or.inl hx)).and (hF.mono (S' := [ga, gb]) (by simp)) (fun x hx => Or.inl hx)
          clear hj hF hU hlt
          go_wp2_with fail
          go_loopw [9, 10] (fun kx ix wz => ∃ k : Nat, kx = .bool true ∧ ix = .int .i64 (k : Int) ∧ Hid (k ≤ i ∧ Below wq.heap.size wq wz)) (fun _ ix _ => lenLeft i ix)
          case atStart => exact ⟨0, rfl, rfl, Nat.zero_le _, Below.refl _ _⟩
          case round =>
            rename World => wz
            obtain ⟨k, rfl, rfl, HH⟩ := hrel
            obtain ⟨hk, hB⟩ := unhide HH
            clear HH
            by_cases hlt : k < i
            · obtain ⟨c0, c1, c2, c3⟩ := ((unhide HU1).fr (Fr.ofBelow hB) (by simp)).cells hlt
              obtain ⟨x0, x1, x2, x3⟩ := box4 ((Fr.ofBelow hB).at (unhide HX2) (by simp))
              have hkI : (k : Int) < (i : Int) := by omega
              have HLT := hide hlt
              have HB := hide hB
              clear hk hB hlt
              go_wp2_with fail
              go_region
              all_goals
                go_wp2_with fail
                go_roundw
                case rel => exact ⟨k + 1, by trivial, by go_num, unhide HLT, (unhide HB).drew⟩
                case measure => have := unhide HLT; simp [lenLeft, intOf]; omega
            · have hk2 : k = i := by omega
              subst hk2
              have hltI : ¬ (k : Int) < (k : Int) := by omega
              have HB := hide hB
              clear hk hB hlt
              go_wp2_with fail
              go_loopw [9, 11] (fun kx ix wy => ∃ l : Nat, kx = .bool true ∧ ix = .int .i64 (l : Int) ∧ Hid (l ≤ j ∧ Below wq.heap.size wq wy)) (fun _ ix _ => lenLeft j ix)
              case atStart => exact ⟨0, rfl, rfl, Nat.zero_le _, unhide HB⟩
              case round =>
                rename World => wy
                obtain ⟨l, rfl, rfl, HH⟩ := hrel
                obtain ⟨hl, hB⟩ := unhide HH
                clear HH
                by_cases hlt : l < j
                · obtain ⟨c0, c1, c2, c3⟩ := ((unhide HU2).fr (Fr.ofBelow hB) (by simp)).cells hlt
                  obtain ⟨x0, x1, x2, x3⟩ := box4 ((Fr.ofBelow hB).at (unhide HY2) (by simp))
                  have hlI : (l : Int) < (j : Int) := by omega
                  have HLT := hide hlt
                  have HB := hide hB
                  clear hl hB hlt
                  go_wp2_with fail
                  go_region
                  all_goals
                    go_wp2_with fail
                    go_roundw
                    case rel => exact ⟨l + 1, by trivial, by go_num, unhide HLT, (unhide HB).drew⟩
                    case measure => have := unhide HLT; simp [lenLeft, intOf]; omega
                · have hl2 : l = j := by omega
                  subst hl2
                  have hltI : ¬ (l : Int) < (l : Int) := by omega
                  have HFZ := hide ((unhide HFA).next hB)
                  clear hl hB hlt
                  go_wp2_with fail
                  go_ret
                  exact ⟨rfl, unhide HFZ⟩

end Mc
end Go.Proofs.Ytnkdbcicphnmiaa
