/-
  veillaw.own: what came out is the caller's.
-/
import Derived.Test.YtohefinejdfhaaaNq
namespace Go.Proofs.Ytohefinejdfhaaa
namespace Mc
open Go.RowKit
attribute [local go_sem ↓] Go.wp_at_zero Go.wp_at_succ

def nilV : Value := .slice none 0 0
/-- Lists that came out: each with its room, no two in one block. -/
structure Lists (w : World) (vs : List Value) : Prop where
  room : ∀ i, i < vs.length → Room w (vs.getD i nilV)
  dj : ∀ i j, i < vs.length → j < vs.length → i ≠ j → DjV (vs.getD i nilV) (vs.getD j nilV)
def blocks (vs : List Value) : List Nat := vs.flatMap fun v => v.ownBlock.toList
theorem mem_blocks {vs : List Value} {i : Nat} (hi : i < vs.length) {q : Nat} (h : (vs.getD i nilV).ownBlock = some q) : q ∈ blocks vs := by
  unfold blocks
  rw [List.mem_flatMap]
  refine ⟨vs[i], List.getElem_mem _, ?_⟩
  rw [List.getD_eq_getElem?_getD, List.getElem?_eq_getElem hi] at h
  rw [Option.mem_toList]; exact h
theorem Room.slice {w : World} {v : Value} (h : Room w v) : ∃ a n c, v = .slice a n c := by
  rcases h with rfl | ⟨g, len, cap, cur, rfl, _⟩
  · exact ⟨_, _, _, rfl⟩
  · exact ⟨_, _, _, rfl⟩
theorem Full.slice {w : World} {v : Value} {n : Int} (h : Full w v n) : ∃ a n c, v = .slice a n c := by
  rcases h with rfl | ⟨g, len, cap, cur, rfl, _⟩
  · exact ⟨_, _, _, rfl⟩
  · exact ⟨_, _, _, rfl⟩
/-- While the lists are filled. -/
structure Filling (w wr : World) (vs : List Value) (i : Nat) : Prop where
  fr : Fr (blocks vs) w wr
  full : ∀ j, j < i → Full wr (vs.getD j nilV) (-3 - (j : Int))
  room : ∀ j, i ≤ j → j < vs.length → Room wr (vs.getD j nilV)
theorem Filling.step {w wr w2 : World} {vs : List Value} {i : Nat} (h : Filling w wr vs i) (hL : Lists w vs) (hi : i < vs.length) (hf : Fr (vs.getD i nilV).ownBlock.toList wr w2) (hu : Full w2 (vs.getD i nilV) (-3 - (i : Int))) : Filling w w2 vs (i + 1) := by
  refine ⟨h.fr.and hf (fun x hx => .inl (mem_blocks hi (Option.mem_toList.1 hx))), fun j hj => ?_, fun j h1 h2 => ?_⟩
  · by_cases e : j = i
    · subst e; exact hu
    · exact (h.full j (by omega)).fr hf (fun q hq hm => hL.dj j i (by omega) hi e q hq (Option.mem_toList.1 hm))
  · exact (h.room j (by omega) h2).fr hf (fun q hq hm => hL.dj j i h2 hi (by omega) q hq (Option.mem_toList.1 hm))

set_option maxRecDepth 20000 in
set_option maxHeartbeats 1000000 in
theorem own_any (w : World) (gl : Nat) (vs : List Value) (hg : w.heap[gl]? = some (.cells vs.toArray 35 (0, 0))) (hL : Lists w vs) (hn : vs.length ≤ 1000) (hgb : gl ∉ blocks vs) :
    Calls Try.prog 45 #[.slice (some ⟨gl, 0, none⟩) vs.length vs.length] w fun e w' => e = .returned (.bool true) ∧ Fr (blocks vs) w w' := by
  have hnI : (vs.length : Int) ≤ 1000 := by omega
  have HC : Hid (∀ wr, Fr (blocks vs) w wr → ∀ i, i < vs.length → wr.cell? ⟨gl, i, none⟩ = some (vs.getD i nilV)) := fun wr hf i hi => by
    rw [cell_of_row _ _ _ _ _ _ (hf.at hg hgb), List.getElem?_toArray, List.getD_eq_getElem?_getD, List.getElem?_eq_getElem hi]; rfl
  have HL := hide hL
  have H0 : Hid (Filling w w vs 0) := ⟨Fr.refl _ _, fun j hj => absurd hj (Nat.not_lt_zero _), fun j _ h2 => hL.room j h2⟩
  clear hg hL hn hgb
  go_enter Try.func45, Try.ntmps45
  go_wp2_with fail
  go_loopw [3] (fun ix wr => ∃ i : Nat, ix = .int .i64 (i : Int) ∧ Hid (i ≤ vs.length ∧ Filling w wr vs i)) (fun ix _ => lenLeft vs.length ix)
  case atStart => exact ⟨0, rfl, Nat.zero_le _, unhide H0⟩
  case round =>
    clear H0
    rename World => wr
    obtain ⟨i, rfl, HH⟩ := hrel
    obtain ⟨hi, hF⟩ := unhide HH
    have HF := hide hF
    by_cases hlt : i < vs.length
    · have c0 := unhide HC wr hF.fr i hlt
      have hiI : (i : Int) < (vs.length : Int) := by omega
      have hRo := hF.room i (Nat.le_refl _) hlt
      have HFI := hide (fill_any wr _ (-3 - (i : Int)) hRo)
      obtain ⟨a, m, c, hv⟩ := hRo.slice
      have HV := hide hv
      rw [hv] at c0 HFI
      have HLT := hide hlt
      clear HH hi hF hlt hRo hv
      go_wp2_with fail
      refine (unhide HFI).mono ?_
      rintro e w1 ⟨rfl, hf1, hu1⟩
      rw [← unhide HV] at hf1 hu1
      have HF1 := hide ((unhide HF).step (unhide HL) (unhide HLT) hf1 hu1)
      clear hf1 hu1
      go_wp2_with fail
      go_roundw
      case rel => exact ⟨i + 1, by go_num, unhide HLT, unhide HF1⟩
      case measure => have := unhide HLT; simp [lenLeft, intOf]; omega
    · have hi2 : i = vs.length := by omega
      subst hi2
      have H0 : Hid (Fr (blocks vs) w wr ∧ ∀ j, j < vs.length → Full wr (vs.getD j nilV) (-3 - (j : Int))) := ⟨hF.fr, hF.full⟩
      clear HH hi hF hlt HF
      go_wp2_with fail
      go_loopw [4] (fun ix wr => ∃ i : Nat, ix = .int .i64 (i : Int) ∧ Hid (i ≤ vs.length ∧ Fr (blocks vs) w wr ∧ ∀ j, j < vs.length → Full wr (vs.getD j nilV) (-3 - (j : Int)))) (fun ix _ => lenLeft vs.length ix)
      case atStart => exact ⟨0, rfl, Nat.zero_le _, unhide H0⟩
      case round =>
        clear H0
        rename World => wr
        obtain ⟨i, rfl, HH⟩ := hrel
        obtain ⟨hi, hF, hall⟩ := unhide HH
        have HF := hide hF
        have HALL := hide hall
        by_cases hlt : i < vs.length
        · have c0 := unhide HC wr hF i hlt
          have hiI : (i : Int) < (vs.length : Int) := by omega
          have HLT := hide hlt
          have hfu := hall i hlt
          have HN : Hid (Fr (blocks vs) w wr.drew ∧ ∀ j, j < vs.length → Full wr.drew (vs.getD j nilV) (-3 - (j : Int))) := ⟨hF.drew, hall⟩
          generalize vs.getD i nilV = v at *
          clear HH hi hF hlt hall
          rcases hfu with rfl | ⟨g, len, cap, cur, rfl, h1, h2, h3, h4, h5⟩
          · go_wp2_with fail
            go_region
            go_wp2_with fail
            go_loopw [6] (fun ix wx => ix = .int .i64 0 ∧ wx = wr.drew) (fun _ _ => 0)
            case atStart => exact ⟨rfl, rfl⟩
            case round =>
              obtain ⟨rfl, rfl⟩ := hrel
              go_wp2_with fail
              go_roundw
              case rel => exact ⟨i + 1, by go_num, unhide HLT, unhide HN⟩
              case measure => have := unhide HLT; simp [lenLeft, intOf]; omega
          · have hcI : (cap : Int) ≤ 9223372036854775807 := by unfold maxLen at h4; omega
            have hlI : (len : Int) ≤ (cap : Int) := by omega
            have H5 : Hid (∀ j, j < cap → wr.cell? ⟨g, j, none⟩ = some (.int .i64 (-3 - (i : Int)))) := fun j hj => by rw [cell_of_row _ _ _ _ _ _ h1]; exact h5 j hj
            clear h1 h2 h3 h4 h5
            go_wp2_with fail
            go_region
            go_wp2_with fail
            go_loopw [6] (fun ix wx => ∃ k : Nat, ix = .int .i64 (k : Int) ∧ wx = wr.drew ∧ Hid (k ≤ cap)) (fun ix _ => lenLeft cap ix)
            case atStart => exact ⟨0, rfl, rfl, Nat.zero_le _⟩
            case round =>
              obtain ⟨k, rfl, rfl, HH⟩ := hrel
              have hk := unhide HH
              by_cases hkl : k < cap
              · have c1 := unhide H5 k hkl
                have hkI : (k : Int) < (cap : Int) := by omega
                have HKL := hide hkl
                clear HH hk hkl
                go_wp2_with fail
                go_roundw
                case rel => exact ⟨k + 1, by go_num, by trivial, unhide HKL⟩
                case measure => have := unhide HKL; simp [lenLeft, intOf]; omega
              · have hk2 : k = cap := by omega
                subst hk2
                clear HH hk hkl
                go_wp2_with fail
                go_roundw
                case rel => exact ⟨i + 1, by go_num, unhide HLT, unhide HN⟩
                case measure => have := unhide HLT; simp [lenLeft, intOf]; omega
        · have hi2 : i = vs.length := by omega
          subst hi2
          clear HH hi hF hlt hall
          go_wp2_with fail
          go_ret
          exact ⟨rfl, unhide HF⟩

end Mc
end Go.Proofs.Ytohefinejdfhaaa
