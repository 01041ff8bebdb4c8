/-
  veilref.Run whole; veillaw: num, sameInts, sameOps, fill.
  veillaw.own: what came out is the caller's.
-/
import Derived.Test.YtnkdbcicphnmiaaNp
namespace Go.Proofs.Ytnkdbcicphnmiaa
namespace Mc
open Go.RowKit
attribute [local go_sem ↓] Go.wp_at_zero Go.wp_at_succ

set_option maxRecDepth 20000 in
set_option maxHeartbeats 1000000 in
theorem RRun_bad (w : World) (cv mv : Value) (os : List OpI) (zs : List Int) (k : Int) (hc : OAt w cv os) (hm : IAt w mv zs) (hbad : takesE os zs k ≠ 0) :
    Calls Try.prog 33 #[cv, mv, .int .i64 k] w fun e w' => ∃ ov tv, e = .returned (.tuple #[ov, tv, .int .i64 (runAns os zs k).e]) ∧ RunOut w w' (runAns os zs k) ov tv := by
  have HTK := hide (Takes_any w cv mv os zs k hc hm)
  have e : runAns os zs k = ⟨takesE os zs k, [], []⟩ := by unfold runAns; rw [if_pos hbad]
  rw [e]
  obtain ⟨ca, cc, rfl, -⟩ := hc
  obtain ⟨ma, mc, rfl, -⟩ := hm
  clear e
  generalize takesE os zs k = T at *
  go_enter Try.func33, Try.ntmps33
  go_wp2_with fail
  refine (unhide HTK).mono ?_
  rintro e w1 ⟨rfl, hb1⟩
  have HB1 := hide hb1
  clear hb1
  go_wp2_with fail
  refine bodyPost_ret (v := .tuple #[.slice none 0 0, .slice none 0 0, .int .i64 T]) (by simp [results, Try.results33, go_sem]) rfl ?_
  exact ⟨_, _, rfl, RunOut.nil (unhide HB1) _⟩

theorem RRun_any (w : World) (cv mv : Value) (os : List OpI) (zs : List Int) (k : Int) (hc : OAt w cv os) (hm : IAt w mv zs) :
    Calls Try.prog 33 #[cv, mv, .int .i64 k] w fun e w' => ∃ ov tv, e = .returned (.tuple #[ov, tv, .int .i64 (runAns os zs k).e]) ∧ RunOut w w' (runAns os zs k) ov tv := by
  cases hcb : codeB os with
  | false => exact RRun_bad w cv mv os zs k hc hm (by rw [tE8 hcb]; decide)
  | true =>
    cases hmb : memB zs with
    | false => exact RRun_bad w cv mv os zs k hc hm (by rw [tE9 hcb hmb]; decide)
    | true =>
      cases hsb : stepsB k with
      | false => exact RRun_bad w cv mv os zs k hc hm (by rw [tE4 hcb hmb hsb]; decide)
      | true =>
        obtain ⟨q, rfl⟩ : ∃ q : Nat, k = (q : Int) := ⟨k.toNat, by simp [stepsB] at hsb; omega⟩
        have hq : q ≤ 2097152 := by simp [stepsB] at hsb; omega
        rw [takes0 hcb hmb hsb, Int.toNat_natCast]
        exact RRun_good w cv mv os zs q hc hm hcb hmb hq

set_option maxHeartbeats 400000 in
theorem num_any (e : Int) (w : World) : Calls Try.prog 17 #[.int .i64 e] w fun r w' => r = .returned (.int .i64 e) ∧ w' = w := by
  go_enter Try.func17, Try.ntmps17
  go_wp2
  go_ret
  exact ⟨rfl, rfl⟩

set_option maxRecDepth 20000 in
set_option maxHeartbeats 1000000 in
theorem sameInts_any (w : World) (av bv : Value) (zs : List Int) (ha : IAt w av zs) (hb : IAt w bv zs) (hz : zs.length ≤ 17592186044416) :
    Calls Try.prog 34 #[av, bv] w fun e w' => e = .returned (.bool true) ∧ Below w.heap.size w w' := by
  obtain ⟨aa, ac, rfl, hac⟩ := ha
  obtain ⟨ba, bc, rfl, hbc⟩ := hb
  have HA := hide hac
  have HB := hide hbc
  have hzI : (zs.length : Int) ≤ 17592186044416 := by omega
  clear hac hbc hz
  go_enter Try.func34, Try.ntmps34
  go_wp2_with fail
  go_loopw [5] (fun ix wr => ∃ i : Nat, ix = .int .i64 (i : Int) ∧ Hid (i ≤ zs.length ∧ Below w.heap.size w wr)) (fun ix _ => lenLeft zs.length ix)
  case atStart => exact ⟨0, rfl, Nat.zero_le _, Below.refl _ _⟩
  case round =>
    rename World => wr
    obtain ⟨i, rfl, HH⟩ := hrel
    obtain ⟨hi, hBw⟩ := unhide HH
    have HBW := hide hBw
    by_cases hlt : i < zs.length
    · obtain ⟨b1, o1, rfl, h1⟩ := unhide HA (by omega)
      obtain ⟨b2, o2, rfl, h2⟩ := unhide HB (by omega)
      have c1 := below_cell hBw (h1 i hlt)
      have c2 := below_cell hBw (h2 i hlt)
      have hiI : (i : Int) < (zs.length : Int) := by omega
      have HLT := hide hlt
      clear HH hi hBw hlt h1 h2
      generalize zs.getD i 0 = z at *
      go_wp2_with fail
      go_region
      all_goals
        go_wp2_with fail
        go_roundw
        case rel => exact ⟨i + 1, by go_num, unhide HLT, (unhide HBW).drew⟩
        case measure => have := unhide HLT; simp [lenLeft, intOf]; omega
    · have hi2 : i = zs.length := by omega
      subst hi2
      clear HH hi hBw hlt
      go_wp2_with fail
      go_ret
      exact ⟨rfl, unhide HBW⟩

set_option maxRecDepth 20000 in
set_option maxHeartbeats 1000000 in
theorem sameOps_any (w : World) (av bv : Value) (os : List OpI) (ha : OAt w av os) (hb : OAt w bv os) (hz : os.length ≤ 4398046511104) :
    Calls Try.prog 37 #[av, bv] w fun e w' => e = .returned (.bool true) ∧ Below w.heap.size w w' := by
  obtain ⟨aa, ac, rfl, hac⟩ := ha
  obtain ⟨ba, bc, rfl, hbc⟩ := hb
  have HA := hide hac
  have HB := hide hbc
  have hzI : (os.length : Int) ≤ 4398046511104 := by omega
  clear hac hbc hz
  go_enter Try.func37, Try.ntmps37
  go_wp2_with fail
  go_loopw [5] (fun ix wr => ∃ i : Nat, ix = .int .i64 (i : Int) ∧ Hid (i ≤ os.length ∧ Below w.heap.size w wr)) (fun ix _ => lenLeft os.length ix)
  case atStart => exact ⟨0, rfl, Nat.zero_le _, Below.refl _ _⟩
  case round =>
    rename World => wr
    obtain ⟨i, rfl, HH⟩ := hrel
    obtain ⟨hi, hBw⟩ := unhide HH
    have HBW := hide hBw
    by_cases hlt : i < os.length
    · obtain ⟨b1, o1, rfl, h1⟩ := unhide HA (by omega)
      obtain ⟨b2, o2, rfl, h2⟩ := unhide HB (by omega)
      obtain ⟨c0, c1, c2, c3⟩ := (h1 i hlt).below hBw
      obtain ⟨d0, d1, d2, d3⟩ := (h2 i hlt).below hBw
      have hiI : (i : Int) < (os.length : Int) := by omega
      have HLT := hide hlt
      clear HH hi hBw hlt h1 h2
      generalize os.getD i op0 = o at *
      go_wp2_with fail
      go_region
      all_goals
        go_wp2_with fail
        go_roundw
        case rel => exact ⟨i + 1, by go_num, unhide HLT, (unhide HBW).drew⟩
        case measure => have := unhide HLT; simp [lenLeft, intOf]; omega
    · have hi2 : i = os.length := by omega
      subst hi2
      clear HH hi hBw hlt
      go_wp2_with fail
      go_ret
      exact ⟨rfl, unhide HBW⟩

/-- A row whose room is full of a number. -/
def Full (w : World) (v : Value) (n : Int) : Prop := v = .slice none 0 0 ∨ ∃ g len cap cur, v = .slice (some ⟨g, 0, none⟩) len cap ∧ w.heap[g]? = some (.cells cur 3 (0, 0)) ∧ cur.size = cap ∧ len ≤ cap ∧ cap ≤ maxLen ∧ ∀ j, j < cap → cur[j]? = some (.int .i64 n)
/-- A row with its room. -/
def Room (w : World) (v : Value) : Prop := v = .slice none 0 0 ∨ ∃ g len cap cur, v = .slice (some ⟨g, 0, none⟩) len cap ∧ w.heap[g]? = some (.cells cur 3 (0, 0)) ∧ cur.size = cap ∧ len ≤ cap ∧ cap ≤ maxLen
theorem NR.room {w : World} {B : Nat} {v : Value} {xs : List Nat} (h : NR w B v xs) : Room w v := by
  rcases h.2 with ⟨rfl, _⟩ | ⟨g, cap, cur, rfl, _, h1, h2, h3, h4, _⟩
  · exact .inl rfl
  · exact .inr ⟨g, _, cap, cur, rfl, h1, by simpa using h4, h2, h3⟩
theorem Room.fr {w w' : World} {v : Value} (h : Room w v) {S : List Nat} (f : Fr S w w') (hn : ∀ q, v.ownBlock = some q → q ∉ S) : Room w' v := by
  rcases h with rfl | ⟨g, len, cap, cur, rfl, h1, h2⟩
  · exact .inl rfl
  · exact .inr ⟨g, len, cap, cur, rfl, f.at h1 (hn g rfl), h2⟩
theorem Full.fr {w w' : World} {v : Value} {n : Int} (h : Full w v n) {S : List Nat} (f : Fr S w w') (hn : ∀ q, v.ownBlock = some q → q ∉ S) : Full w' v n := by
  rcases h with rfl | ⟨g, len, cap, cur, rfl, h1, h2⟩
  · exact .inl rfl
  · exact .inr ⟨g, len, cap, cur, rfl, f.at h1 (hn g rfl), h2⟩

set_option maxRecDepth 20000 in
set_option maxHeartbeats 1000000 in
theorem fill_any (w : World) (v : Value) (n : Int) (h : Room w v) :
    Calls Try.prog 61 #[v, .int .i64 n] w fun e w' => e = .returned (.tuple #[]) ∧ Fr v.ownBlock.toList w w' ∧ Full w' v n := by
  rcases h with rfl | ⟨g, len, cap, cur, rfl, h1, h2, h3, h4⟩
  · go_enter Try.func61, Try.ntmps61
    go_wp2_with fail
    go_loopw [5] (fun ix wr => ix = .int .i64 0 ∧ wr = w) (fun _ _ => 0)
    case atStart => exact ⟨rfl, rfl⟩
    case round =>
      obtain ⟨rfl, rfl⟩ := hrel
      go_wp2_with fail
      go_end0
      exact ⟨rfl, Fr.refl _ _, .inl rfl⟩
  · have hcI : (cap : Int) ≤ 9223372036854775807 := by unfold maxLen at h4; omega
    have hlI : (len : Int) ≤ (cap : Int) := by omega
    have H1 := hide h1
    have H2 := hide h2
    have H34 := hide (And.intro h3 h4)
    clear h1 h2 h3 h4
    go_enter Try.func61, Try.ntmps61
    go_wp2_with fail
    go_loopw [5] (fun ix wr => ∃ i : Nat, ix = .int .i64 (i : Int) ∧ Hid (i ≤ cap ∧ Fr [g] w wr ∧ ∃ cu, wr.heap[g]? = some (.cells cu 3 (0, 0)) ∧ cu.size = cap ∧ ∀ j, j < i → cu[j]? = some (.int .i64 n))) (fun ix _ => lenLeft cap ix)
    case atStart => exact ⟨0, rfl, Nat.zero_le _, Fr.refl _ _, cur, unhide H1, unhide H2, fun j hj => absurd hj (Nat.not_lt_zero _)⟩
    case round =>
      rename World => wr
      obtain ⟨i, rfl, HH⟩ := hrel
      obtain ⟨hi, hF, cu, hg, hs, hall⟩ := unhide HH
      have HF := hide hF
      have HG := hide hg
      have HS := hide hs
      have HALL := hide hall
      by_cases hlt : i < cap
      · have c0 : wr.cell? ⟨g, i, none⟩ = some (cu[i]'(by omega)) := by rw [cell_of_row _ _ _ _ _ _ hg]; exact Array.getElem?_eq_getElem _
        have f0 : wr.frozen? ⟨g, i, none⟩ = false := frozen_of_row _ _ _ _ _ hg
        have hiI : (i : Int) < (cap : Int) := by omega
        have HLT := hide hlt
        generalize cu[i]'(by omega) = y at *
        clear HH hi hF hg hs hall hlt
        go_wp2_with fail
        go_roundw
        case rel =>
          refine ⟨i + 1, by go_num, unhide HLT, (unhide HF).set (.inl (by simp)) _ _, cu.setIfInBounds i (.int .i64 n), heap_setCell_same _ _ _ _ _ _ (unhide HG), by simpa using unhide HS, fun j hj => ?_⟩
          rw [Array.getElem?_setIfInBounds]
          by_cases e : i = j
          · rw [if_pos e, if_pos (by rw [unhide HS]; exact unhide HLT)]
          · rw [if_neg e]; exact unhide HALL j (by omega)
        case measure => have := unhide HLT; simp [lenLeft, intOf]; omega
      · have hi2 : i = cap := by omega
        subst hi2
        clear HH hi hF hg hs hall hlt
        go_wp2_with fail
        go_end0
        exact ⟨rfl, unhide HF, .inr ⟨g, len, _, cu, rfl, unhide HG, unhide HS, (unhide H34).1, (unhide H34).2, unhide HALL⟩⟩

end Mc
end Go.Proofs.Ytnkdbcicphnmiaa
namespace Go.Proofs.Ytnkdbcicphnmiaa
namespace Mc
open Go.RowKit
attribute [local go_sem ↓] Go.wp_at_zero Go.wp_at_succ

def nilV : Value := .slice none 0 0
/-- Lists that came out: each with its room, no two in one block. -/
structure Lists (w : World) (vs : List Value) : Prop where
  room : ∀ i, i < vs.length → Room w (vs.getD i nilV)
  dj : ∀ i j, i < vs.length → j < vs.length → i ≠ j → DjV (vs.getD i nilV) (vs.getD j nilV)
def blocks (vs : List Value) : List Nat := vs.flatMap fun v => v.ownBlock.toList
theorem mem_blocks {vs : List Value} {i : Nat} (hi : i < vs.length) {q : Nat} (h : (vs.getD i nilV).ownBlock = some q) : q ∈ blocks vs := by
  unfold blocks
  rw [List.mem_flatMap]
  refine ⟨vs[i], List.getElem_mem _, ?_⟩
  rw [List.getD_eq_getElem?_getD, List.getElem?_eq_getElem hi] at h
  rw [Option.mem_toList]; exact h
theorem Room.slice {w : World} {v : Value} (h : Room w v) : ∃ a n c, v = .slice a n c := by
  rcases h with rfl | ⟨g, len, cap, cur, rfl, _⟩
  · exact ⟨_, _, _, rfl⟩
  · exact ⟨_, _, _, rfl⟩
theorem Full.slice {w : World} {v : Value} {n : Int} (h : Full w v n) : ∃ a n c, v = .slice a n c := by
  rcases h with rfl | ⟨g, len, cap, cur, rfl, _⟩
  · exact ⟨_, _, _, rfl⟩
  · exact ⟨_, _, _, rfl⟩
/-- While the lists are filled. -/
structure Filling (w wr : World) (vs : List Value) (i : Nat) : Prop where
  fr : Fr (blocks vs) w wr
  full : ∀ j, j < i → Full wr (vs.getD j nilV) (-3 - (j : Int))
  room : ∀ j, i ≤ j → j < vs.length → Room wr (vs.getD j nilV)
theorem Filling.step {w wr w2 : World} {vs : List Value} {i : Nat} (h : Filling w wr vs i) (hL : Lists w vs) (hi : i < vs.length) (hf : Fr (vs.getD i nilV).ownBlock.toList wr w2) (hu : Full w2 (vs.getD i nilV) (-3 - (i : Int))) : Filling w w2 vs (i + 1) := by
  refine ⟨h.fr.and hf (fun x hx => .inl (mem_blocks hi (Option.mem_toList.1 hx))), fun j hj => ?_, fun j h1 h2 => ?_⟩
  · by_cases e : j = i
    · subst e; exact hu
    · exact (h.full j (by omega)).fr hf (fun q hq hm => hL.dj j i (by omega) hi e q hq (Option.mem_toList.1 hm))
  · exact (h.room j (by omega) h2).fr hf (fun q hq hm => hL.dj j i h2 hi (by omega) q hq (Option.mem_toList.1 hm))

set_option maxRecDepth 20000 in
set_option maxHeartbeats 1000000 in
theorem own_any (w : World) (gl : Nat) (vs : List Value) (hg : w.heap[gl]? = some (.cells vs.toArray 23 (0, 0))) (hL : Lists w vs) (hn : vs.length ≤ 1000) (hgb : gl ∉ blocks vs) :
    Calls Try.prog 36 #[.slice (some ⟨gl, 0, none⟩) vs.length vs.length] w fun e w' => e = .returned (.bool true) ∧ Fr (blocks vs) w w' := by
  have hnI : (vs.length : Int) ≤ 1000 := by omega
  have HC : Hid (∀ wr, Fr (blocks vs) w wr → ∀ i, i < vs.length → wr.cell? ⟨gl, i, none⟩ = some (vs.getD i nilV)) := fun wr hf i hi => by
    rw [cell_of_row _ _ _ _ _ _ (hf.at hg hgb), List.getElem?_toArray, List.getD_eq_getElem?_getD, List.getElem?_eq_getElem hi]; rfl
  have HL := hide hL
  have H0 : Hid (Filling w w vs 0) := ⟨Fr.refl _ _, fun j hj => absurd hj (Nat.not_lt_zero _), fun j _ h2 => hL.room j h2⟩
  clear hg hL hn hgb
  go_enter Try.func36, Try.ntmps36
  go_wp2_with fail
  go_loopw [3] (fun ix wr => ∃ i : Nat, ix = .int .i64 (i : Int) ∧ Hid (i ≤ vs.length ∧ Filling w wr vs i)) (fun ix _ => lenLeft vs.length ix)
  case atStart => exact ⟨0, rfl, Nat.zero_le _, unhide H0⟩
  case round =>
    clear H0
    rename World => wr
    obtain ⟨i, rfl, HH⟩ := hrel
    obtain ⟨hi, hF⟩ := unhide HH
    have HF := hide hF
    by_cases hlt : i < vs.length
    · have c0 := unhide HC wr hF.fr i hlt
      have hiI : (i : Int) < (vs.length : Int) := by omega
      have hRo := hF.room i (Nat.le_refl _) hlt
      have HFI := hide (fill_any wr _ (-3 - (i : Int)) hRo)
      obtain ⟨a, m, c, hv⟩ := hRo.slice
      have HV := hide hv
      rw [hv] at c0 HFI
      have HLT := hide hlt
      clear HH hi hF hlt hRo hv
      go_wp2_with fail
      refine (unhide HFI).mono ?_
      rintro e w1 ⟨rfl, hf1, hu1⟩
      rw [← unhide HV] at hf1 hu1
      have HF1 := hide ((unhide HF).step (unhide HL) (unhide HLT) hf1 hu1)
      clear hf1 hu1
      go_wp2_with fail
      go_roundw
      case rel => exact ⟨i + 1, by go_num, unhide HLT, unhide HF1⟩
      case measure => have := unhide HLT; simp [lenLeft, intOf]; omega
    · have hi2 : i = vs.length := by omega
      subst hi2
      have H0 : Hid (Fr (blocks vs) w wr ∧ ∀ j, j < vs.length → Full wr (vs.getD j nilV) (-3 - (j : Int))) := ⟨hF.fr, hF.full⟩
      clear HH hi hF hlt HF
      go_wp2_with fail
      go_loopw [4] (fun ix wr => ∃ i : Nat, ix = .int .i64 (i : Int) ∧ Hid (i ≤ vs.length ∧ Fr (blocks vs) w wr ∧ ∀ j, j < vs.length → Full wr (vs.getD j nilV) (-3 - (j : Int)))) (fun ix _ => lenLeft vs.length ix)
      case atStart => exact ⟨0, rfl, Nat.zero_le _, unhide H0⟩
      case round =>
        clear H0
        rename World => wr
        obtain ⟨i, rfl, HH⟩ := hrel
        obtain ⟨hi, hF, hall⟩ := unhide HH
        have HF := hide hF
        have HALL := hide hall
        by_cases hlt : i < vs.length
        · have c0 := unhide HC wr hF i hlt
          have hiI : (i : Int) < (vs.length : Int) := by omega
          have HLT := hide hlt
          have hfu := hall i hlt
          have HN : Hid (Fr (blocks vs) w wr.drew ∧ ∀ j, j < vs.length → Full wr.drew (vs.getD j nilV) (-3 - (j : Int))) := ⟨hF.drew, hall⟩
          generalize vs.getD i nilV = v at *
          clear HH hi hF hlt hall
          rcases hfu with rfl | ⟨g, len, cap, cur, rfl, h1, h2, h3, h4, h5⟩
          · go_wp2_with fail
            go_region
            go_wp2_with fail
            go_loopw [6] (fun ix wx => ix = .int .i64 0 ∧ wx = wr.drew) (fun _ _ => 0)
            case atStart => exact ⟨rfl, rfl⟩
            case round =>
              obtain ⟨rfl, rfl⟩ := hrel
              go_wp2_with fail
              go_roundw
              case rel => exact ⟨i + 1, by go_num, unhide HLT, unhide HN⟩
              case measure => have := unhide HLT; simp [lenLeft, intOf]; omega
          · have hcI : (cap : Int) ≤ 9223372036854775807 := by unfold maxLen at h4; omega
            have hlI : (len : Int) ≤ (cap : Int) := by omega
            have H5 : Hid (∀ j, j < cap → wr.cell? ⟨g, j, none⟩ = some (.int .i64 (-3 - (i : Int)))) := fun j hj => by rw [cell_of_row _ _ _ _ _ _ h1]; exact h5 j hj
            clear h1 h2 h3 h4 h5
            go_wp2_with fail
            go_region
            go_wp2_with fail
            go_loopw [6] (fun ix wx => ∃ k : Nat, ix = .int .i64 (k : Int) ∧ wx = wr.drew ∧ Hid (k ≤ cap)) (fun ix _ => lenLeft cap ix)
            case atStart => exact ⟨0, rfl, rfl, Nat.zero_le _⟩
            case round =>
              obtain ⟨k, rfl, rfl, HH⟩ := hrel
              have hk := unhide HH
              by_cases hkl : k < cap
              · have c1 := unhide H5 k hkl
                have hkI : (k : Int) < (cap : Int) := by omega
                have HKL := hide hkl
                clear HH hk hkl
                go_wp2_with fail
                go_roundw
                case rel => exact ⟨k + 1, by go_num, by trivial, unhide HKL⟩
                case measure => have := unhide HKL; simp [lenLeft, intOf]; omega
              · have hk2 : k = cap := by omega
                subst hk2
                clear HH hk hkl
                go_wp2_with fail
                go_roundw
                case rel => exact ⟨i + 1, by go_num, unhide HLT, unhide HN⟩
                case measure => have := unhide HLT; simp [lenLeft, intOf]; omega
        · have hi2 : i = vs.length := by omega
          subst hi2
          clear HH hi hF hlt hall
          go_wp2_with fail
          go_ret
          exact ⟨rfl, unhide HF⟩

end Mc
end Go.Proofs.Ytnkdbcicphnmiaa
