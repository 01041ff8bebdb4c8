/-
  veilref.Run whole; veillaw: num, sameInts, sameOps, fill.
-/
import Derived.Test.YtohefinejdfhaaaNp
namespace Go.Proofs.Ytohefinejdfhaaa
namespace Mc
open Go.RowKit
attribute [local go_sem ↓] Go.wp_at_zero Go.wp_at_succ

set_option maxRecDepth 20000 in
set_option maxHeartbeats 1000000 in
theorem RRun_bad (w : World) (cv mv : Value) (os : List OpI) (zs : List Int) (k : Int) (hc : OAt w cv os) (hm : IAt w mv zs) (hbad : takesE os zs k ≠ 0) :
    Calls Try.prog 42 #[cv, mv, .int .i64 k] w fun e w' => ∃ ov tv, e = .returned (.tuple #[ov, tv, .int .i64 (runAns os zs k).e]) ∧ RunOut w w' (runAns os zs k) ov tv := by
  have HTK := hide (Takes_any w cv mv os zs k hc hm)
  have e : runAns os zs k = ⟨takesE os zs k, [], []⟩ := by unfold runAns; rw [if_pos hbad]
  rw [e]
  obtain ⟨ca, cc, rfl, -⟩ := hc
  obtain ⟨ma, mc, rfl, -⟩ := hm
  clear e
  generalize takesE os zs k = T at *
  go_enter Try.func42, Try.ntmps42
  go_wp2_with fail
  refine (unhide HTK).mono ?_
  rintro e w1 ⟨rfl, hb1⟩
  have HB1 := hide hb1
  clear hb1
  go_wp2_with fail
  refine bodyPost_ret (v := .tuple #[.slice none 0 0, .slice none 0 0, .int .i64 T]) (by simp [results, Try.results42, go_sem]) rfl ?_
  exact ⟨_, _, rfl, RunOut.nil (unhide HB1) _⟩

theorem RRun_any (w : World) (cv mv : Value) (os : List OpI) (zs : List Int) (k : Int) (hc : OAt w cv os) (hm : IAt w mv zs) :
    Calls Try.prog 42 #[cv, mv, .int .i64 k] w fun e w' => ∃ ov tv, e = .returned (.tuple #[ov, tv, .int .i64 (runAns os zs k).e]) ∧ RunOut w w' (runAns os zs k) ov tv := by
  cases hcb : codeB os with
  | false => exact RRun_bad w cv mv os zs k hc hm (by rw [tE8 hcb]; decide)
  | true =>
    cases hmb : memB zs with
    | false => exact RRun_bad w cv mv os zs k hc hm (by rw [tE9 hcb hmb]; decide)
    | true =>
      cases hsb : stepsB k with
      | false => exact RRun_bad w cv mv os zs k hc hm (by rw [tE4 hcb hmb hsb]; decide)
      | true =>
        obtain ⟨q, rfl⟩ : ∃ q : Nat, k = (q : Int) := ⟨k.toNat, by simp [stepsB] at hsb; omega⟩
        have hq : q ≤ 2097152 := by simp [stepsB] at hsb; omega
        rw [takes0 hcb hmb hsb, Int.toNat_natCast]
        exact RRun_good w cv mv os zs q hc hm hcb hmb hq

set_option maxHeartbeats 400000 in
theorem num_any (e : Int) (w : World) : Calls Try.prog 14 #[.int .i64 e] w fun r w' => r = .returned (.int .i64 e) ∧ w' = w := by
  go_enter Try.func14, Try.ntmps14
  go_wp2
  go_ret
  exact ⟨rfl, rfl⟩

set_option maxRecDepth 20000 in
set_option maxHeartbeats 1000000 in
theorem sameInts_any (w : World) (av bv : Value) (zs : List Int) (ha : IAt w av zs) (hb : IAt w bv zs) (hz : zs.length ≤ 17592186044416) :
    Calls Try.prog 43 #[av, bv] w fun e w' => e = .returned (.bool true) ∧ Below w.heap.size w w' := by
  obtain ⟨aa, ac, rfl, hac⟩ := ha
  obtain ⟨ba, bc, rfl, hbc⟩ := hb
  have HA := hide hac
  have HB := hide hbc
  have hzI : (zs.length : Int) ≤ 17592186044416 := by omega
  clear hac hbc hz
  go_enter Try.func43, Try.ntmps43
  go_wp2_with fail
  go_loopw [5] (fun ix wr => ∃ i : Nat, ix = .int .i64 (i : Int) ∧ Hid (i ≤ zs.length ∧ Below w.heap.size w wr)) (fun ix _ => lenLeft zs.length ix)
  case atStart => exact ⟨0, rfl, Nat.zero_le _, Below.refl _ _⟩
  case round =>
    rename World => wr
    obtain ⟨i, rfl, HH⟩ := hrel
    obtain ⟨hi, hBw⟩ := unhide HH
    have HBW := hide hBw
    by_cases hlt : i < zs.length
    · obtain ⟨b1, o1, rfl, h1⟩ := unhide HA (by omega)
      obtain ⟨b2, o2, rfl, h2⟩ := unhide HB (by omega)
      have c1 := below_cell hBw (h1 i hlt)
      have c2 := below_cell hBw (h2 i hlt)
      have hiI : (i : Int) < (zs.length : Int) := by omega
      have HLT := hide hlt
      clear HH hi hBw hlt h1 h2
      generalize zs.getD i 0 = z at *
      go_wp2_with fail
      go_region
      all_goals
        go_wp2_with fail
        go_roundw
        case rel => exact ⟨i + 1, by go_num, unhide HLT, (unhide HBW).drew⟩
        case measure => have := unhide HLT; simp [lenLeft, intOf]; omega
    · have hi2 : i = zs.length := by omega
      subst hi2
      clear HH hi hBw hlt
      go_wp2_with fail
      go_ret
      exact ⟨rfl, unhide HBW⟩

set_option maxRecDepth 20000 in
set_option maxHeartbeats 1000000 in
theorem sameOps_any (w : World) (av bv : Value) (os : List OpI) (ha : OAt w av os) (hb : OAt w bv os) (hz : os.length ≤ 4398046511104) :
    Calls Try.prog 47 #[av, bv] w fun e w' => e = .returned (.bool true) ∧ Below w.heap.size w w' := by
  obtain ⟨aa, ac, rfl, hac⟩ := ha
  obtain ⟨ba, bc, rfl, hbc⟩ := hb
  have HA := hide hac
  have HB := hide hbc
  have hzI : (os.length : Int) ≤ 4398046511104 := by omega
  clear hac hbc hz
  go_enter Try.func47, Try.ntmps47
  go_wp2_with fail
  go_loopw [5] (fun ix wr => ∃ i : Nat, ix = .int .i64 (i : Int) ∧ Hid (i ≤ os.length ∧ Below w.heap.size w wr)) (fun ix _ => lenLeft os.length ix)
  case atStart => exact ⟨0, rfl, Nat.zero_le _, Below.refl _ _⟩
  case round =>
    rename World => wr
    obtain ⟨i, rfl, HH⟩ := hrel
    obtain ⟨hi, hBw⟩ := unhide HH
    have HBW := hide hBw
    by_cases hlt : i < os.length
    · obtain ⟨b1, o1, rfl, h1⟩ := unhide HA (by omega)
      obtain ⟨b2, o2, rfl, h2⟩ := unhide HB (by omega)
      obtain ⟨c0, c1, c2, c3⟩ := (h1 i hlt).below hBw
      obtain ⟨d0, d1, d2, d3⟩ := (h2 i hlt).below hBw
      have hiI : (i : Int) < (os.length : Int) := by omega
      have HLT := hide hlt
      clear HH hi hBw hlt h1 h2
      generalize os.getD i default = o at *
      go_wp2_with fail
      go_region
      all_goals
        go_wp2_with fail
        go_roundw
        case rel => exact ⟨i + 1, by go_num, unhide HLT, (unhide HBW).drew⟩
        case measure => have := unhide HLT; simp [lenLeft, intOf]; omega
    · have hi2 : i = os.length := by omega
      subst hi2
      clear HH hi hBw hlt
      go_wp2_with fail
      go_ret
      exact ⟨rfl, unhide HBW⟩

/-- A row whose room is full of a number. -/
def Full (w : World) (v : Value) (n : Int) : Prop := v = .slice none 0 0 ∨ ∃ g len cap cur, v = .slice (some ⟨g, 0, none⟩) len cap ∧ w.heap[g]? = some (.cells cur 3 (0, 0)) ∧ cur.size = cap ∧ len ≤ cap ∧ cap ≤ maxLen ∧ ∀ j, j < cap → cur[j]? = some (.int .i64 n)
/-- A row with its room. -/
def Room (w : World) (v : Value) : Prop := v = .slice none 0 0 ∨ ∃ g len cap cur, v = .slice (some ⟨g, 0, none⟩) len cap ∧ w.heap[g]? = some (.cells cur 3 (0, 0)) ∧ cur.size = cap ∧ len ≤ cap ∧ cap ≤ maxLen
theorem NR.room {w : World} {B : Nat} {v : Value} {xs : List Nat} (h : NR w B v xs) : Room w v := by
  rcases h.2 with ⟨rfl, _⟩ | ⟨g, cap, cur, rfl, _, h1, h2, h3, h4, _⟩
  · exact .inl rfl
  · exact .inr ⟨g, _, cap, cur, rfl, h1, by simpa using h4, h2, h3⟩
theorem Room.fr {w w' : World} {v : Value} (h : Room w v) {S : List Nat} (f : Fr S w w') (hn : ∀ q, v.ownBlock = some q → q ∉ S) : Room w' v := by
  rcases h with rfl | ⟨g, len, cap, cur, rfl, h1, h2⟩
  · exact .inl rfl
  · exact .inr ⟨g, len, cap, cur, rfl, f.at h1 (hn g rfl), h2⟩
theorem Full.fr {w w' : World} {v : Value} {n : Int} (h : Full w v n) {S : List Nat} (f : Fr S w w') (hn : ∀ q, v.ownBlock = some q → q ∉ S) : Full w' v n := by
  rcases h with rfl | ⟨g, len, cap, cur, rfl, h1, h2⟩
  · exact .inl rfl
  · exact .inr ⟨g, len, cap, cur, rfl, f.at h1 (hn g rfl), h2⟩

set_option maxRecDepth 20000 in
set_option maxHeartbeats 1000000 in
theorem fill_any (w : World) (v : Value) (n : Int) (h : Room w v) :
    Calls Try.prog 80 #[v, .int .i64 n] w fun e w' => e = .returned (.tuple #[]) ∧ Fr v.ownBlock.toList w w' ∧ Full w' v n := by
  rcases h with rfl | ⟨g, len, cap, cur, rfl, h1, h2, h3, h4⟩
  · go_enter Try.func80, Try.ntmps80
    go_wp2_with fail
    go_loopw [5] (fun ix wr => ix = .int .i64 0 ∧ wr = w) (fun _ _ => 0)
    case atStart => exact ⟨rfl, rfl⟩
    case round =>
      obtain ⟨rfl, rfl⟩ := hrel
      go_wp2_with fail
      go_end0
      exact ⟨rfl, Fr.refl _ _, .inl rfl⟩
  · have hcI : (cap : Int) ≤ 9223372036854775807 := by unfold maxLen at h4; omega
    have hlI : (len : Int) ≤ (cap : Int) := by omega
    have H1 := hide h1
    have H2 := hide h2
    have H34 := hide (And.intro h3 h4)
    clear h1 h2 h3 h4
    go_enter Try.func80, Try.ntmps80
    go_wp2_with fail
    go_loopw [5] (fun ix wr => ∃ i : Nat, ix = .int .i64 (i : Int) ∧ Hid (i ≤ cap ∧ Fr [g] w wr ∧ ∃ cu, wr.heap[g]? = some (.cells cu 3 (0, 0)) ∧ cu.size = cap ∧ ∀ j, j < i → cu[j]? = some (.int .i64 n))) (fun ix _ => lenLeft cap ix)
    case atStart => exact ⟨0, rfl, Nat.zero_le _, Fr.refl _ _, cur, unhide H1, unhide H2, fun j hj => absurd hj (Nat.not_lt_zero _)⟩
    case round =>
      rename World => wr
      obtain ⟨i, rfl, HH⟩ := hrel
      obtain ⟨hi, hF, cu, hg, hs, hall⟩ := unhide HH
      have HF := hide hF
      have HG := hide hg
      have HS := hide hs
      have HALL := hide hall
      by_cases hlt : i < cap
      · have c0 : wr.cell? ⟨g, i, none⟩ = some (cu[i]'(by omega)) := by rw [cell_of_row _ _ _ _ _ _ hg]; exact Array.getElem?_eq_getElem _
        have f0 : wr.frozen? ⟨g, i, none⟩ = false := frozen_of_row _ _ _ _ _ hg
        have hiI : (i : Int) < (cap : Int) := by omega
        have HLT := hide hlt
        generalize cu[i]'(by omega) = y at *
        clear HH hi hF hg hs hall hlt
        go_wp2_with fail
        go_roundw
        case rel =>
          refine ⟨i + 1, by go_num, unhide HLT, (unhide HF).set (.inl (by simp)) _ _, cu.setIfInBounds i (.int .i64 n), heap_setCell_same _ _ _ _ _ _ (unhide HG), by simpa using unhide HS, fun j hj => ?_⟩
          rw [Array.getElem?_setIfInBounds]
          by_cases e : i = j
          · rw [if_pos e, if_pos (by rw [unhide HS]; exact unhide HLT)]
          · rw [if_neg e]; exact unhide HALL j (by omega)
        case measure => have := unhide HLT; simp [lenLeft, intOf]; omega
      · have hi2 : i = cap := by omega
        subst hi2
        clear HH hi hF hg hs hall hlt
        go_wp2_with fail
        go_end0
        exact ⟨rfl, unhide HF, .inr ⟨g, len, _, cu, rfl, unhide HG, unhide HS, (unhide H34).1, (unhide H34).2, unhide HALL⟩⟩

end Mc
end Go.Proofs.Ytohefinejdfhaaa
