/-
  judge.Check.
  table.allBelow.
-/
import Derived.Test.YtnkdbcicphnmiaaT08
namespace Go.Proofs.Ytnkdbcicphnmiaa
namespace Mc
open Go.RowKit
attribute [local go_sem ↓] Go.wp_at_zero Go.wp_at_succ

theorem OR.oat {w : World} {B : Nat} {v : Value} {os : List OpI} (h : OR w B v os) : OAt w v os := by
  obtain ⟨a, c, rfl⟩ := h.form
  refine ⟨a, c, rfl, fun hp => ?_⟩
  have h' : w.ownsRow B 62 4 (.slice a os.length c) os.length (oCells os) := h
  obtain ⟨g, cap, e⟩ := own_form h' hp
  simp only [Value.slice.injEq, true_and] at e
  obtain ⟨rfl, rfl⟩ := e
  refine ⟨g, 0, rfl, fun j hj => ?_⟩
  have hc : ∀ i u, i < 4 → (ocs (os.getD j op0))[i]? = some u → w.cell? ⟨g, j * 4 + i, none⟩ = some u := fun i u hi hu => by
    have := h'.cells (g := g) rfl (j * 4 + i) u (by rw [oCells_get os j i hj hi]; exact hu)
    rwa [add0] at this
  rw [Nat.zero_add]
  exact ⟨hc 0 _ (by decide) rfl, hc 1 _ (by decide) rfl, hc 2 _ (by decide) rfl, hc 3 _ (by decide) rfl⟩
theorem layD_pos (f : ByteArray) (m : Nat) (ts : Nat → TabN) : 0 < (layD f m ts m).length := by
  obtain ⟨r, hr⟩ := layD_pre f m ts 0 m
  rw [Nat.zero_add] at hr
  rw [hr, List.length_append, layD, verdW_len]
  have : 0 < 2 ^ m := Nat.pow_pos (by decide)
  omega

set_option maxRecDepth 20000 in
set_option maxHeartbeats 1000000 in
theorem Check_long (w : World) (gi N m tc : Nat) (f : ByteArray) (ta : Option Addr) (h : ImB w gi N f ta m tc) (hN : N ≤ 16) (s : ByteArray) (hs : N < s.size) (hs2 : s.size ≤ 9223372036854775807) :
    Calls Try.prog 54 #[.pointer (some ⟨gi, 0, none⟩), .string s] w fun e w' => e = .returned (.tuple #[.bool false, .slice none 0 0, .int .i64 1]) ∧ Below w.heap.size w w' := by
  have HM := hide (Most_any w gi N m tc f ta h)
  have hsI : (N : Int) < (s.size : Int) := by omega
  have hs3 : (s.size : Int) ≤ 9223372036854775807 := by omega
  have hNI : (N : Int) ≤ 16 := by omega
  clear h
  go_enter Try.func54, Try.ntmps54
  go_wp2_with fail
  refine (unhide HM).mono ?_
  rintro e w1 ⟨rfl, hww⟩
  rw [hww]
  clear hww
  go_wp2_with fail
  refine bodyPost_ret (v := .tuple #[.bool false, .slice none 0 0, .int .i64 1]) (by simp [results, Try.results54, go_sem]) rfl ?_
  exact ⟨rfl, Below.refl _ _⟩

set_option maxRecDepth 20000 in
set_option maxHeartbeats 1000000 in
theorem Check_ok (w : World) (gi N m tc g : Nat) (f : ByteArray) (ts : Nat → TabN) (h : ImB w gi N f (some ⟨g, 0, none⟩) m tc) (ht : Tbs w w.heap.size g m ts) (hm : m ≤ 4) (hf : f.size ≤ 1000) (hN : N ≤ 16) (s : ByteArray) (hs : s.size ≤ N) :
    Calls Try.prog 54 #[.pointer (some ⟨gi, 0, none⟩), .string s] w fun e w' => ∃ tv, e = .returned (.tuple #[.bool (trueF f (ruleT m ts (btsN s))), tv, .int .i64 0]) ∧ Below w.heap.size w w' ∧ NR w' w.heap.size tv (codeT 32 N (layP f m ts m)) := by
  have hok : ∀ i, i < m → (ts i).Ok := fun i hi => by obtain ⟨_, _, _, hr⟩ := ht.at_ i hi; exact hr.ok
  obtain ⟨M, hM, hans⟩ := judged (f := f) (s := s) hok hm hN hs
  have HM := hide (Most_any w gi N m tc f _ h)
  have HCO := hide (Code_any w gi N m tc g f ts h ht hm hf hN)
  have HDL : Hid ((layD f m ts m).length ≤ 4000) := by have := layD_len f m ts hok hm m (Nat.le_refl _); show _ ≤ _; omega
  have HDP := hide (layD_pos f m ts)
  have hsI : (s.size : Int) ≤ (N : Int) := by omega
  have hNI : (N : Int) ≤ 16 := by omega
  have HS : Hid (s.size ≤ 16) := by show _ ≤ _; omega
  have HANS := hide hans
  have HML := hide hM
  clear h ht hm hf hN hok hans hM hs
  generalize layD f m ts m = ds at *
  generalize codeOf 32 N (layP f m ts m) = os at *
  generalize codeT 32 N (layP f m ts m) = T at *
  generalize trueF f (ruleT m ts (btsN s)) = y at *
  go_enter Try.func54, Try.ntmps54
  go_wp2_with fail
  refine (unhide HM).mono ?_
  rintro e w1 ⟨rfl, hww⟩
  rw [hww]
  clear hww HM
  go_wp2_with fail
  refine (unhide HCO).mono ?_
  rintro e w2 ⟨cv, dv, rfl, hb2, ho2, hn2⟩
  obtain ⟨ca, cc, rfl⟩ := ho2.form
  have HME := hide (memory_any w2 s w.heap.size dv ds hn2 (unhide HDP) (unhide HDL) (unhide HS))
  obtain ⟨da, dc, rfl⟩ := hn2.form
  have HB2 := hide hb2
  have HO2 := hide ho2
  clear hb2 ho2 hn2 HCO
  go_wp2_with fail
  refine (unhide HME).mono ?_
  rintro e w3 ⟨mv, rfl, hb3, hn3⟩
  have HRU := hide (Run_any w3 _ mv os _ 2097152 ((unhide HO2).oat.below hb3) hn3.iat)
  rw [show runAns os ((memW s s.size ++ ds).map Int.ofNat) 2097152 = _ from unhide HANS] at HRU
  obtain ⟨ma, mc, rfl⟩ := hn3.form
  have HB3 : Hid (Below w.heap.size w w3) := (unhide HB2).trans (hb3.mono (unhide HB2).size)
  clear hb3 hn3 HME HB2 HO2
  generalize memW s s.size ++ ds = zs at *
  go_wp2_with fail
  refine (unhide HRU).mono ?_
  rintro e w4 ⟨ov, tv, rfl, hr⟩
  obtain ⟨g5, cap5, he, c5⟩ := hr.out.at (k := 17) (by show 17 < (M.set 17 _).length; rw [List.length_set]; have := unhide HML; omega)
  subst he
  have hln : (M.set 17 y.toNat).length = 4096 := by rw [List.length_set]; exact unhide HML
  have hc5 : w4.cell? ⟨g5, 17, none⟩ = some (.int .i64 ((y.toNat : Nat) : Int)) := by
    rw [c5]
    show some (Value.int _ (((M.set 17 y.toNat).getD 17 0 : Nat) : Int)) = _
    rw [getD_set_eq (by have := unhide HML; omega)]
  obtain ⟨ta, tc5, rfl⟩ := hr.tr.form
  have HTR : Hid (NR w4 w3.heap.size (.slice ta T.length tc5) T) := hr.tr
  have HB4 : Hid (Below w.heap.size w w4) := (unhide HB3).trans (hr.below.mono (unhide HB3).size)
  have HSZ : Hid (w.heap.size ≤ w3.heap.size) := (unhide HB3).size
  simp only [hln]
  clear hr c5 hln HRU HB3 HANS
  cases y
  · simp only [Bool.toNat_false] at hc5
    go_wp2_with fail
    refine bodyPost_ret (v := .tuple #[.bool false, .slice ta T.length tc5, .int .i64 0]) (by simp [results, Try.results54, go_sem]) rfl ?_
    exact ⟨_, rfl, unhide HB4, (unhide HTR).less (unhide HSZ)⟩
  · simp only [Bool.toNat_true] at hc5
    go_wp2_with fail
    refine bodyPost_ret (v := .tuple #[.bool true, .slice ta T.length tc5, .int .i64 0]) (by simp [results, Try.results54, go_sem]) rfl ?_
    exact ⟨_, rfl, unhide HB4, (unhide HTR).less (unhide HSZ)⟩

end Mc
end Go.Proofs.Ytnkdbcicphnmiaa
namespace Go.Proofs.Ytnkdbcicphnmiaa
namespace Mc
open Go.RowKit
attribute [local go_sem ↓] Go.wp_at_zero Go.wp_at_succ

/-- Every byte is below a bound. -/
def blw (t : ByteArray) (c : Nat) : Bool := (List.range t.size).all fun i => decide (bt t i < c)
theorem blw_true {t : ByteArray} {c : Nat} : blw t c = true ↔ ∀ i, i < t.size → bt t i < c := by
  unfold blw; rw [List.all_eq_true]
  constructor
  · intro h i hi; simpa using h i (List.mem_range.2 hi)
  · intro h i hi; simpa using h i (List.mem_range.1 hi)

set_option maxRecDepth 20000 in
set_option maxHeartbeats 1000000 in
theorem allBelow_any (w : World) (t : ByteArray) (c : Nat) (ht : t.size ≤ 100000) (hc : c ≤ 1000) :
    Calls Try.prog 118 #[.string t, .int .i64 (c : Int)] w fun e w' => e = .returned (.bool (blw t c)) ∧ w' = w := by
  have htI : (t.size : Int) ≤ 100000 := by omega
  have hcI : (c : Int) ≤ 1000 := by omega
  go_enter Try.func118, Try.ntmps118
  go_wp2_with fail
  go_loop [5] (fun ix => ∃ i : Nat, ix = .int .i64 (i : Int) ∧ Hid (i ≤ t.size ∧ ∀ j, j < i → bt t j < c)) (fun ix => lenLeft t.size ix)
  case atStart => exact ⟨0, rfl, Nat.zero_le _, fun j hj => by omega⟩
  case round =>
    obtain ⟨i, rfl, HH⟩ := hrel
    obtain ⟨hi, hj⟩ := unhide HH
    clear HH
    by_cases hlt : i < t.size
    · have hltI : (i : Int) < (t.size : Int) := by omega
      have hb := bt_at t i
      have hbI : ((bt t i : Nat) : Int) < 256 := by have := bt_le t i; omega
      have h0 : (0 : Int) ≤ (i : Int) := by omega
      have h1 : ((i : Int)).toNat = i := by omega
      by_cases hbl : bt t i < c
      · have hblI : ((bt t i : Nat) : Int) < (c : Int) := by omega
        have HJ : Hid (∀ j, j < i + 1 → bt t j < c) := fun j hj' => by
          by_cases e : j = i
          · rw [e]; exact hbl
          · exact hj j (by omega)
        have HLT := hide hlt
        clear hi hj hbl
        go_wp2_with fail
        go_round
        case rel => exact ⟨i + 1, by go_num, unhide HLT, unhide HJ⟩
        case measure => have := unhide HLT; simp [lenLeft, intOf]; omega
      · have hblI : ¬ ((bt t i : Nat) : Int) < (c : Int) := by omega
        have hblJ : (c : Int) ≤ ((bt t i : Nat) : Int) := by omega
        have HE : Hid (blw t c = false) := by
          show _ = _
          cases he : blw t c
          · rfl
          · exact absurd (blw_true.1 he i hlt) hbl
        clear hi hj hbl
        go_wp2_with fail
        go_ret
        rw [unhide HE]
        exact ⟨rfl, rfl⟩
    · have hltI : ¬ (i : Int) < (t.size : Int) := by omega
      have HE : Hid (blw t c = true) := blw_true.2 fun j hj' => hj j (by omega)
      clear hi hj
      go_wp2_with fail
      go_ret
      rw [unhide HE]
      exact ⟨rfl, rfl⟩

end Mc
end Go.Proofs.Ytnkdbcicphnmiaa
