/-
  veillaw.checks: what the statement asks of Check.
-/
import Derived.Test.YtnkdbcicphnmiaaQo
namespace Go.Proofs.Ytnkdbcicphnmiaa
namespace Mc
open Go.RowKit
attribute [local go_sem ↓] Go.wp_at_zero Go.wp_at_succ

theorem runN_T {cs : List OpI} : ∀ (n : Nat) (s s' : MS), runN cs n s = .ok s' → s'.T.length ≤ s.T.length + n := by
  intro n
  induction n with
  | zero =>
    intro s s' h
    by_cases hp : cs.length ≤ s.p
    · rw [runN_ends hp] at h; cases h; omega
    · rw [runN_zero (by omega)] at h; cases h
  | succ n ih =>
    intro s s' h
    by_cases hp : cs.length ≤ s.p
    · rw [runN_ends hp] at h; cases h; omega
    · cases hs : stepN (cs.getD s.p op0) s with
      | none => rw [runN_addr (by omega) hs] at h; cases h
      | some s1 =>
        rw [runN_step (by omega) hs] at h
        have := ih s1 s' h
        have := stepN_T hs
        omega
theorem trace_le {os : List OpI} {zs : List Int} {M T : List Nat} (h : runAns os zs 2097152 = ⟨0, M, T⟩) : T.length ≤ 2097152 := by
  unfold runAns at h
  split at h
  · have hT : [] = T := congrArg RunAns.T h
    rw [← hT]; exact Nat.zero_le _
  · cases hr : runN os (2097152 : Int).toNat (ms0 zs) with
    | ok s' =>
      rw [hr] at h
      have := runN_T _ _ _ hr
      cases h
      have e : (ms0 zs).T.length = 0 := rfl
      have e2 : (2097152 : Int).toNat = 2097152 := rfl
      omega
    | error k =>
      rw [hr] at h
      have hT : [] = T := congrArg RunAns.T h
      rw [← hT]; exact Nat.zero_le _

set_option maxRecDepth 20000 in
set_option maxHeartbeats 2000000 in
theorem checks_bad (w : World) (x s : ByteArray) (hx : x.size ≤ 9223372036854775807) (hs : s.size ≤ 9223372036854775807) (hno : ¬ ImOk x) :
    Calls Try.prog 14 #[.string x, .string s] w fun e w' => (∃ tv, e = .returned (.tuple #[tv, .bool true])) ∧ Below w.heap.size w w' := by
  have HCO : Hid (∀ W, Calls Try.prog 23 #[.string x, .string s] W fun e w' => Below W.heap.size W w' ∧ e = .returned (.tuple #[.bool false, .slice none 0 0, .int .i64 7])) := fun W => (VCheck_any W x s hx hs).mono fun e w' h => ⟨h.1, by
    rcases h.2 with h2 | h2 | h2
    · exact absurd h2.1 hno
    · exact absurd h2.1 hno
    · exact h2.2⟩
  have HRD : Hid (∀ W, Calls Try.prog 38 #[.string x] W fun e w' => Below W.heap.size W w' ∧ ∃ (N : Int) (f : ByteArray) (ta : Option Addr) (n tc : Nat), e = .returned (.tuple #[.agg #[.int .i64 N, .string f, .slice ta n tc], .bool false])) := fun W => (VRead_any W x hx).mono fun e w' h => ⟨h.1, by
    rcases h.2 with h2 | h2
    · exact absurd h2.1 hno
    · exact h2.2⟩
  have HSI := hide (fun W => sameInts_any W _ _ [] (IAt.nil W) (IAt.nil W) (by simp))
  clear hx hs hno
  go_enter Try.func14, Try.ntmps14
  go_wp2_with fail
  refine (unhide HCO _).mono ?_
  rintro e w1 ⟨hb1, rfl⟩
  have HB1 := hide hb1
  clear hb1
  go_wp2_with fail
  refine (unhide HCO _).mono ?_
  rintro e w2 ⟨hb2, rfl⟩
  have HB2 := hide (bel_up (unhide HB1) hb2)
  clear hb2 HB1 HCO
  go_wp2_with fail
  refine (unhide HSI _).mono ?_
  rintro e w4 ⟨rfl, hb4⟩
  have HB4 := hide (bel_up (unhide HB2) hb4)
  clear hb4 HB2 HSI
  go_wp2_with fail
  refine (unhide HRD _).mono ?_
  rintro e w5 ⟨hb5, N, f, ta, n, tc, rfl⟩
  have HB5 := hide (bel_up (unhide HB4) hb5)
  clear hb5 HB4 HRD
  go_wp2_with fail
  refine (num_any 7 _).mono ?_
  rintro e w6 ⟨rfl, rfl⟩
  go_wp2_with fail
  refine bodyPost_ret (v := .tuple #[.slice none 0 0, .bool true]) (by simp [results, Try.results14, go_sem]) rfl ?_
  exact ⟨⟨_, rfl⟩, (unhide HB5).alloc (unhide HB5).size _⟩

set_option maxRecDepth 20000 in
set_option maxHeartbeats 2000000 in
theorem checks_long (w : World) (x s : ByteArray) (hx : x.size ≤ 9223372036854775807) (hs : s.size ≤ 9223372036854775807) (hok : ImOk x) (hl : bt x 2 < s.size) :
    Calls Try.prog 14 #[.string x, .string s] w fun e w' => (∃ tv, e = .returned (.tuple #[tv, .bool true])) ∧ Below w.heap.size w w' := by
  have HCO : Hid (∀ W, Calls Try.prog 23 #[.string x, .string s] W fun e w' => Below W.heap.size W w' ∧ e = .returned (.tuple #[.bool false, .slice none 0 0, .int .i64 1])) := fun W => (VCheck_any W x s hx hs).mono fun e w' h => ⟨h.1, by
    rcases h.2 with h2 | h2 | h2
    · exact absurd h2.2.1 (by omega)
    · exact h2.2.2
    · exact absurd hok h2.1⟩
  have HRD : Hid (∀ W, Calls Try.prog 38 #[.string x] W fun e w' => Below W.heap.size W w' ∧ ∃ g tc, e = .returned (.tuple #[.agg #[.int .i64 ((bt x 2 : Nat) : Int), .string (imF x), .slice (some ⟨g, 0, none⟩) (bt x 3) tc], .bool true])) := fun W => (VRead_any W x hx).mono fun e w' h => ⟨h.1, by
    rcases h.2 with ⟨_, g, tc, _, h3, h4, h5⟩ | h2
    · exact ⟨g, tc, h4⟩
    · exact absurd hok h2.1⟩
  have HSI := hide (fun W => sameInts_any W _ _ [] (IAt.nil W) (IAt.nil W) (by simp))
  have hlI : ((bt x 2 : Nat) : Int) < (s.size : Int) := by omega
  have hsI : (s.size : Int) ≤ 9223372036854775807 := by omega
  clear hx hs hok hl
  generalize imF x = f at *
  generalize bt x 2 = N at *
  generalize bt x 3 = r at *
  go_enter Try.func14, Try.ntmps14
  go_wp2_with fail
  refine (unhide HCO _).mono ?_
  rintro e w1 ⟨hb1, rfl⟩
  have HB1 := hide hb1
  clear hb1
  go_wp2_with fail
  refine (unhide HCO _).mono ?_
  rintro e w2 ⟨hb2, rfl⟩
  have HB2 := hide (bel_up (unhide HB1) hb2)
  clear hb2 HB1 HCO
  go_wp2_with fail
  refine (unhide HSI _).mono ?_
  rintro e w4 ⟨rfl, hb4⟩
  have HB4 := hide (bel_up (unhide HB2) hb4)
  clear hb4 HB2 HSI
  go_wp2_with fail
  refine (unhide HRD _).mono ?_
  rintro e w5 ⟨hb5, g, tc, rfl⟩
  have HB5 := hide (bel_up (unhide HB4) hb5)
  clear hb5 HB4 HRD
  go_wp2_with fail
  refine (num_any 1 _).mono ?_
  rintro e w6 ⟨rfl, rfl⟩
  go_wp2_with fail
  refine bodyPost_ret (v := .tuple #[.slice none 0 0, .bool true]) (by simp [results, Try.results14, go_sem]) rfl ?_
  exact ⟨⟨_, rfl⟩, (unhide HB5).alloc (unhide HB5).size _⟩

set_option maxRecDepth 20000 in
set_option maxHeartbeats 4000000 in
theorem checks_good (w : World) (x s : ByteArray) (hx : x.size ≤ 9223372036854775807) (hs : s.size ≤ 9223372036854775807) (hok : ImOk x) (hl : s.size ≤ bt x 2) :
    Calls Try.prog 14 #[.string x, .string s] w fun e w' => (∃ tv, e = .returned (.tuple #[tv, .bool true])) ∧ Below w.heap.size w w' := by
  have HCK : Hid (∀ W, Calls Try.prog 23 #[.string x, .string s] W fun e w' => Below W.heap.size W w' ∧ ∃ tv, e = .returned (.tuple #[.bool (imV x s), tv, .int .i64 0]) ∧ NR w' W.heap.size tv (imTr x)) := fun W => (VCheck_any W x s hx hs).mono fun e w' h => ⟨h.1, by
    rcases h.2 with h2 | h2 | h2
    · exact h2.2.2
    · exact absurd h2.2.1 (by omega)
    · exact absurd hok h2.1⟩
  have HCO : Hid (∀ W, Calls Try.prog 26 #[.string x] W fun e w' => Below W.heap.size W w' ∧ ∃ cv dv, e = .returned (.tuple #[cv, dv, .int .i64 0]) ∧ OR w' W.heap.size cv (imO x) ∧ NR w' W.heap.size dv (imD x)) := fun W => (VCode_any W x hx).mono fun e w' h => ⟨h.1, by
    rcases h.2 with h2 | h2
    · exact h2.2
    · exact absurd hok h2.1⟩
  have HRD : Hid (∀ W, Calls Try.prog 38 #[.string x] W fun e w' => Below W.heap.size W w' ∧ ∃ g tc, g < w'.heap.size ∧ e = .returned (.tuple #[.agg #[.int .i64 ((bt x 2 : Nat) : Int), .string (imF x), .slice (some ⟨g, 0, none⟩) (bt x 3) tc], .bool true]) ∧ ∀ i, i < bt x 3 → w'.cell? ⟨g, i, none⟩ = some (.string (tblX x (tpos x (5 + bt x 4) i)))) := fun W => (VRead_any W x hx).mono fun e w' h => ⟨h.1, by
    rcases h.2 with ⟨_, g, tc, _, h3, h4, h5⟩ | h2
    · exact ⟨g, tc, h3, h4, h5⟩
    · exact absurd hok h2.1⟩
  have hn := hok.n
  have HGR := hide (fun W g tc hc => VGrants_any W x hok g tc hc s (by omega))
  obtain ⟨M1, hM1, hr1⟩ := hok.jud (s := s) hl
  have HJ1 := hide (fun W B0 cv dv hc hd => judged_any W cv dv B0 (imO x) (imD x) s M1 (imV x s) (imTr x) hc hd (imD_pos x) hok.dlen (by omega) hM1 hr1)
  have HTK := hide (fun W B0 cv dv hc hd => taken_any W cv dv B0 (imO x) (imD x) hc hd hok.dlen hok.takes)
  have HTL : Hid ((imTr x).length ≤ 17592186044416) := by
    show _ ≤ _
    have := trace_le hr1
    omega
  have hlI : (s.size : Int) ≤ ((bt x 2 : Nat) : Int) := by omega
  have hnI : ((bt x 2 : Nat) : Int) ≤ 16 := by omega
  clear hM1 hr1 hx hs hok hl hn
  generalize imO x = os at *
  generalize imD x = ds at *
  generalize imTr x = T at *
  generalize imV x s = v at *
  generalize imF x = f at *
  generalize bt x 2 = N at *
  generalize bt x 3 = r at *
  go_enter Try.func14, Try.ntmps14
  go_wp2_with fail
  refine (unhide HCK _).mono ?_
  rintro e w1 ⟨hb1, tv1, rfl, ht1⟩
  obtain ⟨ta1, tc1, rfl⟩ := ht1.form
  have HL1 : Hid (∀ q, (Value.slice ta1 T.length tc1).ownBlock = some q → w.heap.size ≤ q ∧ q < w1.heap.size) := fun q hq => ht1.lt q hq
  have HB1 := hide hb1
  have HT1 := hide ht1
  clear hb1 ht1
  go_wp2_with fail
  refine (unhide HCK _).mono ?_
  rintro e w2 ⟨hb2, tv2, rfl, ht2⟩
  obtain ⟨ta2, tc2, rfl⟩ := ht2.form
  have HL2 : Hid (∀ q, (Value.slice ta2 T.length tc2).ownBlock = some q → w1.heap.size ≤ q) := fun q hq => (ht2.lt q hq).1
  have HP2 : Hid (NR w2 w.heap.size (.slice ta1 T.length tc1) T) := (unhide HT1).bel hb2
  have HQ2 : Hid (NR w2 w1.heap.size (.slice ta2 T.length tc2) T) := ht2
  have HB2 := hide (bel_up (unhide HB1) hb2)
  have HSZ1 : Hid (w.heap.size ≤ w1.heap.size) := (unhide HB1).size
  clear hb2 ht2 HCK HB1 HT1
  generalize w1.heap.size = H1 at *
  go_wp2_with fail
  refine (sameInts_any w2 _ _ (T.map Int.ofNat) (unhide HQ2).iat (unhide HP2).iat (by rw [List.length_map]; exact unhide HTL)).mono ?_
  rintro e w4 ⟨rfl, hb4⟩
  have HP4 := hide ((unhide HP2).bel hb4)
  have HQ4 := hide ((unhide HQ2).bel hb4)
  have HB4 := hide (bel_up (unhide HB2) hb4)
  clear hb4 HB2 HP2 HQ2
  go_wp2_with fail
  refine (unhide HRD _).mono ?_
  rintro e w5 ⟨hb5, g, tc, hg5, rfl, hcs5⟩
  have ha5 : Below w5.heap.size w5 (w5.alloc (.cells #[.int .i64 (N : Int), .string f, .slice (some ⟨g, 0, none⟩) r tc] 75)) := (Below.refl _ _).alloc (Nat.le_refl _) _
  have HP6 := hide (((unhide HP4).bel hb5).bel ha5)
  have HQ6 := hide (((unhide HQ4).bel hb5).bel ha5)
  have HB6 := hide (bel_up (bel_up (unhide HB4) hb5) ha5)
  have HCS6 : Hid (∀ i, i < r → (w5.alloc (.cells #[.int .i64 (N : Int), .string f, .slice (some ⟨g, 0, none⟩) r tc] 75)).cell? ⟨g, i, none⟩ = some (.string (tblX x (tpos x (5 + bt x 4) i)))) := fun i hi => below_cell ha5 (hcs5 i hi)
  have HIM6 : Hid ((w5.alloc (.cells #[.int .i64 (N : Int), .string f, .slice (some ⟨g, 0, none⟩) r tc] 75)).heap[w5.heap.size]? = some (.cells #[.int .i64 (N : Int), .string f, .slice (some ⟨g, 0, none⟩) r tc] 75 (0, 0))) := heap_alloc_new _ _
  clear hb5 hg5 hcs5 ha5 HB4 HP4 HQ4 HRD
  go_wp2_with fail
  generalize w5.alloc (.cells #[.int .i64 (N : Int), .string f, .slice (some ⟨g, 0, none⟩) r tc] 75) = w6 at *
  generalize w5.heap.size = gi at *
  refine (unhide HCO _).mono ?_
  rintro e w7 ⟨hb7, cv, dv, rfl, hc7, hd7⟩
  obtain ⟨ca, cc, rfl⟩ := hc7.form
  obtain ⟨da, dc, rfl⟩ := hd7.form
  have HP7 := hide ((unhide HP6).bel hb7)
  have HQ7 := hide ((unhide HQ6).bel hb7)
  have HB7 := hide (bel_up (unhide HB6) hb7)
  have HF7 := hide hb7
  have HC7 := hide hc7
  have HD7 := hide hd7
  clear hb7 hc7 hd7 HP6 HQ6 HB6 HCO
  go_wp2_with fail
  refine (unhide HTK w7 w6.heap.size _ _ (unhide HC7).oat (unhide HD7)).mono ?_
  rintro e w8 ⟨rfl, hb8⟩
  have HP8 := hide ((unhide HP7).bel hb8)
  have HQ8 := hide ((unhide HQ7).bel hb8)
  have HB8 := hide (bel_up (unhide HB7) hb8)
  have HF8 := hide (bel_up (unhide HF7) hb8)
  have HC8 := hide ((unhide HC7).oat.below hb8)
  have HD8 := hide ((unhide HD7).bel hb8)
  clear hb8 HP7 HQ7 HB7 HF7 HC7 HD7 HTK
  go_wp2_with fail
  refine (num_any 0 _).mono ?_
  rintro e w' ⟨rfl, hww⟩
  obtain rfl : w8 = w' := hww.symm
  clear hww
  go_wp2_with fail
  refine (num_any 0 _).mono ?_
  rintro e w' ⟨rfl, hww⟩
  obtain rfl : w8 = w' := hww.symm
  clear hww
  go_wp2_with fail
  refine (unhide HJ1 w8 w6.heap.size _ _ (unhide HC8) (unhide HD8)).mono ?_
  rintro e w9 ⟨uv, rfl, hb9, hu9, -⟩
  obtain ⟨ua, uc, rfl⟩ := hu9.form
  have HP9 := hide ((unhide HP8).bel hb9)
  have HQ9 := hide ((unhide HQ8).bel hb9)
  have HB9 := hide (bel_up (unhide HB8) hb9)
  have HF9 := hide (bel_up (unhide HF8) hb9)
  have HU9 := hide hu9
  clear hb9 hu9 HP8 HQ8 HB8 HF8 HC8 HD8 HJ1
  have q9 := (Fr.ofBelow (unhide HF9)).at (unhide HIM6) (by simp)
  have d0 : w9.cell? ⟨gi, 0, none⟩ = some (.int .i64 (N : Int)) := by rw [cell_of_row _ _ _ _ _ _ q9]; rfl
  have d1 : w9.cell? ⟨gi, 1, none⟩ = some (.string f) := by rw [cell_of_row _ _ _ _ _ _ q9]; rfl
  have d2 : w9.cell? ⟨gi, 2, none⟩ = some (.slice (some ⟨g, 0, none⟩) r tc) := by rw [cell_of_row _ _ _ _ _ _ q9]; rfl
  clear q9
  go_wp2_with fail
  refine (unhide HGR w9 g tc (fun i hi => below_cell (unhide HF9) (unhide HCS6 i hi))).mono ?_
  rintro e w10 ⟨rfl, hb10⟩
  have HP10 := hide ((unhide HP9).bel hb10)
  have HQ10 := hide ((unhide HQ9).bel hb10)
  have HB10 := hide (bel_up (unhide HB9) hb10)
  have HU10 := hide ((unhide HU9).bel hb10)
  clear hb10 HP9 HQ9 HB9 HF9 HU9 d0 d1 d2 HGR HCS6 HIM6
  go_wp2_with fail
  refine (sameInts_any w10 _ _ (T.map Int.ofNat) (unhide HP10).iat (unhide HU10).iat (by rw [List.length_map]; exact unhide HTL)).mono ?_
  rintro e w12 ⟨rfl, hb12⟩
  have ha12 : Below w12.heap.size w12 (w12.alloc (.cells #[.slice ta1 T.length tc1, .slice ta2 T.length tc2] 23)) := (Below.refl _ _).alloc (Nat.le_refl _) _
  have HP13 := hide (((unhide HP10).bel hb12).bel ha12)
  have HQ13 := hide (((unhide HQ10).bel hb12).bel ha12)
  have HB13 := hide (bel_up (bel_up (unhide HB10) hb12) ha12)
  have HGL : Hid ((w12.alloc (.cells #[.slice ta1 T.length tc1, .slice ta2 T.length tc2] 23)).heap[w12.heap.size]? = some (.cells [.slice ta1 T.length tc1, .slice ta2 T.length tc2].toArray 23 (0, 0))) := heap_alloc_new _ _
  have HLS : Hid (Lists (w12.alloc (.cells #[.slice ta1 T.length tc1, .slice ta2 T.length tc2] 23)) [.slice ta1 T.length tc1, .slice ta2 T.length tc2]) := lists2 (unhide HP13) (unhide HQ13) (fun q hq => (unhide HL1 q hq).2)
  have HNB : Hid (w12.heap.size ∉ blocks [.slice ta1 T.length tc1, .slice ta2 T.length tc2]) := fun hm => by
    rcases blocks2 hm with hq | hq
    · have := (((unhide HP10).bel hb12).lt _ hq).2; omega
    · have := (((unhide HQ10).bel hb12).lt _ hq).2; omega
  clear hb12 ha12 HB10 HP10 HQ10 HU10
  go_wp2_with fail
  generalize w12.alloc (.cells #[.slice ta1 T.length tc1, .slice ta2 T.length tc2] 23) = w13 at *
  generalize w12.heap.size = gl at *
  refine (own_any w13 gl [.slice ta1 T.length tc1, .slice ta2 T.length tc2] (unhide HGL) (unhide HLS) (by simp) (unhide HNB)).mono ?_
  rintro e w14 ⟨rfl, hf14⟩
  have HB14 : Hid (Below w.heap.size w w14) := below_frS (unhide HB13) hf14 (unhide HB13).size (fun q hm => by
    rcases blocks2 hm with hq | hq
    · exact (unhide HL1 q hq).1
    · have := unhide HL2 q hq; have := unhide HSZ1; omega)
  clear hf14 HB13 HP13 HQ13 HGL HLS HNB
  go_wp2_with fail
  refine bodyPost_ret (v := .tuple #[.slice ta1 T.length tc1, .bool true]) (by simp [results, Try.results14, go_sem]) rfl ?_
  exact ⟨⟨_, rfl⟩, unhide HB14⟩

set_option maxRecDepth 20000 in
theorem Checks_any (w : World) (x s : ByteArray) (hx : x.size ≤ maxLen) (hs : s.size ≤ maxLen) :
    Calls Try.prog 5 #[.string x, .string s] w fun e w' => e = .returned (.bool true) ∧ Below w.heap.size w w' := by
  have hx' : x.size ≤ 9223372036854775807 := by unfold maxLen at hx; omega
  have hs' : s.size ≤ 9223372036854775807 := by unfold maxLen at hs; omega
  have HC : Hid (Calls Try.prog 14 #[.string x, .string s] w fun e w' => (∃ tv, e = .returned (.tuple #[tv, .bool true])) ∧ Below w.heap.size w w') := by
    by_cases h : ImOk x
    · by_cases h2 : s.size ≤ bt x 2
      · exact checks_good w x s hx' hs' h h2
      · exact checks_long w x s hx' hs' h (by omega)
    · exact checks_bad w x s hx' hs' h
  clear hx hs hx' hs'
  go_enter Try.func5, Try.ntmps5
  go_wp2_with fail
  refine (unhide HC).mono ?_
  rintro e w1 ⟨⟨tv, rfl⟩, hb⟩
  have HB := hide hb
  clear hb HC
  go_wp2_with fail
  go_ret
  exact ⟨rfl, unhide HB⟩

end Mc
end Go.Proofs.Ytnkdbcicphnmiaa
