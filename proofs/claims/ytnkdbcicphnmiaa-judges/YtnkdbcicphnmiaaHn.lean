/-
  veilkeep.Veiled.
-/
import Derived.Test.YtnkdbcicphnmiaaT15
namespace Go.Proofs.Ytnkdbcicphnmiaa
namespace Mc
open Go.RowKit

theorem krunN_T {cs : List OpI} : ∀ (n : Nat) (s s' : MS), runN cs n s = .ok s' → s'.T.length ≤ s.T.length + n := by
  intro n
  induction n with
  | zero =>
    intro s s' h
    by_cases hp : cs.length ≤ s.p
    · rw [runN_ends hp] at h; cases h; omega
    · rw [runN_zero (by omega)] at h; cases h
  | succ n ih =>
    intro s s' h
    by_cases hp : cs.length ≤ s.p
    · rw [runN_ends hp] at h; cases h; omega
    · cases hs : stepN (cs.getD s.p op0) s with
      | none => rw [runN_addr (by omega) hs] at h; cases h
      | some s1 =>
        rw [runN_step (by omega) hs] at h
        have := ih s1 s' h
        have := stepN_T hs
        omega
theorem ktrace_le {os : List OpI} {zs : List Int} {M T : List Nat} (h : runAns os zs 2097152 = ⟨0, M, T⟩) : T.length ≤ 2097152 := by
  unfold runAns at h
  split at h
  · have hT : [] = T := congrArg RunAns.T h
    rw [← hT]; exact Nat.zero_le _
  · cases hr : runN os (2097152 : Int).toNat (ms0 zs) with
    | ok s' =>
      rw [hr] at h
      have := krunN_T _ _ _ hr
      cases h
      have e : (ms0 zs).T.length = 0 := rfl
      have e2 : (2097152 : Int).toNat = 2097152 := rfl
      omega
    | error k =>
      rw [hr] at h
      have hT : [] = T := congrArg RunAns.T h
      rw [← hT]; exact Nat.zero_le _
theorem kbel_up {w a b : World} (h : Below w.heap.size w a) (k : Below a.heap.size a b) : Below w.heap.size w b := h.trans (k.mono h.size)
theorem imTr_len {x : ByteArray} (h : ImOk x) : (imTr x).length ≤ 2097152 := by
  obtain ⟨M, _, hr⟩ := judged (f := imF x) (s := ⟨#[]⟩) (fun i hi => (h.ts.1 i hi).ok : ∀ i, i < bt x 3 → (imT x i).Ok) h.r2 h.n (Nat.zero_le _)
  exact ktrace_le hr

section
attribute [local go_sem ↓] Go.wp_at_zero Go.wp_at_succ zvPl
attribute [local go_sem] aggcells zcPl_size zcPl_ne
set_option maxRecDepth 20000 in
set_option maxHeartbeats 4000000 in
theorem Veiled_any (w : World) (raw : ByteArray) (n k : Int) (s t : ByteArray) (hr : raw.size ≤ 9223372036854775807) (n1 : -9223372036854775808 ≤ n) (n2 : n ≤ 9223372036854775807) (k1 : -9223372036854775808 ≤ k) (k2 : k ≤ 9223372036854775807) (hs : s.size ≤ 9223372036854775807) (ht : t.size ≤ 9223372036854775807) :
    Calls Try.prog 8 #[.string raw, .int .i64 n, .int .i64 k, .string s, .string t] w fun e w' => e = .returned (.bool true) ∧ Below w.heap.size w w' := by
  have hN : pickN n 17 ≤ 16 := by have := pickN_lt n (n := 17) (by decide); omega
  have hF : pickN k 10 < 10 := pickN_lt k (by decide)
  have HPL : Hid (∀ W, Calls Try.prog 20 #[.string raw, .int .i64 n, .int .i64 k] W fun e w' => e = .returned (.agg (planC ((pickN n 17 : Nat) : Int) ((pickN k 10 : Nat) : Int) (kCells (kT raw 0)) (kCells (kT raw 5)))) ∧ Below W.heap.size W w') := fun W => kplan_any W raw n k hr n1 n2 k1 k2
  have hA := kT_kok raw 0
  have hB := kT_kok raw 5
  have HTX := hide (fun W => kptext_any W (pickN n 17) (pickN k 10) hN hF (kT raw 0) (kT raw 5) hA hB)
  have HSS := hide (fun W => kshort_any W s (pickN n 17) hs (by omega))
  have HST := hide (fun W => kshort_any W t (pickN n 17) ht (by omega))
  have hsl := kshortS_le s (pickN n 17)
  have htl := kshortS_le t (pickN n 17)
  have HGS := hide (fun W => kgrants_any W ((pickN n 17 : Nat) : Int) (pickN k 10) hF (kT raw 0) (kT raw 5) hA hB (kshortS s (pickN n 17)) (by omega))
  have HGT := hide (fun W => kgrants_any W ((pickN n 17 : Nat) : Int) (pickN k 10) hF (kT raw 0) (kT raw 5) hA hB (kshortS t (pickN n 17)) (by omega))
  have himg := planX_ok (N := pickN n 17) (k := pickN k 10) hN hF hA hB
  have h2 := (planX_head (N := pickN n 17) (k := pickN k 10) (A := kT raw 0) (B := kT raw 5) hN hF).2.2.1
  have hxs : (planX (pickN n 17) (pickN k 10) (kT raw 0) (kT raw 5)).size ≤ 9223372036854775807 := by
    rw [planX_size, kBy_len, kBy_len]
    have f1 := (form_size hF).2
    have a1 : (kT raw 0).S * (kT raw 0).C ≤ 4 * 3 := Nat.mul_le_mul hA.s4 hA.c3
    have b1 : (kT raw 5).S * (kT raw 5).C ≤ 4 * 3 := Nat.mul_le_mul hB.s4 hB.c3
    have a2 := hA.s4
    have b2 := hB.s4
    omega
  have ck : ∀ (u : ByteArray), u.size ≤ pickN n 17 → u.size ≤ 9223372036854775807 → ∀ W, Calls Try.prog 23 #[.string (planX (pickN n 17) (pickN k 10) (kT raw 0) (kT raw 5)), .string u] W fun e w' => Below W.heap.size W w' ∧ ∃ tv, e = .returned (.tuple #[.bool (holdsB (pickN k 10) ((kT raw 0).gr ((kT raw 0).run (btsN u))) ((kT raw 5).gr ((kT raw 5).run (btsN u)))), tv, .int .i64 0]) ∧ NR w' W.heap.size tv (imTr (planX (pickN n 17) (pickN k 10) (kT raw 0) (kT raw 5))) := fun u hu1 hu2 W =>
    (VCheck_any W _ u hxs hu2).mono fun e w' h => ⟨h.1, by
      rcases h.2 with h3 | h3 | h3
      · rw [← planX_says hN hF hA hB u]; exact h3.2.2
      · exact absurd h3.2.1 (by rw [h2]; omega)
      · exact absurd himg h3.1⟩
  have HCS := hide (ck (kshortS s (pickN n 17)) hsl (by omega))
  have HCT := hide (ck (kshortS t (pickN n 17)) htl (by omega))
  have HTL := hide (imTr_len himg)
  have HSZ : Hid ((planC ((pickN n 17 : Nat) : Int) ((pickN k 10 : Nat) : Int) (kCells (kT raw 0)) (kCells (kT raw 5))).size = 550) := planC_size _ _ (kCells_size _) (kCells_size _)
  have HON : Hid ((planC ((pickN n 17 : Nat) : Int) ((pickN k 10 : Nat) : Int) (kCells (kT raw 0)) (kCells (kT raw 5))).all (·.oneCell') = true) := planC_one _ _ (kCells_one _) (kCells_one _)
  have HC0 := hide (planC_0 ((pickN n 17 : Nat) : Int) ((pickN k 10 : Nat) : Int) (kCells (kT raw 0)) (kCells (kT raw 5)))
  clear hr n1 n2 k1 k2 hs ht hN hF hA hB hsl htl himg h2 hxs ck
  generalize holdsB (pickN k 10) ((kT raw 0).gr ((kT raw 0).run (btsN (kshortS s (pickN n 17))))) ((kT raw 5).gr ((kT raw 5).run (btsN (kshortS s (pickN n 17))))) = vs at *
  generalize holdsB (pickN k 10) ((kT raw 0).gr ((kT raw 0).run (btsN (kshortS t (pickN n 17))))) ((kT raw 5).gr ((kT raw 5).run (btsN (kshortS t (pickN n 17))))) = vt at *
  generalize imTr (planX (pickN n 17) (pickN k 10) (kT raw 0) (kT raw 5)) = T at *
  generalize planX (pickN n 17) (pickN k 10) (kT raw 0) (kT raw 5) = x at *
  generalize kshortS s (pickN n 17) = s1 at *
  generalize kshortS t (pickN n 17) = t1 at *
  generalize planC ((pickN n 17 : Nat) : Int) ((pickN k 10 : Nat) : Int) (kCells (kT raw 0)) (kCells (kT raw 5)) = cs at *
  generalize pickN n 17 = N at *
  go_enter Try.func8, Try.ntmps8
  go_wp2_with fail
  refine (unhide HPL _).mono ?_
  rintro e w1 ⟨rfl, hb1⟩
  have HIM : Hid ((w1.alloc (.cells cs 48)).heap[w1.heap.size]? = some (.cells cs 48 (0, 0))) := heap_alloc_new _ _
  have HB2 : Hid (Below w.heap.size w (w1.alloc (.cells cs 48))) := hb1.alloc hb1.size _
  have c0 : (w1.alloc (.cells cs 48)).cell? ⟨w1.heap.size, 0, none⟩ = some (.int .i64 (N : Int)) := by rw [cell_of_row _ _ _ _ _ _ (unhide HIM)]; exact unhide HC0
  clear hb1 HPL
  go_wp2_with (refine store_row rfl 48 _ _ rfl rfl w1.heap.size cs rfl rfl 48 _ (heap_alloc_new _ _) (by rw [unhide HSZ]; exact infoP) (by rw [zcPl_size]; exact (unhide HSZ).symm) (unhide HON) ?_; rw [setRow_alloc1])
  generalize w1.alloc (.cells cs 48) = w2 at *
  generalize w1.heap.size = gp at *
  refine (unhide HSS _).mono ?_
  rintro e w' ⟨rfl, hww⟩
  obtain rfl : w2 = w' := hww.symm
  clear hww
  go_wp2_with fail
  refine (unhide HST _).mono ?_
  rintro e w' ⟨rfl, hww⟩
  obtain rfl : w2 = w' := hww.symm
  clear hww c0
  go_wp2_with (refine wpList_load_row rfl 48 _ rfl gp rfl 48 _ (0, 0) _ (unhide HIM) Try.underlying48 rfl (by rw [unhide HSZ]; exact infoP) ?_)
  refine (unhide HTX _).mono ?_
  rintro e w3 ⟨rfl, hb3⟩
  have HF3 := hide hb3
  have HB3 := hide (kbel_up (unhide HB2) hb3)
  clear hb3 HTX HSS HST HB2
  go_wp2_with fail
  refine (unhide HCS _).mono ?_
  rintro e w4 ⟨hb4, tv1, rfl, ht4⟩
  obtain ⟨ta1, tc1, rfl⟩ := ht4.form
  have HF4 := hide (kbel_up (unhide HF3) hb4)
  have HB4 := hide (kbel_up (unhide HB3) hb4)
  have HT4 := hide ht4
  clear hb4 ht4 HF3 HB3 HCS
  go_wp2_with fail
  refine (unhide HCT _).mono ?_
  rintro e w5 ⟨hb5, tv2, rfl, ht5⟩
  obtain ⟨ta2, tc2, rfl⟩ := ht5.form
  have HF5 := hide (kbel_up (unhide HF4) hb5)
  have HB5 := hide (kbel_up (unhide HB4) hb5)
  have HT5 := hide ((unhide HT4).iat.below hb5)
  have HU5 := hide ht5.iat
  clear hb5 ht5 HF4 HB4 HT4 HCT
  go_wp2_with fail
  refine (ksame_any w5 _ _ (T.map Int.ofNat) (unhide HT5) (unhide HU5) (by rw [List.length_map]; have := unhide HTL; omega)).mono ?_
  rintro e w6 ⟨rfl, hb6⟩
  have HF6 := hide (kbel_up (unhide HF5) hb6)
  have HB6 := hide (kbel_up (unhide HB5) hb6)
  have HI6 : Hid (w6.heap[gp]? = some (.cells cs 48 (0, 0))) := (Fr.ofBelow (unhide HF6)).at (unhide HIM) (by simp)
  clear hb6 HF5 HB5 HT5 HU5
  go_wp2_with (refine wpList_load_row rfl 48 _ rfl gp rfl 48 _ (0, 0) _ (unhide HI6) Try.underlying48 rfl (by rw [unhide HSZ]; exact infoP) ?_)
  refine (unhide HGS _).mono ?_
  rintro e w7 ⟨rfl, hb7⟩
  have HB7 := hide (kbel_up (unhide HB6) hb7)
  have HI7 : Hid (w7.heap[gp]? = some (.cells cs 48 (0, 0))) := (Fr.ofBelow hb7).at (unhide HI6) (by simp)
  clear hb7 HF6 HB6 HGS HI6
  go_wp2_with (refine wpList_load_row rfl 48 _ rfl gp rfl 48 _ (0, 0) _ (unhide HI7) Try.underlying48 rfl (by rw [unhide HSZ]; exact infoP) ?_)
  refine (unhide HGT _).mono ?_
  rintro e w8 ⟨rfl, hb8⟩
  have HB8 := hide (kbel_up (unhide HB7) hb8)
  clear hb8 HB7 HGT HI7
  go_wp2_with fail
  go_ret
  exact ⟨by simp, unhide HB8⟩
end

end Mc
end Go.Proofs.Ytnkdbcicphnmiaa
