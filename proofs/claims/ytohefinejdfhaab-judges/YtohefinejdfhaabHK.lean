/-
  veilkeep.Plan.grants.
  veilkeep.Plan.text.
  veilkeep.short, veilkeep.sameInts.
  veilkeep.Veiled.
-/
import Derived.Test.YtohefinejdfhaabHI
namespace Go.Proofs.Ytohefinejdfhaab
namespace Mc
open Go.RowKit

section
variable (N k : Int) (A B : Array Value)
theorem planC_0 : (planC N k A B)[0]? = some (.int .i64 N) := by
  unfold planC; rw [Array.getElem?_append_left (by simp; omega), Array.getElem?_append_left (by simp)]; rfl
theorem planC_1 : (planC N k A B)[1]? = some (.int .i64 k) := by
  unfold planC; rw [Array.getElem?_append_left (by simp; omega), Array.getElem?_append_left (by simp)]; rfl
theorem planC_A {j : Nat} (hj : j < A.size) : (planC N k A B)[2 + j]? = A[j]? := by
  unfold planC
  rw [Array.getElem?_append_left (by simp; omega), Array.getElem?_append_right (by simp)]
  congr 1; simp
theorem planC_B (hA : A.size = 274) (j : Nat) : (planC N k A B)[276 + j]? = B[j]? := by
  unfold planC
  rw [Array.getElem?_append_right (by simp [hA])]
  congr 1; simp [hA]
end
/-- A plan in memory. -/
structure PlI (w : World) (g : Nat) (N k : Int) (A B : Array Value) : Prop where
  heap : w.heap[g]? = some (.cells (planC N k A B) 45 (0, 0))
  sa : A.size = 274
  sb : B.size = 274
section
variable {w w' : World} {g : Nat} {N k : Int} {A B : Array Value}
theorem PlI.c0 (h : PlI w g N k A B) : w.cell? ⟨g, 0, none⟩ = some (.int .i64 N) := by rw [cell_of_row _ _ _ _ _ _ h.heap, planC_0]
theorem PlI.c1 (h : PlI w g N k A B) : w.cell? ⟨g, 1, none⟩ = some (.int .i64 k) := by rw [cell_of_row _ _ _ _ _ _ h.heap, planC_1]
theorem PlI.ra (h : PlI w g N k A B) : w.rangeAt g 2 A.toList := fun j v hv => by
  rw [Array.getElem?_toList] at hv
  rw [cell_of_row _ _ _ _ _ _ h.heap, planC_A _ _ _ _ (Array.getElem?_eq_some_iff.1 hv).1, hv]
theorem PlI.rb (h : PlI w g N k A B) : w.rangeAt g 276 B.toList := fun j v hv => by
  rw [Array.getElem?_toList] at hv
  rw [cell_of_row _ _ _ _ _ _ h.heap, planC_B _ _ _ _ h.sa, hv]
theorem PlI.below (h : PlI w g N k A B) (hb : Below w.heap.size w w') : PlI w' g N k A B := ⟨(Fr.ofBelow hb).at h.heap (by simp), h.sa, h.sb⟩
end

section
attribute [local go_sem ↓] Go.wp_at_zero Go.wp_at_succ
attribute [local go_sem] aggcells
set_option maxRecDepth 20000 in
set_option maxHeartbeats 2000000 in
theorem kgrants_any (w : World) (N : Int) (F : Nat) (hF : F < 10) (tA tB : TabN) (hA : KOk tA) (hB : KOk tB) (s : ByteArray) (hs : s.size ≤ 1000) :
    Calls Try.prog 26 #[.agg (planC N (F : Int) (kCells tA) (kCells tB)), .string s] w fun e w' => e = .returned (.bool (holdsB F (tA.gr (tA.run (btsN s))) (tB.gr (tB.run (btsN s))))) ∧ Below w.heap.size w w' := by
  have HRA := hide (fun W => kreads_any W tA hA s hs)
  have HRB := hide (fun W => kreads_any W tB hB s hs)
  have HHO := hide (fun W => kholds_any W F hF (tA.gr (tA.run (btsN s))) (tB.gr (tB.run (btsN s))))
  have HP0 : Hid (PlI (w.alloc (.cells (planC N (F : Int) (kCells tA) (kCells tB)) 45)) w.heap.size N (F : Int) (kCells tA) (kCells tB)) := ⟨heap_alloc_new _ _, kCells_size _, kCells_size _⟩
  have HB0 : Hid (Below w.heap.size w (w.alloc (.cells (planC N (F : Int) (kCells tA) (kCells tB)) 45))) := (Below.refl _ _).alloc (Nat.le_refl _) _
  clear hF hA hB hs
  generalize tA.gr (tA.run (btsN s)) = va at *
  generalize tB.gr (tB.run (btsN s)) = vb at *
  generalize kCells tA = A at *
  generalize kCells tB = B at *
  generalize planC N (F : Int) A B = cs at *
  go_enter Try.func26, Try.ntmps26
  go_wp2_with (refine wpList_load_mid rfl 43 _ rfl w.heap.size 2 rfl A.toList _ (unhide HP0).ra Try.underlying43 rfl (by rw [Array.length_toList, (unhide HP0).sa]; exact infoK) ?_)
  generalize w.alloc (.cells cs 45) = w0 at *
  refine (unhide HRA _).mono ?_
  rintro e w1 ⟨rfl, hb1⟩
  have HP1 := hide ((unhide HP0).below hb1)
  have HB1 : Hid (Below w.heap.size w w1) := (unhide HB0).trans (hb1.mono (unhide HB0).size)
  clear hb1 HP0 HB0 HRA
  go_wp2_with (refine wpList_load_mid rfl 43 _ rfl w.heap.size 276 rfl B.toList _ (unhide HP1).rb Try.underlying43 rfl (by rw [Array.length_toList, (unhide HP1).sb]; exact infoK) ?_)
  refine (unhide HRB _).mono ?_
  rintro e w2 ⟨rfl, hb2⟩
  have c1 := ((unhide HP1).below hb2).c1
  have HB2 : Hid (Below w.heap.size w w2) := (unhide HB1).trans (hb2.mono (unhide HB1).size)
  clear hb2 HP1 HB1 HRB
  go_wp2_with fail
  refine (unhide HHO _).mono ?_
  rintro e w3 ⟨rfl, hww⟩
  obtain rfl : w2 = w3 := hww.symm
  clear hww
  go_wp2_with fail
  go_ret
  exact ⟨rfl, unhide HB2⟩
end

end Mc
end Go.Proofs.Ytohefinejdfhaab
namespace Go.Proofs.Ytohefinejdfhaab
namespace Mc
open Go.RowKit

section
attribute [local go_sem ↓] Go.wp_at_zero Go.wp_at_succ
attribute [local go_sem] aggcells
set_option maxRecDepth 20000 in
set_option maxHeartbeats 2000000 in
theorem kptext_any (w : World) (N F : Nat) (hN : N ≤ 16) (hF : F < 10) (tA tB : TabN) (hA : KOk tA) (hB : KOk tB) :
    Calls Try.prog 23 #[.agg (planC (N : Int) (F : Int) (kCells tA) (kCells tB))] w fun e w' => e = .returned (.string (planX N F tA tB)) ∧ Below w.heap.size w w' := by
  have HFO := hide (fun W => kform_any W F hF)
  have HTA := hide (fun W => ktext_any W tA hA)
  have HTB := hide (fun W => ktext_any W tB hB)
  have hfs := form_size hF
  have HPX : Hid (planX N F tA tB = (((⟨#[86, 80]⟩ ++ mkS [N, 2, (formS F).size]) ++ formS F) ++ mkS (kBy tA)) ++ mkS (kBy tB)) := rfl
  have HP0 : Hid (PlI (w.alloc (.cells (planC (N : Int) (F : Int) (kCells tA) (kCells tB)) 45)) w.heap.size (N : Int) (F : Int) (kCells tA) (kCells tB)) := ⟨heap_alloc_new _ _, kCells_size _, kCells_size _⟩
  have HB0 : Hid (Below w.heap.size w (w.alloc (.cells (planC (N : Int) (F : Int) (kCells tA) (kCells tB)) 45))) := (Below.refl _ _).alloc (Nat.le_refl _) _
  have c1 := (unhide HP0).c1
  have HCV : Hid (∀ W : World, (convert 86 9 (.slice (some ⟨W.heap.size, 0, none⟩) 3 3)).run Try.prog (W.alloc (.cells #[.int .u8 (N : Int), .int .u8 2, .int .u8 ((formS F).size : Int)] 5)) = .ok (.string (mkS [N, 2, (formS F).size])) (W.alloc (.cells #[.int .u8 (N : Int), .int .u8 2, .int .u8 ((formS F).size : Int)] 5))) := fun W =>
    conv_mk (B := 0) (xs := [N, 2, (formS F).size]) ⟨rfl, .inr ⟨_, 3, _, rfl, Nat.zero_le _, heap_alloc_new _ _, Nat.le_refl _, by unfold maxLen; omega, rfl, rfl⟩⟩ (by intro x hx; simp at hx; omega)
  have u0 := u8_wrap N (by omega)
  have u1 := u8_wrap (formS F).size (by omega)
  have nI : (N : Int) ≤ 16 := by omega
  have sI : ((formS F).size : Int) ≤ 15 := by omega
  have hlen : ∀ {t : TabN}, KOk t → (mkS (kBy t)).size ≤ 300 := fun {t} h => by
    have h1 : t.S * t.C ≤ 4 * 3 := Nat.mul_le_mul h.s4 h.c3
    have h2 := h.s4
    rw [mkS_size, kBy_len]; omega
  have l3 : (mkS [N, 2, (formS F).size]).size = 3 := by rw [mkS_size]; rfl
  have la := hlen hA
  have lb := hlen hB
  have z1 : ¬ 9223372036854775807 < 2 + (mkS [N, 2, (formS F).size]).size := by omega
  have z2 : ¬ 9223372036854775807 < 2 + (mkS [N, 2, (formS F).size]).size + (formS F).size := by omega
  have z3 : ¬ 9223372036854775807 < 2 + (mkS [N, 2, (formS F).size]).size + (formS F).size + (mkS (kBy tA)).size := by omega
  have z4 : ¬ 9223372036854775807 < 2 + (mkS [N, 2, (formS F).size]).size + (formS F).size + (mkS (kBy tA)).size + (mkS (kBy tB)).size := by omega
  clear hN hF hA hB hfs hlen l3 la lb
  generalize formS F = f at *
  generalize mkS (kBy tA) = xa at *
  generalize mkS (kBy tB) = xb at *
  generalize kCells tA = A at *
  generalize kCells tB = B at *
  generalize planC (N : Int) (F : Int) A B = cs at *
  go_enter Try.func23, Try.ntmps23
  go_wp2_with fail
  generalize w.alloc (.cells cs 45) = w0 at *
  refine (unhide HFO _).mono ?_
  rintro e w1 ⟨rfl, hb1⟩
  have HP1 := hide ((unhide HP0).below hb1)
  have HB1 : Hid (Below w.heap.size w w1) := (unhide HB0).trans (hb1.mono (unhide HB0).size)
  clear hb1 HP0 HB0 HFO c1
  go_wp2_with (refine wpList_load_mid rfl 43 _ rfl w.heap.size 2 rfl A.toList _ (unhide HP1).ra Try.underlying43 rfl (by rw [Array.length_toList, (unhide HP1).sa]; exact infoK) ?_)
  refine (unhide HTA _).mono ?_
  rintro e w2 ⟨rfl, hb2⟩
  have HP2 := hide ((unhide HP1).below hb2)
  have HB2 : Hid (Below w.heap.size w w2) := (unhide HB1).trans (hb2.mono (unhide HB1).size)
  clear hb2 HP1 HB1 HTA
  go_wp2_with (refine wpList_load_mid rfl 43 _ rfl w.heap.size 276 rfl B.toList _ (unhide HP2).rb Try.underlying43 rfl (by rw [Array.length_toList, (unhide HP2).sb]; exact infoK) ?_)
  refine (unhide HTB _).mono ?_
  rintro e w3 ⟨rfl, hb3⟩
  have c0 := ((unhide HP2).below hb3).c0
  have HB3 : Hid (Below w.heap.size w w3) := (unhide HB2).trans (hb3.mono (unhide HB2).size)
  have hcv := unhide HCV w3
  clear hb3 HP2 HB2 HTB HCV
  generalize mkS [N, 2, f.size] = h3 at *
  go_wp2_with fail
  go_ret
  exact ⟨by rw [unhide HPX]; rfl, (unhide HB3).alloc (unhide HB3).size _⟩
end

end Mc
end Go.Proofs.Ytohefinejdfhaab
namespace Go.Proofs.Ytohefinejdfhaab
namespace Mc
open Go.RowKit
attribute [local go_sem ↓] Go.wp_at_zero Go.wp_at_succ

/-- At most so many bytes of a string. -/
def kshortS (s : ByteArray) (n : Nat) : ByteArray := if n < s.size then s.extract 0 n else s
theorem kshortS_le (s : ByteArray) (n : Nat) : (kshortS s n).size ≤ n := by
  unfold kshortS
  split
  · rw [ByteArray.size_extract]; omega
  · omega
set_option maxRecDepth 20000 in
theorem kshort_any (w : World) (s : ByteArray) (n : Nat) (hs : s.size ≤ 9223372036854775807) (hn : n ≤ 1000) : Calls Try.prog 10 #[.string s, .int .i64 (n : Int)] w fun e w' => e = .returned (.string (kshortS s n)) ∧ w' = w := by
  have hsI : (s.size : Int) ≤ 9223372036854775807 := by omega
  have hnI : (n : Int) ≤ 1000 := by omega
  have h0 : (0 : Int) ≤ (n : Int) := by omega
  have h1 : ((n : Int)).toNat = n := by omega
  unfold kshortS
  by_cases h : n < s.size
  · rw [if_pos h]
    have hI : (n : Int) < (s.size : Int) := by omega
    have hI2 : (n : Int) ≤ (s.size : Int) := by omega
    clear h hs hn
    go_enter Try.func10, Try.ntmps10
    go_wp2_with fail
    go_ret
    exact ⟨rfl, rfl⟩
  · rw [if_neg h]
    have hI : (s.size : Int) ≤ (n : Int) := by omega
    clear h hs hn
    go_enter Try.func10, Try.ntmps10
    go_wp2_with fail
    go_ret
    exact ⟨rfl, rfl⟩

set_option maxRecDepth 20000 in
set_option maxHeartbeats 1000000 in
theorem ksame_any (w : World) (av bv : Value) (zs : List Int) (ha : IAt w av zs) (hb : IAt w bv zs) (hz : zs.length ≤ 17592186044416) :
    Calls Try.prog 25 #[av, bv] w fun e w' => e = .returned (.bool true) ∧ Below w.heap.size w w' := by
  obtain ⟨aa, ac, rfl, hac⟩ := ha
  obtain ⟨ba, bc, rfl, hbc⟩ := hb
  have HA := hide hac
  have HB := hide hbc
  have hzI : (zs.length : Int) ≤ 17592186044416 := by omega
  clear hac hbc hz
  go_enter Try.func25, Try.ntmps25
  go_wp2_with fail
  go_loopw [5] (fun ix wr => ∃ i : Nat, ix = .int .i64 (i : Int) ∧ Hid (i ≤ zs.length ∧ Below w.heap.size w wr)) (fun ix _ => lenLeft zs.length ix)
  case atStart => exact ⟨0, rfl, Nat.zero_le _, Below.refl _ _⟩
  case round =>
    rename World => wr
    obtain ⟨i, rfl, HH⟩ := hrel
    obtain ⟨hi, hBw⟩ := unhide HH
    have HBW := hide hBw
    by_cases hlt : i < zs.length
    · obtain ⟨b1, o1, rfl, h1⟩ := unhide HA (by omega)
      obtain ⟨b2, o2, rfl, h2⟩ := unhide HB (by omega)
      have c1 := below_cell hBw (h1 i hlt)
      have c2 := below_cell hBw (h2 i hlt)
      have hiI : (i : Int) < (zs.length : Int) := by omega
      have HLT := hide hlt
      clear HH hi hBw hlt h1 h2
      generalize zs.getD i 0 = z at *
      go_wp2_with fail
      go_region
      all_goals
        go_wp2_with fail
        go_roundw
        case rel => exact ⟨i + 1, by go_num, unhide HLT, (unhide HBW).drew⟩
        case measure => have := unhide HLT; simp [lenLeft, intOf]; omega
    · have hi2 : i = zs.length := by omega
      subst hi2
      clear HH hi hBw hlt
      go_wp2_with fail
      go_ret
      exact ⟨rfl, unhide HBW⟩


end Mc
end Go.Proofs.Ytohefinejdfhaab
namespace Go.Proofs.Ytohefinejdfhaab
namespace Mc
open Go.RowKit

theorem krunN_T {cs : List OpI} : ∀ (n : Nat) (s s' : MS), runN cs n s = .ends s' → s'.T.length ≤ s.T.length + n := by
  intro n
  induction n with
  | zero =>
    intro s s' h
    by_cases hp : cs.length ≤ s.p
    · rw [runN_ends hp] at h; cases h; omega
    · rw [runN_zero (by omega)] at h; cases h
  | succ n ih =>
    intro s s' h
    by_cases hp : cs.length ≤ s.p
    · rw [runN_ends hp] at h; cases h; omega
    · cases hs : stepN (cs.getD s.p default) s with
      | none => rw [runN_addr (by omega) hs] at h; cases h
      | some s1 =>
        rw [runN_step (by omega) hs] at h
        have := ih s1 s' h
        have := stepN_T hs
        omega
theorem ktrace_le {os : List OpI} {zs : List Int} {M T : List Nat} (h : runAns os zs 2097152 = ⟨0, M, T⟩) : T.length ≤ 2097152 := by
  unfold runAns at h
  split at h
  · have hT : [] = T := congrArg RunAns.T h
    rw [← hT]; exact Nat.zero_le _
  · cases hr : runN os (2097152 : Int).toNat (ms0 zs) with
    | ends s' =>
      rw [hr] at h
      have := krunN_T _ _ _ hr
      cases h
      have e : (ms0 zs).T.length = 0 := rfl
      have e2 : (2097152 : Int).toNat = 2097152 := rfl
      omega
    | steps => rw [hr] at h; cases h
    | address => rw [hr] at h; cases h
theorem kbel_up {w a b : World} (h : Below w.heap.size w a) (k : Below a.heap.size a b) : Below w.heap.size w b := h.trans (k.mono h.size)
theorem imTr_len {x : ByteArray} (h : ImOk x) : (imTr x).length ≤ 2097152 := by
  obtain ⟨M, _, hr⟩ := judged (f := imF x) (s := ⟨#[]⟩) (fun i hi => (h.ts.1 i hi).ok : ∀ i, i < bt x 3 → (imT x i).Ok) h.r2 h.n (Nat.zero_le _)
  exact ktrace_le hr

section
attribute [local go_sem ↓] Go.wp_at_zero Go.wp_at_succ zvPl
attribute [local go_sem] aggcells zcPl_size zcPl_ne
set_option maxRecDepth 20000 in
set_option maxHeartbeats 4000000 in
theorem Veiled_any (w : World) (raw : ByteArray) (n k : Int) (s t : ByteArray) (hr : raw.size ≤ 9223372036854775807) (n1 : -9223372036854775808 ≤ n) (n2 : n ≤ 9223372036854775807) (k1 : -9223372036854775808 ≤ k) (k2 : k ≤ 9223372036854775807) (hs : s.size ≤ 9223372036854775807) (ht : t.size ≤ 9223372036854775807) :
    Calls Try.prog 5 #[.string raw, .int .i64 n, .int .i64 k, .string s, .string t] w fun e w' => e = .returned (.bool true) ∧ Below w.heap.size w w' := by
  have hN : pickN n 17 ≤ 16 := by have := pickN_lt n (n := 17) (by decide); omega
  have hF : pickN k 10 < 10 := pickN_lt k (by decide)
  have HPL : Hid (∀ W, Calls Try.prog 22 #[.string raw, .int .i64 n, .int .i64 k] W fun e w' => e = .returned (.agg (planC ((pickN n 17 : Nat) : Int) ((pickN k 10 : Nat) : Int) (kCells (kT raw 0)) (kCells (kT raw 5)))) ∧ Below W.heap.size W w') := fun W => kplan_any W raw n k hr n1 n2 k1 k2
  have hA := kT_kok raw 0
  have hB := kT_kok raw 5
  have HTX := hide (fun W => kptext_any W (pickN n 17) (pickN k 10) hN hF (kT raw 0) (kT raw 5) hA hB)
  have HSS := hide (fun W => kshort_any W s (pickN n 17) hs (by omega))
  have HST := hide (fun W => kshort_any W t (pickN n 17) ht (by omega))
  have hsl := kshortS_le s (pickN n 17)
  have htl := kshortS_le t (pickN n 17)
  have HGS := hide (fun W => kgrants_any W ((pickN n 17 : Nat) : Int) (pickN k 10) hF (kT raw 0) (kT raw 5) hA hB (kshortS s (pickN n 17)) (by omega))
  have HGT := hide (fun W => kgrants_any W ((pickN n 17 : Nat) : Int) (pickN k 10) hF (kT raw 0) (kT raw 5) hA hB (kshortS t (pickN n 17)) (by omega))
  have himg := planX_ok (N := pickN n 17) (k := pickN k 10) hN hF hA hB
  have h2 := (planX_head (N := pickN n 17) (k := pickN k 10) (A := kT raw 0) (B := kT raw 5) hN hF).2.2.1
  have hxs : (planX (pickN n 17) (pickN k 10) (kT raw 0) (kT raw 5)).size ≤ 9223372036854775807 := by
    rw [planX_size, kBy_len, kBy_len]
    have f1 := (form_size hF).2
    have a1 : (kT raw 0).S * (kT raw 0).C ≤ 4 * 3 := Nat.mul_le_mul hA.s4 hA.c3
    have b1 : (kT raw 5).S * (kT raw 5).C ≤ 4 * 3 := Nat.mul_le_mul hB.s4 hB.c3
    have a2 := hA.s4
    have b2 := hB.s4
    omega
  have ck : ∀ (u : ByteArray), u.size ≤ pickN n 17 → u.size ≤ 9223372036854775807 → ∀ W, Calls Try.prog 24 #[.string (planX (pickN n 17) (pickN k 10) (kT raw 0) (kT raw 5)), .string u] W fun e w' => Below W.heap.size W w' ∧ ∃ tv, e = .returned (.tuple #[.bool (holdsB (pickN k 10) ((kT raw 0).gr ((kT raw 0).run (btsN u))) ((kT raw 5).gr ((kT raw 5).run (btsN u)))), tv, .int .i64 0]) ∧ NR w' W.heap.size tv (imTr (planX (pickN n 17) (pickN k 10) (kT raw 0) (kT raw 5))) := fun u hu1 hu2 W =>
    (VCheck_any W _ u hxs hu2).mono fun e w' h => ⟨h.1, by
      rcases h.2 with h3 | h3 | h3
      · rw [← planX_says hN hF hA hB u]; exact h3.2.2
      · exact absurd h3.2.1 (by rw [h2]; omega)
      · exact absurd himg h3.1⟩
  have HCS := hide (ck (kshortS s (pickN n 17)) hsl (by omega))
  have HCT := hide (ck (kshortS t (pickN n 17)) htl (by omega))
  have HTL := hide (imTr_len himg)
  have HSZ : Hid ((planC ((pickN n 17 : Nat) : Int) ((pickN k 10 : Nat) : Int) (kCells (kT raw 0)) (kCells (kT raw 5))).size = 550) := planC_size _ _ (kCells_size _) (kCells_size _)
  have HON : Hid ((planC ((pickN n 17 : Nat) : Int) ((pickN k 10 : Nat) : Int) (kCells (kT raw 0)) (kCells (kT raw 5))).all (·.oneCell') = true) := planC_one _ _ (kCells_one _) (kCells_one _)
  have HC0 := hide (planC_0 ((pickN n 17 : Nat) : Int) ((pickN k 10 : Nat) : Int) (kCells (kT raw 0)) (kCells (kT raw 5)))
  clear hr n1 n2 k1 k2 hs ht hN hF hA hB hsl htl himg h2 hxs ck
  generalize holdsB (pickN k 10) ((kT raw 0).gr ((kT raw 0).run (btsN (kshortS s (pickN n 17))))) ((kT raw 5).gr ((kT raw 5).run (btsN (kshortS s (pickN n 17))))) = vs at *
  generalize holdsB (pickN k 10) ((kT raw 0).gr ((kT raw 0).run (btsN (kshortS t (pickN n 17))))) ((kT raw 5).gr ((kT raw 5).run (btsN (kshortS t (pickN n 17))))) = vt at *
  generalize imTr (planX (pickN n 17) (pickN k 10) (kT raw 0) (kT raw 5)) = T at *
  generalize planX (pickN n 17) (pickN k 10) (kT raw 0) (kT raw 5) = x at *
  generalize kshortS s (pickN n 17) = s1 at *
  generalize kshortS t (pickN n 17) = t1 at *
  generalize planC ((pickN n 17 : Nat) : Int) ((pickN k 10 : Nat) : Int) (kCells (kT raw 0)) (kCells (kT raw 5)) = cs at *
  generalize pickN n 17 = N at *
  go_enter Try.func5, Try.ntmps5
  go_wp2_with fail
  refine (unhide HPL _).mono ?_
  rintro e w1 ⟨rfl, hb1⟩
  have HIM : Hid ((w1.alloc (.cells cs 45)).heap[w1.heap.size]? = some (.cells cs 45 (0, 0))) := heap_alloc_new _ _
  have HB2 : Hid (Below w.heap.size w (w1.alloc (.cells cs 45))) := hb1.alloc hb1.size _
  have c0 : (w1.alloc (.cells cs 45)).cell? ⟨w1.heap.size, 0, none⟩ = some (.int .i64 (N : Int)) := by rw [cell_of_row _ _ _ _ _ _ (unhide HIM)]; exact unhide HC0
  clear hb1 HPL
  go_wp2_with (refine store_row rfl 45 _ _ rfl rfl w1.heap.size cs rfl rfl 45 _ (heap_alloc_new _ _) (by rw [unhide HSZ]; exact infoP) (by rw [zcPl_size]; exact (unhide HSZ).symm) (unhide HON) ?_; rw [setRow_alloc1])
  generalize w1.alloc (.cells cs 45) = w2 at *
  generalize w1.heap.size = gp at *
  refine (unhide HSS _).mono ?_
  rintro e w' ⟨rfl, hww⟩
  obtain rfl : w2 = w' := hww.symm
  clear hww
  go_wp2_with fail
  refine (unhide HST _).mono ?_
  rintro e w' ⟨rfl, hww⟩
  obtain rfl : w2 = w' := hww.symm
  clear hww c0
  go_wp2_with (refine wpList_load_row rfl 45 _ rfl gp rfl 45 _ (0, 0) _ (unhide HIM) Try.underlying45 rfl (by rw [unhide HSZ]; exact infoP) ?_)
  refine (unhide HTX _).mono ?_
  rintro e w3 ⟨rfl, hb3⟩
  have HF3 := hide hb3
  have HB3 := hide (kbel_up (unhide HB2) hb3)
  clear hb3 HTX HSS HST HB2
  go_wp2_with fail
  refine (unhide HCS _).mono ?_
  rintro e w4 ⟨hb4, tv1, rfl, ht4⟩
  obtain ⟨ta1, tc1, rfl⟩ := ht4.form
  have HF4 := hide (kbel_up (unhide HF3) hb4)
  have HB4 := hide (kbel_up (unhide HB3) hb4)
  have HT4 := hide ht4
  clear hb4 ht4 HF3 HB3 HCS
  go_wp2_with fail
  refine (unhide HCT _).mono ?_
  rintro e w5 ⟨hb5, tv2, rfl, ht5⟩
  obtain ⟨ta2, tc2, rfl⟩ := ht5.form
  have HF5 := hide (kbel_up (unhide HF4) hb5)
  have HB5 := hide (kbel_up (unhide HB4) hb5)
  have HT5 := hide ((unhide HT4).iat.below hb5)
  have HU5 := hide ht5.iat
  clear hb5 ht5 HF4 HB4 HT4 HCT
  go_wp2_with fail
  refine (ksame_any w5 _ _ (T.map Int.ofNat) (unhide HT5) (unhide HU5) (by rw [List.length_map]; have := unhide HTL; omega)).mono ?_
  rintro e w6 ⟨rfl, hb6⟩
  have HF6 := hide (kbel_up (unhide HF5) hb6)
  have HB6 := hide (kbel_up (unhide HB5) hb6)
  have HI6 : Hid (w6.heap[gp]? = some (.cells cs 45 (0, 0))) := (Fr.ofBelow (unhide HF6)).at (unhide HIM) (by simp)
  clear hb6 HF5 HB5 HT5 HU5
  go_wp2_with (refine wpList_load_row rfl 45 _ rfl gp rfl 45 _ (0, 0) _ (unhide HI6) Try.underlying45 rfl (by rw [unhide HSZ]; exact infoP) ?_)
  refine (unhide HGS _).mono ?_
  rintro e w7 ⟨rfl, hb7⟩
  have HB7 := hide (kbel_up (unhide HB6) hb7)
  have HI7 : Hid (w7.heap[gp]? = some (.cells cs 45 (0, 0))) := (Fr.ofBelow hb7).at (unhide HI6) (by simp)
  clear hb7 HF6 HB6 HGS HI6
  go_wp2_with (refine wpList_load_row rfl 45 _ rfl gp rfl 45 _ (0, 0) _ (unhide HI7) Try.underlying45 rfl (by rw [unhide HSZ]; exact infoP) ?_)
  refine (unhide HGT _).mono ?_
  rintro e w8 ⟨rfl, hb8⟩
  have HB8 := hide (kbel_up (unhide HB7) hb8)
  clear hb8 HB7 HGT HI7
  go_wp2_with fail
  go_ret
  exact ⟨by simp, unhide HB8⟩
end

end Mc
end Go.Proofs.Ytohefinejdfhaab
