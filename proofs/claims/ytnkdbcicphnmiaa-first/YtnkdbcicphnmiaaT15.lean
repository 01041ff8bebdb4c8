/-
  veilkeep.Plan.grants.
  veilkeep.Plan.text.
  veilkeep.short, veilkeep.sameInts.
-/
import Derived.Test.YtnkdbcicphnmiaaHj
namespace Go.Proofs.Ytnkdbcicphnmiaa
namespace Mc
open Go.RowKit

section
variable (N k : Int) (A B : Array Value)
theorem planC_0 : (planC N k A B)[0]? = some (.int .i64 N) := by
  unfold planC; rw [Array.getElem?_append_left (by simp; omega), Array.getElem?_append_left (by simp)]; rfl
theorem planC_1 : (planC N k A B)[1]? = some (.int .i64 k) := by
  unfold planC; rw [Array.getElem?_append_left (by simp; omega), Array.getElem?_append_left (by simp)]; rfl
theorem planC_A {j : Nat} (hj : j < A.size) : (planC N k A B)[2 + j]? = A[j]? := by
  unfold planC
  rw [Array.getElem?_append_left (by simp; omega), Array.getElem?_append_right (by simp)]
  congr 1; simp
theorem planC_B (hA : A.size = 274) (j : Nat) : (planC N k A B)[276 + j]? = B[j]? := by
  unfold planC
  rw [Array.getElem?_append_right (by simp [hA])]
  congr 1; simp [hA]
end
/-- A plan in memory. -/
structure PlI (w : World) (g : Nat) (N k : Int) (A B : Array Value) : Prop where
  heap : w.heap[g]? = some (.cells (planC N k A B) 48 (0, 0))
  sa : A.size = 274
  sb : B.size = 274
section
variable {w w' : World} {g : Nat} {N k : Int} {A B : Array Value}
theorem PlI.c0 (h : PlI w g N k A B) : w.cell? ⟨g, 0, none⟩ = some (.int .i64 N) := by rw [cell_of_row _ _ _ _ _ _ h.heap, planC_0]
theorem PlI.c1 (h : PlI w g N k A B) : w.cell? ⟨g, 1, none⟩ = some (.int .i64 k) := by rw [cell_of_row _ _ _ _ _ _ h.heap, planC_1]
theorem PlI.ra (h : PlI w g N k A B) : w.rangeAt g 2 A.toList := fun j v hv => by
  rw [Array.getElem?_toList] at hv
  rw [cell_of_row _ _ _ _ _ _ h.heap, planC_A _ _ _ _ (Array.getElem?_eq_some_iff.1 hv).1, hv]
theorem PlI.rb (h : PlI w g N k A B) : w.rangeAt g 276 B.toList := fun j v hv => by
  rw [Array.getElem?_toList] at hv
  rw [cell_of_row _ _ _ _ _ _ h.heap, planC_B _ _ _ _ h.sa, hv]
theorem PlI.below (h : PlI w g N k A B) (hb : Below w.heap.size w w') : PlI w' g N k A B := ⟨(Fr.ofBelow hb).at h.heap (by simp), h.sa, h.sb⟩
end

section
attribute [local go_sem ↓] Go.wp_at_zero Go.wp_at_succ
attribute [local go_sem] aggcells
set_option maxRecDepth 20000 in
set_option maxHeartbeats 2000000 in
theorem kgrants_big (w : World) (N : Int) (F : Nat) (hF : F < 10) (tA tB : TabN) (hA : KOk tA) (hB : KOk tB) (s : ByteArray) (hs : s.size ≤ 9223372036854775807) :
    Calls Try.prog 25 #[.agg (planC N (F : Int) (kCells tA) (kCells tB)), .string s] w fun e w' => e = .returned (.bool (holdsB F (tA.gr (tA.run (btsN s))) (tB.gr (tB.run (btsN s))))) ∧ Below w.heap.size w w' := by
  have HRA := hide (fun W => kreads_big W tA hA s hs)
  have HRB := hide (fun W => kreads_big W tB hB s hs)
  have HHO := hide (fun W => kholds_any W F hF (tA.gr (tA.run (btsN s))) (tB.gr (tB.run (btsN s))))
  have HP0 : Hid (PlI (w.alloc (.cells (planC N (F : Int) (kCells tA) (kCells tB)) 48)) w.heap.size N (F : Int) (kCells tA) (kCells tB)) := ⟨heap_alloc_new _ _, kCells_size _, kCells_size _⟩
  have HB0 : Hid (Below w.heap.size w (w.alloc (.cells (planC N (F : Int) (kCells tA) (kCells tB)) 48))) := (Below.refl _ _).alloc (Nat.le_refl _) _
  clear hF hA hB hs
  generalize tA.gr (tA.run (btsN s)) = va at *
  generalize tB.gr (tB.run (btsN s)) = vb at *
  generalize kCells tA = A at *
  generalize kCells tB = B at *
  generalize planC N (F : Int) A B = cs at *
  go_enter Try.func25, Try.ntmps25
  go_wp2_with (refine wpList_load_mid rfl 46 _ rfl w.heap.size 2 rfl A.toList _ (unhide HP0).ra Try.underlying46 rfl (by rw [Array.length_toList, (unhide HP0).sa]; exact infoK) ?_)
  generalize w.alloc (.cells cs 48) = w0 at *
  refine (unhide HRA _).mono ?_
  rintro e w1 ⟨rfl, hb1⟩
  have HP1 := hide ((unhide HP0).below hb1)
  have HB1 : Hid (Below w.heap.size w w1) := (unhide HB0).trans (hb1.mono (unhide HB0).size)
  clear hb1 HP0 HB0 HRA
  go_wp2_with (refine wpList_load_mid rfl 46 _ rfl w.heap.size 276 rfl B.toList _ (unhide HP1).rb Try.underlying46 rfl (by rw [Array.length_toList, (unhide HP1).sb]; exact infoK) ?_)
  refine (unhide HRB _).mono ?_
  rintro e w2 ⟨rfl, hb2⟩
  have c1 := ((unhide HP1).below hb2).c1
  have HB2 : Hid (Below w.heap.size w w2) := (unhide HB1).trans (hb2.mono (unhide HB1).size)
  clear hb2 HP1 HB1 HRB
  go_wp2_with fail
  refine (unhide HHO _).mono ?_
  rintro e w3 ⟨rfl, hww⟩
  obtain rfl : w2 = w3 := hww.symm
  clear hww
  go_wp2_with fail
  go_ret
  exact ⟨rfl, unhide HB2⟩
end
theorem kgrants_any (w : World) (N : Int) (F : Nat) (hF : F < 10) (tA tB : TabN) (hA : KOk tA) (hB : KOk tB) (s : ByteArray) (hs : s.size ≤ 1000) :
    Calls Try.prog 25 #[.agg (planC N (F : Int) (kCells tA) (kCells tB)), .string s] w fun e w' => e = .returned (.bool (holdsB F (tA.gr (tA.run (btsN s))) (tB.gr (tB.run (btsN s))))) ∧ Below w.heap.size w w' := kgrants_big w N F hF tA tB hA hB s (by omega)

end Mc
end Go.Proofs.Ytnkdbcicphnmiaa
namespace Go.Proofs.Ytnkdbcicphnmiaa
namespace Mc
open Go.RowKit

section
attribute [local go_sem ↓] Go.wp_at_zero Go.wp_at_succ
attribute [local go_sem] aggcells
set_option maxRecDepth 20000 in
set_option maxHeartbeats 2000000 in
theorem kptext_any (w : World) (N F : Nat) (hN : N ≤ 16) (hF : F < 10) (tA tB : TabN) (hA : KOk tA) (hB : KOk tB) :
    Calls Try.prog 22 #[.agg (planC (N : Int) (F : Int) (kCells tA) (kCells tB))] w fun e w' => e = .returned (.string (planX N F tA tB)) ∧ Below w.heap.size w w' := by
  have HFO := hide (fun W => kform_any W F hF)
  have HTA := hide (fun W => ktext_any W tA hA)
  have HTB := hide (fun W => ktext_any W tB hB)
  have hfs := form_size hF
  have HPX : Hid (planX N F tA tB = (((⟨#[86, 80]⟩ ++ mkS [N, 2, (formS F).size]) ++ formS F) ++ mkS (kBy tA)) ++ mkS (kBy tB)) := rfl
  have HP0 : Hid (PlI (w.alloc (.cells (planC (N : Int) (F : Int) (kCells tA) (kCells tB)) 48)) w.heap.size (N : Int) (F : Int) (kCells tA) (kCells tB)) := ⟨heap_alloc_new _ _, kCells_size _, kCells_size _⟩
  have HB0 : Hid (Below w.heap.size w (w.alloc (.cells (planC (N : Int) (F : Int) (kCells tA) (kCells tB)) 48))) := (Below.refl _ _).alloc (Nat.le_refl _) _
  have c1 := (unhide HP0).c1
  have HCV : Hid (∀ W : World, (convert 100 9 (.slice (some ⟨W.heap.size, 0, none⟩) 3 3)).run Try.prog (W.alloc (.cells #[.int .u8 (N : Int), .int .u8 2, .int .u8 ((formS F).size : Int)] 5)) = .ok (.string (mkS [N, 2, (formS F).size])) (W.alloc (.cells #[.int .u8 (N : Int), .int .u8 2, .int .u8 ((formS F).size : Int)] 5))) := fun W =>
    conv_mk (B := 0) (xs := [N, 2, (formS F).size]) ⟨rfl, .inr ⟨_, 3, _, rfl, Nat.zero_le _, heap_alloc_new _ _, Nat.le_refl _, by unfold maxLen; omega, rfl, rfl⟩⟩ (by intro x hx; simp at hx; omega)
  have u0 := u8_wrap N (by omega)
  have u1 := u8_wrap (formS F).size (by omega)
  have nI : (N : Int) ≤ 16 := by omega
  have sI : ((formS F).size : Int) ≤ 15 := by omega
  have hlen : ∀ {t : TabN}, KOk t → (mkS (kBy t)).size ≤ 300 := fun {t} h => by
    have h1 : t.S * t.C ≤ 4 * 3 := Nat.mul_le_mul h.s4 h.c3
    have h2 := h.s4
    rw [mkS_size, kBy_len]; omega
  have l3 : (mkS [N, 2, (formS F).size]).size = 3 := by rw [mkS_size]; rfl
  have la := hlen hA
  have lb := hlen hB
  have z1 : ¬ 9223372036854775807 < 2 + (mkS [N, 2, (formS F).size]).size := by omega
  have z2 : ¬ 9223372036854775807 < 2 + (mkS [N, 2, (formS F).size]).size + (formS F).size := by omega
  have z3 : ¬ 9223372036854775807 < 2 + (mkS [N, 2, (formS F).size]).size + (formS F).size + (mkS (kBy tA)).size := by omega
  have z4 : ¬ 9223372036854775807 < 2 + (mkS [N, 2, (formS F).size]).size + (formS F).size + (mkS (kBy tA)).size + (mkS (kBy tB)).size := by omega
  clear hN hF hA hB hfs hlen l3 la lb
  generalize formS F = f at *
  generalize mkS (kBy tA) = xa at *
  generalize mkS (kBy tB) = xb at *
  generalize kCells tA = A at *
  generalize kCells tB = B at *
  generalize planC (N : Int) (F : Int) A B = cs at *
  go_enter Try.func22, Try.ntmps22
  go_wp2_with fail
  generalize w.alloc (.cells cs 48) = w0 at *
  refine (unhide HFO _).mono ?_
  rintro e w1 ⟨rfl, hb1⟩
  have HP1 := hide ((unhide HP0).below hb1)
  have HB1 : Hid (Below w.heap.size w w1) := (unhide HB0).trans (hb1.mono (unhide HB0).size)
  clear hb1 HP0 HB0 HFO c1
  go_wp2_with (refine wpList_load_mid rfl 46 _ rfl w.heap.size 2 rfl A.toList _ (unhide HP1).ra Try.underlying46 rfl (by rw [Array.length_toList, (unhide HP1).sa]; exact infoK) ?_)
  refine (unhide HTA _).mono ?_
  rintro e w2 ⟨rfl, hb2⟩
  have HP2 := hide ((unhide HP1).below hb2)
  have HB2 : Hid (Below w.heap.size w w2) := (unhide HB1).trans (hb2.mono (unhide HB1).size)
  clear hb2 HP1 HB1 HTA
  go_wp2_with (refine wpList_load_mid rfl 46 _ rfl w.heap.size 276 rfl B.toList _ (unhide HP2).rb Try.underlying46 rfl (by rw [Array.length_toList, (unhide HP2).sb]; exact infoK) ?_)
  refine (unhide HTB _).mono ?_
  rintro e w3 ⟨rfl, hb3⟩
  have c0 := ((unhide HP2).below hb3).c0
  have HB3 : Hid (Below w.heap.size w w3) := (unhide HB2).trans (hb3.mono (unhide HB2).size)
  have hcv := unhide HCV w3
  clear hb3 HP2 HB2 HTB HCV
  generalize mkS [N, 2, f.size] = h3 at *
  go_wp2_with fail
  go_ret
  exact ⟨by rw [unhide HPX]; rfl, (unhide HB3).alloc (unhide HB3).size _⟩
end

end Mc
end Go.Proofs.Ytnkdbcicphnmiaa
namespace Go.Proofs.Ytnkdbcicphnmiaa
namespace Mc
open Go.RowKit
attribute [local go_sem ↓] Go.wp_at_zero Go.wp_at_succ

/-- At most so many bytes of a string. -/
def kshortS (s : ByteArray) (n : Nat) : ByteArray := if n < s.size then s.extract 0 n else s
theorem kshortS_le (s : ByteArray) (n : Nat) : (kshortS s n).size ≤ n := by
  unfold kshortS
  split
  · rw [ByteArray.size_extract]; omega
  · omega
set_option maxRecDepth 20000 in
theorem kshort_any (w : World) (s : ByteArray) (n : Nat) (hs : s.size ≤ 9223372036854775807) (hn : n ≤ 1000) : Calls Try.prog 21 #[.string s, .int .i64 (n : Int)] w fun e w' => e = .returned (.string (kshortS s n)) ∧ w' = w := by
  have hsI : (s.size : Int) ≤ 9223372036854775807 := by omega
  have hnI : (n : Int) ≤ 1000 := by omega
  have h0 : (0 : Int) ≤ (n : Int) := by omega
  have h1 : ((n : Int)).toNat = n := by omega
  unfold kshortS
  by_cases h : n < s.size
  · rw [if_pos h]
    have hI : (n : Int) < (s.size : Int) := by omega
    have hI2 : (n : Int) ≤ (s.size : Int) := by omega
    clear h hs hn
    go_enter Try.func21, Try.ntmps21
    go_wp2_with fail
    go_ret
    exact ⟨rfl, rfl⟩
  · rw [if_neg h]
    have hI : (s.size : Int) ≤ (n : Int) := by omega
    clear h hs hn
    go_enter Try.func21, Try.ntmps21
    go_wp2_with fail
    go_ret
    exact ⟨rfl, rfl⟩

set_option maxRecDepth 20000 in
set_option maxHeartbeats 1000000 in
theorem ksame_any (w : World) (av bv : Value) (zs : List Int) (ha : IAt w av zs) (hb : IAt w bv zs) (hz : zs.length ≤ 17592186044416) :
    Calls Try.prog 24 #[av, bv] w fun e w' => e = .returned (.bool true) ∧ Below w.heap.size w w' := by
  obtain ⟨aa, ac, rfl, hac⟩ := ha
  obtain ⟨ba, bc, rfl, hbc⟩ := hb
  have HA := hide hac
  have HB := hide hbc
  have hzI : (zs.length : Int) ≤ 17592186044416 := by omega
  clear hac hbc hz
  go_enter Try.func24, Try.ntmps24
  go_wp2_with fail
  go_loopw [5] (fun ix wr => ∃ i : Nat, ix = .int .i64 (i : Int) ∧ Hid (i ≤ zs.length ∧ Below w.heap.size w wr)) (fun ix _ => lenLeft zs.length ix)
  case atStart => exact ⟨0, rfl, Nat.zero_le _, Below.refl _ _⟩
  case round =>
    rename World => wr
    obtain ⟨i, rfl, HH⟩ := hrel
    obtain ⟨hi, hBw⟩ := unhide HH
    have HBW := hide hBw
    by_cases hlt : i < zs.length
    · obtain ⟨b1, o1, rfl, h1⟩ := unhide HA (by omega)
      obtain ⟨b2, o2, rfl, h2⟩ := unhide HB (by omega)
      have c1 := below_cell hBw (h1 i hlt)
      have c2 := below_cell hBw (h2 i hlt)
      have hiI : (i : Int) < (zs.length : Int) := by omega
      have HLT := hide hlt
      clear HH hi hBw hlt h1 h2
      generalize zs.getD i 0 = z at *
      go_wp2_with fail
      go_region
      all_goals
        go_wp2_with fail
        go_roundw
        case rel => exact ⟨i + 1, by go_num, unhide HLT, (unhide HBW).drew⟩
        case measure => have := unhide HLT; simp [lenLeft, intOf]; omega
    · have hi2 : i = zs.length := by omega
      subst hi2
      clear HH hi hBw hlt
      go_wp2_with fail
      go_ret
      exact ⟨rfl, unhide HBW⟩


end Mc
end Go.Proofs.Ytnkdbcicphnmiaa
