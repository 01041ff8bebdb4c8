/-
  veilkeep.Told.
-/
import Derived.Test.YtnkdbcicphnmiaaT21
namespace Go.Proofs.Ytnkdbcicphnmiaa
namespace Mc
open Go.RowKit

theorem bne_swap (a b : Bool) : (b != a) = (a != b) := by cases a <;> cases b <;> rfl
/-- A plan: its walks. -/
structure PlW (cs : Array Value) (x : ByteArray) (P : List Nat → Bool) : Prop where
  size : cs.size = 550
  one : cs.all (·.oneCell') = true
  text : ∀ W, Calls Try.prog 22 #[.agg cs] W fun e w' => e = .returned (.string x) ∧ Below W.heap.size W w'
  grants : ∀ W s, s.size ≤ 9223372036854775807 → Calls Try.prog 25 #[.agg cs, .string s] W fun e w' => e = .returned (.bool (P (btsN s))) ∧ Below W.heap.size W w'
theorem plw (raw : ByteArray) (n k : Int) : PlW (planC ((pickN n 17 : Nat) : Int) ((pickN k 10 : Nat) : Int) (kCells (kT raw 0)) (kCells (kT raw 5))) (planX (pickN n 17) (pickN k 10) (kT raw 0) (kT raw 5)) (pSay (pickN k 10) (kT raw 0) (kT raw 5)) := by
  have hN : pickN n 17 ≤ 16 := by have := pickN_lt n (n := 17) (by decide); omega
  have hF : pickN k 10 < 10 := pickN_lt k (by decide)
  have hA := kT_kok raw 0
  have hB := kT_kok raw 5
  exact ⟨planC_size _ _ (kCells_size _) (kCells_size _), planC_one _ _ (kCells_one _) (kCells_one _), fun W => kptext_any W _ _ hN hF _ _ hA hB, fun W s hs => kgrants_big W _ _ hF _ _ hA hB s hs⟩
/-- What Differ answers of two plans. -/
def DfW (x y : ByteArray) (s : ByteArray) (b : Bool) : Prop := ∀ W, Calls Try.prog 18 #[.string x, .string y] W fun e w' => e = .returned (.tuple #[.string s, .bool b, .int .i64 0]) ∧ Below W.heap.size W w'
section
attribute [local go_sem ↓] Go.wp_at_zero Go.wp_at_succ zvPl
attribute [local go_sem] aggcells zcPl_size zcPl_ne
set_option maxRecDepth 20000 in
set_option maxHeartbeats 4000000 in
/-- The walk, once the answers of Differ are known. -/
theorem told_walk (w : World) (raw other : ByteArray) (k l : Int) (t : ByteArray) (ca cb : Array Value) (x y : ByteArray) (P Q : List Nat → Bool) (hp : ∀ W, Calls Try.prog 20 #[.string raw, .int .i64 1, .int .i64 k] W fun e w' => e = .returned (.agg ca) ∧ Below W.heap.size W w') (hq : ∀ W, Calls Try.prog 20 #[.string other, .int .i64 2, .int .i64 l] W fun e w' => e = .returned (.agg cb) ∧ Below W.heap.size W w') (pa : PlW ca x P) (pb : PlW cb y Q) (s : ByteArray) (b : Bool) (hs : s.size ≤ 9223372036854775807) (ht : t.size ≤ 9223372036854775807) (d1 : DfW x y s b) (d2 : DfW y x s b) (d3 : DfW x x ⟨#[]⟩ false)
    (hb : (b = true ∧ P (btsN s) = !(Q (btsN s)) ∧ (P (btsN t) = Q (btsN t) ∨ befN (btsN t) (btsN s) = false)) ∨ (b = false ∧ s = ⟨#[]⟩ ∧ P (btsN t) = Q (btsN t))) :
    Calls Try.prog 11 #[.string raw, .string other, .int .i64 k, .int .i64 l, .string t] w fun e w' => e = .returned (.bool true) ∧ Below w.heap.size w w' := by
  have HP := hide hp
  have HQ := hide hq
  have PA := hide pa
  have PB := hide pb
  have D1 := hide d1
  have D2 := hide d2
  have D3 := hide d3
  have HGA := hide (fun W => pa.grants W t ht)
  have HGB := hide (fun W => pb.grants W t ht)
  have HSA := hide (fun W => pa.grants W s hs)
  have HSB := hide (fun W => pb.grants W s hs)
  have HBE := hide (fun W => kbefore_any W t s ht hs)
  have HHB := hide hb
  clear hp hq pa pb d1 d2 d3 hs ht hb
  generalize P (btsN s) = ps at *
  generalize Q (btsN s) = qs at *
  generalize P (btsN t) = pt at *
  generalize Q (btsN t) = qt at *
  generalize befN (btsN t) (btsN s) = ls at *
  go_enter Try.func11, Try.ntmps11
  go_wp2_with fail
  refine (unhide HP _).mono ?_
  rintro e w1 ⟨rfl, hb1⟩
  have HIM : Hid ((w1.alloc (.cells ca 48)).heap[w1.heap.size]? = some (.cells ca 48 (0, 0))) := heap_alloc_new _ _
  have HB2 : Hid (Below w.heap.size w (w1.alloc (.cells ca 48))) := hb1.alloc hb1.size _
  clear hb1 HP
  go_wp2_with (refine store_row rfl 48 _ _ rfl rfl w1.heap.size ca rfl rfl 48 _ (heap_alloc_new _ _) (by rw [(unhide PA).size]; exact infoP) (by rw [zcPl_size]; exact (unhide PA).size.symm) (unhide PA).one ?_; rw [setRow_alloc1])
  generalize w1.alloc (.cells ca 48) = w2 at *
  generalize w1.heap.size = ga at *
  refine (unhide HQ _).mono ?_
  rintro e w3 ⟨rfl, hb3⟩
  have HIA : Hid ((w3.alloc (.cells cb 48)).heap[ga]? = some (.cells ca 48 (0, 0))) := (Fr.ofAlloc _ _).at ((Fr.ofBelow hb3).at (unhide HIM) (by simp)) (by simp)
  have HIB : Hid ((w3.alloc (.cells cb 48)).heap[w3.heap.size]? = some (.cells cb 48 (0, 0))) := heap_alloc_new _ _
  have HB4 : Hid (Below w.heap.size w (w3.alloc (.cells cb 48))) := (bel_up3 (unhide HB2) hb3).alloc (bel_up3 (unhide HB2) hb3).size _
  clear hb3 HQ HIM HB2
  go_wp2_with (first
    | (refine store_row rfl 48 _ _ rfl rfl w3.heap.size cb rfl rfl 48 _ (heap_alloc_new _ _) (by rw [(unhide PB).size]; exact infoP) (by rw [zcPl_size]; exact (unhide PB).size.symm) (unhide PB).one ?_; rw [setRow_alloc1])
    | (refine wpList_load_row rfl 48 _ rfl ga rfl 48 _ (0, 0) _ (unhide HIA) Try.underlying48 rfl (by rw [(unhide PA).size]; exact infoP) ?_))
  generalize w3.alloc (.cells cb 48) = w4 at *
  generalize w3.heap.size = gb at *
  refine ((unhide PA).text _).mono ?_
  rintro e w5 ⟨rfl, hb5⟩
  have HB5 := hide (bel_up3 (unhide HB4) hb5)
  have HI5 : Hid (w5.heap[ga]? = some (.cells ca 48 (0, 0))) := (Fr.ofBelow hb5).at (unhide HIA) (by simp)
  have HJ5 : Hid (w5.heap[gb]? = some (.cells cb 48 (0, 0))) := (Fr.ofBelow hb5).at (unhide HIB) (by simp)
  clear hb5 HB4 HIA HIB
  go_wp2_with (refine wpList_load_row rfl 48 _ rfl gb rfl 48 _ (0, 0) _ (unhide HJ5) Try.underlying48 rfl (by rw [(unhide PB).size]; exact infoP) ?_)
  refine ((unhide PB).text _).mono ?_
  rintro e w6 ⟨rfl, hb6⟩
  have HB6 := hide (bel_up3 (unhide HB5) hb6)
  have HI6 : Hid (w6.heap[ga]? = some (.cells ca 48 (0, 0))) := (Fr.ofBelow hb6).at (unhide HI5) (by simp)
  have HJ6 : Hid (w6.heap[gb]? = some (.cells cb 48 (0, 0))) := (Fr.ofBelow hb6).at (unhide HJ5) (by simp)
  clear hb6 HB5 HI5 HJ5
  go_wp2_with fail
  refine (unhide D1 _).mono ?_
  rintro e w7 ⟨rfl, hb7⟩
  have HB7 := hide (bel_up3 (unhide HB6) hb7)
  have HI7 : Hid (w7.heap[ga]? = some (.cells ca 48 (0, 0))) := (Fr.ofBelow hb7).at (unhide HI6) (by simp)
  have HJ7 : Hid (w7.heap[gb]? = some (.cells cb 48 (0, 0))) := (Fr.ofBelow hb7).at (unhide HJ6) (by simp)
  clear hb7 HB6 HI6 HJ6 D1
  go_wp2_with fail
  refine (unhide D2 _).mono ?_
  rintro e w8 ⟨rfl, hb8⟩
  have HB8 := hide (bel_up3 (unhide HB7) hb8)
  have HI8 : Hid (w8.heap[ga]? = some (.cells ca 48 (0, 0))) := (Fr.ofBelow hb8).at (unhide HI7) (by simp)
  have HJ8 : Hid (w8.heap[gb]? = some (.cells cb 48 (0, 0))) := (Fr.ofBelow hb8).at (unhide HJ7) (by simp)
  clear hb8 HB7 HI7 HJ7 D2
  go_wp2_with fail
  refine (unhide D3 _).mono ?_
  rintro e w9 ⟨rfl, hb9⟩
  have HB9 := hide (bel_up3 (unhide HB8) hb9)
  have HI9 : Hid (w9.heap[ga]? = some (.cells ca 48 (0, 0))) := (Fr.ofBelow hb9).at (unhide HI8) (by simp)
  have HJ9 : Hid (w9.heap[gb]? = some (.cells cb 48 (0, 0))) := (Fr.ofBelow hb9).at (unhide HJ8) (by simp)
  clear hb9 HB8 HI8 HJ8 D3
  rcases unhide HHB with ⟨rfl, hps, hbl⟩ | ⟨rfl, rfl, hpt⟩
  · have HPS := hide hps
    have HBL := hide hbl
    clear HHB hps hbl
    go_wp2_with (refine wpList_load_row rfl 48 _ rfl ga rfl 48 _ (0, 0) _ (unhide HI9) Try.underlying48 rfl (by rw [(unhide PA).size]; exact infoP) ?_)
    refine (unhide HGA _).mono ?_
    rintro e w10 ⟨rfl, hb10⟩
    have HB10 := hide (bel_up3 (unhide HB9) hb10)
    have HI10 : Hid (w10.heap[ga]? = some (.cells ca 48 (0, 0))) := (Fr.ofBelow hb10).at (unhide HI9) (by simp)
    have HJ10 : Hid (w10.heap[gb]? = some (.cells cb 48 (0, 0))) := (Fr.ofBelow hb10).at (unhide HJ9) (by simp)
    clear hb10 HB9 HI9 HJ9 HGA
    go_wp2_with (refine wpList_load_row rfl 48 _ rfl gb rfl 48 _ (0, 0) _ (unhide HJ10) Try.underlying48 rfl (by rw [(unhide PB).size]; exact infoP) ?_)
    refine (unhide HGB _).mono ?_
    rintro e w11 ⟨rfl, hb11⟩
    have HB11 := hide (bel_up3 (unhide HB10) hb11)
    have HI11 : Hid (w11.heap[ga]? = some (.cells ca 48 (0, 0))) := (Fr.ofBelow hb11).at (unhide HI10) (by simp)
    have HJ11 : Hid (w11.heap[gb]? = some (.cells cb 48 (0, 0))) := (Fr.ofBelow hb11).at (unhide HJ10) (by simp)
    clear hb11 HB10 HI10 HJ10 HGB
    go_wp2_with (refine wpList_load_row rfl 48 _ rfl ga rfl 48 _ (0, 0) _ (unhide HI11) Try.underlying48 rfl (by rw [(unhide PA).size]; exact infoP) ?_)
    refine (unhide HSA _).mono ?_
    rintro e w12 ⟨rfl, hb12⟩
    have HB12 := hide (bel_up3 (unhide HB11) hb12)
    have HJ12 : Hid (w12.heap[gb]? = some (.cells cb 48 (0, 0))) := (Fr.ofBelow hb12).at (unhide HJ11) (by simp)
    clear hb12 HB11 HI11 HJ11 HSA
    go_wp2_with (refine wpList_load_row rfl 48 _ rfl gb rfl 48 _ (0, 0) _ (unhide HJ12) Try.underlying48 rfl (by rw [(unhide PB).size]; exact infoP) ?_)
    refine (unhide HSB _).mono ?_
    rintro e w13 ⟨rfl, hb13⟩
    have HB13 := hide (bel_up3 (unhide HB12) hb13)
    clear hb13 HB12 HJ12 HSB
    go_wp2_with fail
    refine (unhide HBE _).mono ?_
    rintro e w14 ⟨rfl, hww⟩
    obtain rfl : w13 = w14 := hww.symm
    clear hww HBE
    have hps := unhide HPS
    have hbl := unhide HBL
    clear HPS HBL
    cases ps <;> cases qs <;> cases pt <;> cases qt <;> cases ls
    all_goals
      first
      | exact absurd hps (by decide)
      | exact absurd hbl (by decide)
      | (clear hps hbl
         go_wp2_with fail
         go_ret
         exact ⟨rfl, unhide HB13⟩)
  · subst hpt
    clear HHB
    go_wp2_with (refine wpList_load_row rfl 48 _ rfl ga rfl 48 _ (0, 0) _ (unhide HI9) Try.underlying48 rfl (by rw [(unhide PA).size]; exact infoP) ?_)
    refine (unhide HGA _).mono ?_
    rintro e w10 ⟨rfl, hb10⟩
    have HB10 := hide (bel_up3 (unhide HB9) hb10)
    have HJ10 : Hid (w10.heap[gb]? = some (.cells cb 48 (0, 0))) := (Fr.ofBelow hb10).at (unhide HJ9) (by simp)
    clear hb10 HB9 HI9 HJ9 HGA
    go_wp2_with (refine wpList_load_row rfl 48 _ rfl gb rfl 48 _ (0, 0) _ (unhide HJ10) Try.underlying48 rfl (by rw [(unhide PB).size]; exact infoP) ?_)
    refine (unhide HGB _).mono ?_
    rintro e w11 ⟨rfl, hb11⟩
    have HB11 := hide (bel_up3 (unhide HB10) hb11)
    clear hb11 HB10 HJ10 HGB
    cases pt
    all_goals
      go_wp2_with fail
      go_ret
      exact ⟨rfl, unhide HB11⟩
end
theorem Told_any (w : World) (raw other : ByteArray) (k l : Int) (t : ByteArray) (hr : raw.size ≤ 9223372036854775807) (ho : other.size ≤ 9223372036854775807) (k1 : -9223372036854775808 ≤ k) (k2 : k ≤ 9223372036854775807) (l1 : -9223372036854775808 ≤ l) (l2 : l ≤ 9223372036854775807) (ht : t.size ≤ 9223372036854775807) :
    Calls Try.prog 11 #[.string raw, .string other, .int .i64 k, .int .i64 l, .string t] w fun e w' => e = .returned (.bool true) ∧ Below w.heap.size w w' := by
  have hN : ∀ n, pickN n 17 ≤ 16 := fun n => by have := pickN_lt n (n := 17) (by decide); omega
  have hF : ∀ k, pickN k 10 < 10 := fun k => pickN_lt k (by decide)
  have hA := kT_kok raw 0
  have hB := kT_kok raw 5
  have hA' := kT_kok other 0
  have hB' := kT_kok other 5
  have hsw : ∀ v, (pSay (pickN l 10) (kT other 0) (kT other 5) v != pSay (pickN k 10) (kT raw 0) (kT raw 5) v) = (pSay (pickN k 10) (kT raw 0) (kT raw 5) v != pSay (pickN l 10) (kT other 0) (kT other 5) v) := fun v => bne_swap _ _
  have d3 : DfW (planX (pickN 1 17) (pickN k 10) (kT raw 0) (kT raw 5)) (planX (pickN 1 17) (pickN k 10) (kT raw 0) (kT raw 5)) ⟨#[]⟩ false := fun W => plan_dif_none (hN 1) (hF k) hA hB (hN 1) (hF k) hA hB (fun v _ => by simp) W
  rcases first_or (fun v => pSay (pickN k 10) (kT raw 0) (kT raw 5) v != pSay (pickN l 10) (kT other 0) (kT other 5) v) with ⟨u, hu, hp, hmin⟩ | hno
  · have hul : u.length ≤ 255 := by
      obtain ⟨e, w', fr, hR, -⟩ := (plan_dif_some (hN 1) (hF k) hA hB (hN 2) (hF l) hA' hB' hu hp hmin w) []
      exact hR.2.1
    refine told_walk w raw other k l t _ _ _ _ _ _ (fun W => kplan_any W raw 1 k hr (by decide) (by decide) k1 k2) (fun W => kplan_any W other 2 l ho (by decide) (by decide) l1 l2) (plw raw 1 k) (plw other 2 l) (mkV u) true (by rw [mkV_size]; omega) ht
      (fun W => (plan_dif_some (hN 1) (hF k) hA hB (hN 2) (hF l) hA' hB' hu hp hmin W).mono fun e w' h => ⟨h.1, h.2.2⟩)
      (fun W => (plan_dif_some (hN 2) (hF l) hA' hB' (hN 1) (hF k) hA hB hu (by rw [hsw]; exact hp) (fun v hv hpv => hmin v hv (by rw [hsw] at hpv; exact hpv)) W).mono fun e w' h => ⟨h.1, h.2.2⟩) d3
      (.inl ⟨rfl, ?_, ?_⟩)
    · rw [btsN_mkV hu]
      have hp' : (pSay (pickN k 10) (kT raw 0) (kT raw 5) u != pSay (pickN l 10) (kT other 0) (kT other 5) u) = true := hp
      revert hp'
      cases pSay (pickN k 10) (kT raw 0) (kT raw 5) u <;> cases pSay (pickN l 10) (kT other 0) (kT other 5) u <;> decide
    · cases hh : (pSay (pickN k 10) (kT raw 0) (kT raw 5) (btsN t) != pSay (pickN l 10) (kT other 0) (kT other 5) (btsN t))
      · exact .inl (by simpa using hh)
      · refine .inr (decide_eq_false ?_)
        have := hmin (btsN t) (btsN_byt t) hh
        rw [btsN_mkV hu]; omega
  · refine told_walk w raw other k l t _ _ _ _ _ _ (fun W => kplan_any W raw 1 k hr (by decide) (by decide) k1 k2) (fun W => kplan_any W other 2 l ho (by decide) (by decide) l1 l2) (plw raw 1 k) (plw other 2 l) ⟨#[]⟩ false (Nat.zero_le _) ht
      (fun W => plan_dif_none (hN 1) (hF k) hA hB (hN 2) (hF l) hA' hB' hno W)
      (fun W => plan_dif_none (hN 2) (hF l) hA' hB' (hN 1) (hF k) hA hB (fun v hv => by rw [hsw]; exact hno v hv) W) d3
      (.inr ⟨rfl, rfl, ?_⟩)
    have := hno (btsN t) (btsN_byt t)
    simpa using this

end Mc
end Go.Proofs.Ytnkdbcicphnmiaa
