/-
  veilkeep.Judges.
-/
import Derived.Test.YtnkdbcicphnmiaaT16
namespace Go.Proofs.Ytnkdbcicphnmiaa
namespace Mc
open Go.RowKit

theorem beq_tt (b : Bool) : (((b.toNat : Nat) : Int) == 1) = b := by cases b <;> rfl
theorem beq_ff (b : Bool) : (((b.toNat : Nat) : Int) == 0) = !b := by cases b <;> rfl
theorem kfrS {B : Nat} {a w w' : World} {S : List Nat} (hb : Below B a w) (f : Fr S w w') (hB : B ≤ w.heap.size) (hS : ∀ q ∈ S, B ≤ q) : Below B a w' :=
  hb.trans ⟨f.os, f.tape, f.output, f.size, fun k hk => f.block k (Nat.lt_of_lt_of_le hk hB) (fun hm => by have := hS k hm; omega)⟩

/-- A row of numbers is appended to nothing. -/
theorem kappI {ops : Array Oper} {rest : List Oper} {o : Oper} {a : Act} {W : World} {Q : Exit → Act → World → Prop} (hgd : o.guard = none) (s x : Operand)
    (ho : o.op = .call { callee := .builtin .append, args := #[s, x], argTypes := #[23, 23] }) (B : Nat) (hs : a.eval s = .slice none 0 0) (g0 cap0 B0 : Nat) (ys : List Nat)
    (hx : a.eval x = .slice (some ⟨g0, 0, none⟩) ys.length cap0) (hy : NR W B0 (.slice (some ⟨g0, 0, none⟩) ys.length cap0) ys) (hp : 0 < ys.length) (hlen : ys.length ≤ 4000) (hB : B ≤ W.heap.size) (H : Nat) (hH : W.heap.size = H)
    (h : ∀ g cap w', NR w' B (.slice (some ⟨g, 0, none⟩) ys.length cap) ys → W.grownBy w' none → wpList Try.prog ops Q rest (a.put o.dst (.slice (some ⟨g, 0, none⟩) ys.length cap)) w') : wpList Try.prog ops Q (o :: rest) a W := by
  refine appR hgd s x ho B (.slice none 0 0) [] hs (NR.nil _ _) g0 cap0 B0 ys hx hy hp (by simp; omega) hB H hH ?_
  intro g cap w' h1 h2 _ _
  rw [List.length_nil, Nat.zero_add, List.nil_append] at h1
  rw [List.length_nil, Nat.zero_add]
  exact h g cap w' h1 h2

section
attribute [local go_sem ↓] Go.wp_at_zero Go.wp_at_succ zvPl
attribute [local go_sem] aggcells zcPl_size zcPl_ne
set_option maxRecDepth 20000 in
set_option maxHeartbeats 4000000 in
theorem Judges_any (w : World) (raw : ByteArray) (n k : Int) (s : ByteArray) (hr : raw.size ≤ 9223372036854775807) (n1 : -9223372036854775808 ≤ n) (n2 : n ≤ 9223372036854775807) (k1 : -9223372036854775808 ≤ k) (k2 : k ≤ 9223372036854775807) (hs : s.size ≤ 9223372036854775807) :
    Calls Try.prog 9 #[.string raw, .int .i64 n, .int .i64 k, .string s] w fun e w' => e = .returned (.bool true) ∧ Below w.heap.size w w' := by
  have hN : pickN n 17 ≤ 16 := by have := pickN_lt n (n := 17) (by decide); omega
  have hF : pickN k 10 < 10 := pickN_lt k (by decide)
  have HPL : Hid (∀ W, Calls Try.prog 20 #[.string raw, .int .i64 n, .int .i64 k] W fun e w' => e = .returned (.agg (planC ((pickN n 17 : Nat) : Int) ((pickN k 10 : Nat) : Int) (kCells (kT raw 0)) (kCells (kT raw 5)))) ∧ Below W.heap.size W w') := fun W => kplan_any W raw n k hr n1 n2 k1 k2
  have hA := kT_kok raw 0
  have hB := kT_kok raw 5
  have HTX := hide (fun W => kptext_any W (pickN n 17) (pickN k 10) hN hF (kT raw 0) (kT raw 5) hA hB)
  have HSS := hide (fun W => kshort_any W s (pickN n 17) hs (by omega))
  have hsl := kshortS_le s (pickN n 17)
  have HGS := hide (fun W => kgrants_any W ((pickN n 17 : Nat) : Int) (pickN k 10) hF (kT raw 0) (kT raw 5) hA hB (kshortS s (pickN n 17)) (by omega))
  have himg := planX_ok (N := pickN n 17) (k := pickN k 10) hN hF hA hB
  have h2 := (planX_head (N := pickN n 17) (k := pickN k 10) (A := kT raw 0) (B := kT raw 5) hN hF).2.2.1
  have hsay := planX_says hN hF hA hB (kshortS s (pickN n 17))
  have hxs : (planX (pickN n 17) (pickN k 10) (kT raw 0) (kT raw 5)).size ≤ 9223372036854775807 := by
    rw [planX_size, kBy_len, kBy_len]
    have f1 := (form_size hF).2
    have a1 : (kT raw 0).S * (kT raw 0).C ≤ 4 * 3 := Nat.mul_le_mul hA.s4 hA.c3
    have b1 : (kT raw 5).S * (kT raw 5).C ≤ 4 * 3 := Nat.mul_le_mul hB.s4 hB.c3
    have a2 := hA.s4
    have b2 := hB.s4
    omega
  rw [← hsay] at HGS
  clear hsay
  generalize planX (pickN n 17) (pickN k 10) (kT raw 0) (kT raw 5) = x at *
  have HCK : Hid (∀ W, Calls Try.prog 23 #[.string x, .string (kshortS s (pickN n 17))] W fun e w' => Below W.heap.size W w' ∧ ∃ tv, e = .returned (.tuple #[.bool (imV x (kshortS s (pickN n 17))), tv, .int .i64 0]) ∧ NR w' W.heap.size tv (imTr x)) := fun W => (VCheck_any W x _ hxs (by omega)).mono fun e w' h => ⟨h.1, by
    rcases h.2 with h3 | h3 | h3
    · exact h3.2.2
    · exact absurd h3.2.1 (by rw [h2]; omega)
    · exact absurd himg h3.1⟩
  have HCO : Hid (∀ W, Calls Try.prog 26 #[.string x] W fun e w' => Below W.heap.size W w' ∧ ∃ cv dv, e = .returned (.tuple #[cv, dv, .int .i64 0]) ∧ OR w' W.heap.size cv (imO x) ∧ NR w' W.heap.size dv (imD x)) := fun W => (VCode_any W x hxs).mono fun e w' h => ⟨h.1, by
    rcases h.2 with h3 | h3
    · exact h3.2
    · exact absurd himg h3.1⟩
  have htabs : ∀ i, i < bt x 3 → (imT x i).Ok := fun i hi => (himg.ts.1 i hi).ok
  obtain ⟨M, hM, hrun⟩ := judged (f := imF x) (s := kshortS s (pickN n 17)) htabs himg.r2 himg.n (by rw [h2]; exact hsl)
  have hrun' : runAns (imO x) ((memW (kshortS s (pickN n 17)) (kshortS s (pickN n 17)).size ++ imD x).map Int.ofNat) 2097152 = ⟨0, M.set 17 (imV x (kshortS s (pickN n 17))).toNat, imTr x⟩ := hrun
  have HDP : Hid (0 < (imD x).length) := layD_pos _ _ _
  have HDL : Hid ((imD x).length ≤ 4000) := by
    have := layD_len (imF x) (bt x 3) (imT x) htabs himg.r2 (bt x 3) (Nat.le_refl _)
    have := himg.r2
    show (layD (imF x) (bt x 3) (imT x) (bt x 3)).length ≤ 4000
    omega
  have HOO : Hid ((imO x).length ≤ 4000 ∧ 0 < (imO x).length) := by
    have e : (imO x).length = 4 + bt x 3 * (14 + 31 * bt x 2) + 13 := by unfold imO; rw [codeOf_len, layP_len]
    have h1 : bt x 3 * (14 + 31 * bt x 2) ≤ 4 * (14 + 31 * 16) := Nat.mul_le_mul himg.r2 (by have := himg.n; omega)
    exact ⟨by omega, by omega⟩
  have HTL := hide (imTr_len himg)
  have HS16 : Hid ((kshortS s (pickN n 17)).size ≤ 16) := by show _ ≤ _; omega
  have HRUN := hide hrun'
  have HML := hide hM
  have HSZ : Hid ((planC ((pickN n 17 : Nat) : Int) ((pickN k 10 : Nat) : Int) (kCells (kT raw 0)) (kCells (kT raw 5))).size = 550) := planC_size _ _ (kCells_size _) (kCells_size _)
  have HON : Hid ((planC ((pickN n 17 : Nat) : Int) ((pickN k 10 : Nat) : Int) (kCells (kT raw 0)) (kCells (kT raw 5))).all (·.oneCell') = true) := planC_one _ _ (kCells_one _) (kCells_one _)
  have HC0 := hide (planC_0 ((pickN n 17 : Nat) : Int) ((pickN k 10 : Nat) : Int) (kCells (kT raw 0)) (kCells (kT raw 5)))
  clear hr n1 n2 k1 k2 hs hN hF hA hB hsl himg h2 hxs htabs hrun hrun' hM
  generalize imV x (kshortS s (pickN n 17)) = v at *
  generalize imTr x = T at *
  generalize imO x = os at *
  generalize imD x = ds at *
  generalize kshortS s (pickN n 17) = s1 at *
  generalize planC ((pickN n 17 : Nat) : Int) ((pickN k 10 : Nat) : Int) (kCells (kT raw 0)) (kCells (kT raw 5)) = cs at *
  generalize pickN n 17 = N at *
  go_enter Try.func9, Try.ntmps9
  go_wp2_with fail
  refine (unhide HPL _).mono ?_
  rintro e w1 ⟨rfl, hb1⟩
  have HIM : Hid ((w1.alloc (.cells cs 48)).heap[w1.heap.size]? = some (.cells cs 48 (0, 0))) := heap_alloc_new _ _
  have HB2 : Hid (Below w.heap.size w (w1.alloc (.cells cs 48))) := hb1.alloc hb1.size _
  have c0 : (w1.alloc (.cells cs 48)).cell? ⟨w1.heap.size, 0, none⟩ = some (.int .i64 (N : Int)) := by rw [cell_of_row _ _ _ _ _ _ (unhide HIM)]; exact unhide HC0
  clear hb1 HPL
  go_wp2_with (refine store_row rfl 48 _ _ rfl rfl w1.heap.size cs rfl rfl 48 _ (heap_alloc_new _ _) (by rw [unhide HSZ]; exact infoP) (by rw [zcPl_size]; exact (unhide HSZ).symm) (unhide HON) ?_; rw [setRow_alloc1])
  generalize w1.alloc (.cells cs 48) = w2 at *
  generalize w1.heap.size = gp at *
  refine (unhide HSS _).mono ?_
  rintro e w' ⟨rfl, hww⟩
  obtain rfl : w2 = w' := hww.symm
  clear hww c0
  go_wp2_with (refine wpList_load_row rfl 48 _ rfl gp rfl 48 _ (0, 0) _ (unhide HIM) Try.underlying48 rfl (by rw [unhide HSZ]; exact infoP) ?_)
  refine (unhide HTX _).mono ?_
  rintro e w3 ⟨rfl, hb3⟩
  have HF3 := hide hb3
  have HB3 := hide (kbel_up (unhide HB2) hb3)
  clear hb3 HTX HSS HB2
  go_wp2_with fail
  refine (unhide HCO _).mono ?_
  rintro e w4 ⟨hb4, cv, dv, rfl, ho4, hd4⟩
  obtain ⟨gc, cc, rfl⟩ := own_form (show w4.ownsRow w3.heap.size 62 4 cv os.length _ from ho4) (unhide HOO).2
  obtain ⟨gd, cd, rfl⟩ := own_form (show w4.ownsRow w3.heap.size 3 1 dv ds.length _ from hd4) (unhide HDP)
  have HL4 : Hid (w3.heap.size ≤ gc ∧ w3.heap.size ≤ gd ∧ gc < w4.heap.size ∧ gd < w4.heap.size) := ⟨(ho4.lt gc rfl).1, (hd4.lt gd rfl).1, (ho4.lt gc rfl).2, (hd4.lt gd rfl).2⟩
  have HF4 := hide (kbel_up (unhide HF3) hb4)
  have HB4 := hide (kbel_up (unhide HB3) hb4)
  have HO4 := hide ho4
  have HD4 := hide hd4
  have HSZ3 : Hid (w.heap.size ≤ w3.heap.size) := (unhide HB3).size
  clear hb4 ho4 hd4 HF3 HB3
  generalize w3.heap.size = H3 at *
  go_wp2_with fail
  refine (klaid_any w4 s1 H3 _ ds (unhide HD4) (unhide HDP) (unhide HDL) (unhide HS16)).mono ?_
  rintro e w5 ⟨mv, rfl, hb5, hm5⟩
  have HRU := hide (VRun_any w5 _ mv os _ 2097152 ((unhide HO4).oat.below hb5) hm5.iat)
  rw [unhide HRUN] at HRU
  obtain ⟨ma, mc, rfl⟩ := hm5.form
  have HF5 := hide (kbel_up (unhide HF4) hb5)
  have HG5 := hide hb5
  have HB5 := hide (kbel_up (unhide HB4) hb5)
  clear hb5 hm5 HF4 HB4
  generalize memW s1 s1.size ++ ds = zs at *
  go_wp2_with fail
  refine (unhide HRU).mono ?_
  rintro e w6 ⟨ov, tv, rfl, hr6⟩
  obtain ⟨g5, cap5, he, c5⟩ := hr6.out.at (k := 17) (by show 17 < (M.set 17 _).length; rw [List.length_set]; have := unhide HML; omega)
  subst he
  have hln : (M.set 17 v.toNat).length = 4096 := by rw [List.length_set]; exact unhide HML
  have hc5 : w6.cell? ⟨g5, 17, none⟩ = some (.int .i64 ((v.toNat : Nat) : Int)) := by
    rw [c5]
    show some (Value.int _ (((M.set 17 v.toNat).getD 17 0 : Nat) : Int)) = _
    rw [List.getD_eq_getElem?_getD, List.getElem?_set_self (by have := unhide HML; omega)]; rfl
  obtain ⟨ta, tc5, rfl⟩ := hr6.tr.form
  have HTR : Hid (IAt w6 (.slice ta T.length tc5) (T.map Int.ofNat)) := hr6.tr.iat
  have HC5 := hide hc5
  have HF6 := hide (kbel_up (unhide HF5) hr6.below)
  have HG6 := hide (kbel_up (unhide HG5) hr6.below)
  have HB6 := hide (kbel_up (unhide HB5) hr6.below)
  simp only [hln]
  clear hr6 c5 hln hc5 HRU HF5 HG5 HB5 HRUN
  go_wp2_with fail
  refine (unhide HCK _).mono ?_
  rintro e w7 ⟨hb7, uv, rfl, hu7⟩
  obtain ⟨ua, uc, rfl⟩ := hu7.form
  have HU7 := hide hu7.iat
  have HT7 := hide ((unhide HTR).below hb7)
  have HC7 := hide (below_cell hb7 (unhide HC5))
  have HF7 := hide (kbel_up (unhide HF6) hb7)
  have HG7 := hide (kbel_up (unhide HG6) hb7)
  have HB7 := hide (kbel_up (unhide HB6) hb7)
  clear hb7 hu7 HTR HC5 HF6 HG6 HB6 HCK
  go_wp2_with fail
  refine (ksame_any w7 _ _ (T.map Int.ofNat) (unhide HT7) (unhide HU7) (by rw [List.length_map]; have := unhide HTL; omega)).mono ?_
  rintro e w8 ⟨rfl, hb8⟩
  have HC8 := hide (below_cell hb8 (unhide HC7))
  have HF8 := hide (kbel_up (unhide HF7) hb8)
  have HG8 := hide (kbel_up (unhide HG7) hb8)
  have HB8 := hide (kbel_up (unhide HB7) hb8)
  have HI8 : Hid (w8.heap[gp]? = some (.cells cs 48 (0, 0))) := (Fr.ofBelow (unhide HF8)).at (unhide HIM) (by simp)
  clear hb8 HT7 HU7 HC7 HF7 HG7 HB7 HIM HF8
  go_wp2_with (refine wpList_load_row rfl 48 _ rfl gp rfl 48 _ (0, 0) _ (unhide HI8) Try.underlying48 rfl (by rw [unhide HSZ]; exact infoP) ?_)
  refine (unhide HGS _).mono ?_
  rintro e w9 ⟨rfl, hb9⟩
  have c17 := below_cell hb9 (unhide HC8)
  have HG9 := hide (kbel_up (unhide HG8) hb9)
  have HB9 := hide (kbel_up (unhide HB8) hb9)
  have HO9 : Hid (OR w9 H3 (.slice (some ⟨gc, 0, none⟩) os.length cc) os) := (Fr.ofBelow (unhide HG9)).own (unhide HO4) (by simp)
  have HD9 : Hid (NR w9 H3 (.slice (some ⟨gd, 0, none⟩) ds.length cd) ds) := (Fr.ofBelow (unhide HG9)).own (unhide HD4) (by simp)
  have HS9 : Hid (w4.heap.size ≤ w9.heap.size) := (unhide HG9).size
  clear hb9 HC8 HG8 HB8 HI8 HGS HG9 HO4 HD4
  have hb1 := beq_tt v
  have hb2 := beq_ff v
  go_wp2_with (at_builtin; first
    | (refine kappO rfl (.tmp 119) (.tmp 120) rfl w9.heap.size rfl gc cc H3 os rfl (unhide HO9) (unhide HOO).2 (unhide HOO).1 (Nat.le_refl _) w9.heap.size rfl ?_; intro g6 cap6 w10 ho10 hgr10 hlies; have HO10 := hide ho10; have HGR := hide hgr10; have HD10 : Hid (NR w10 H3 (.slice (some ⟨gd, 0, none⟩) ds.length cd) ds) := ((Fr.ofGrown hgr10).own (unhide HD9) (by simp)); have HSZ10 : Hid (w9.heap.size ≤ w10.heap.size) := hgr10.size; clear ho10 hgr10 hlies)
    | (refine kappI rfl (.tmp 122) (.tmp 123) rfl w9.heap.size rfl gd cd H3 ds rfl (unhide HD10) (unhide HDP) (unhide HDL) (unhide HSZ10) w10.heap.size rfl ?_; intro g7 cap7 w11 hd11 hgr11; have HW11 := hide hd11; have HGR2 := hide hgr11; clear hd11 hgr11))
  rename World => w11
  have f11 : Fr [] w9 w11 := (Fr.ofGrown (unhide HGR)).and (Fr.ofGrown (unhide HGR2)) (fun x hx => by cases hx)
  have HP11 : Hid (OR w11 w9.heap.size (.slice (some ⟨g6, 0, none⟩) os.length cap6) os) := (Fr.ofGrown (unhide HGR2)).own (unhide HO10) (by simp)
  obtain ⟨kf, kl, km⟩ := kfull_of ((f11.own (unhide HO9) (by simp) : OR w11 H3 _ os)) ⟨-1, 0, 0, 0⟩
  obtain ⟨ki, kl2, km2⟩ := kints_of ((f11.own (unhide HD9) (by simp) : NR w11 H3 _ ds))
  have HKF := hide kf
  have HKI := hide ki
  have HKL : Hid (os.length ≤ cc ∧ ds.length ≤ cd) := ⟨kl, kl2⟩
  have HNE : Hid (gd ≠ gc) := by
    rintro rfl
    obtain ⟨_, a1, _⟩ := kf
    obtain ⟨_, a2, _⟩ := ki
    rw [a1] at a2
    simp at a2
  have HB11 : Hid (Below w.heap.size w w11) := kfrS (unhide HB9) f11 (unhide HB9).size (fun q hq => by cases hq)
  have HLG : Hid (g6 ≠ gc ∧ g6 ≠ gd ∧ g7 ≠ gc ∧ g7 ≠ gd) := by
    have h1 := ((unhide HP11).lt g6 rfl).1
    have h2 := ((unhide HW11).lt g7 rfl).1
    have h3 := unhide HL4
    have h4 := unhide HS9
    exact ⟨by omega, by omega, by omega, by omega⟩
  have hccI : (cc : Int) ≤ 9223372036854775807 := by unfold maxLen at km; omega
  have hcdI : (cd : Int) ≤ 9223372036854775807 := by unfold maxLen at km2; omega
  have hosI : (os.length : Int) ≤ 4000 := by have := (unhide HOO).1; omega
  have hdsI : (ds.length : Int) ≤ 4000 := by have := unhide HDL; omega
  clear kf kl km ki kl2 km2 f11 HGR HGR2 HO10 HD10 HO9 HD9 HB9 c17
  go_loopw [28] (fun ix wr => ∃ i : Nat, ix = .int .i64 (i : Int) ∧ Hid (i ≤ os.length ∧ Fr [gc] w11 wr ∧ KFull wr gc cc i ⟨-1, 0, 0, 0⟩)) (fun ix _ => lenLeft os.length ix)
  case atStart => exact ⟨0, rfl, Nat.zero_le _, Fr.refl _ _, unhide HKF⟩
  case round =>
    clear HKF
    rename World => wr
    obtain ⟨i, rfl, HH⟩ := hrel
    obtain ⟨hi, hF, hU⟩ := unhide HH
    clear HH
    by_cases hlt : i < os.length
    · obtain ⟨y0, y1, y2, y3, ⟨c0, c1, c2, c3⟩, hfz, hNx⟩ := hU.any (by have := (unhide HKL).1; omega) rfl
      have f0 := hfz (i * 4)
      have f1 := hfz (i * 4 + 1)
      have f2 := hfz (i * 4 + 2)
      have f3 := hfz (i * 4 + 3)
      have hiI : (i : Int) < (os.length : Int) := by omega
      have HLT := hide hlt
      have HN := hide hNx
      have HF := hide (hF.and (kset4_fr wr gc i (.int .i64 (-1)) (.int .i64 0) (.int .i64 0) (.int .i64 0)) (fun x hx => Or.inl hx))
      clear hi hF hU hfz hNx hlt
      go_wp2_with fail
      go_roundw
      case rel => exact ⟨i + 1, by go_num, unhide HLT, unhide HF, unhide HN⟩
      case measure => have := unhide HLT; simp [lenLeft, intOf]; omega
    · have hi2 : i = os.length := by omega
      subst hi2
      have hltI : ¬ (os.length : Int) < (os.length : Int) := by omega
      have HF := hide hF
      have HKI2 : Hid (KInts wr gd cd) := (unhide HKI).fr hF (by simpa using unhide HNE)
      clear hi hF hU hlt
      go_wp2_with fail
      go_loopw [29] (fun jx wq => ∃ j : Nat, jx = .int .i64 (j : Int) ∧ Hid (j ≤ ds.length ∧ Fr [gd] wr wq ∧ KInts wq gd cd)) (fun jx _ => lenLeft ds.length jx)
      case atStart => exact ⟨0, rfl, Nat.zero_le _, Fr.refl _ _, unhide HKI2⟩
      case round =>
        clear HKI2
        rename World => wq
        obtain ⟨j, rfl, HH⟩ := hrel
        obtain ⟨hj, hF, hU⟩ := unhide HH
        clear HH
        by_cases hlt : j < ds.length
        · obtain ⟨⟨y, c0⟩, f0, hNx⟩ := hU.any (j := j) (by have := (unhide HKL).2; omega) (.int .i64 (-1))
          have hjI : (j : Int) < (ds.length : Int) := by omega
          have HLT := hide hlt
          have HN := hide hNx
          have HF2 := hide (hF.set (Or.inl (by simp)) (b := gd) j (.int .i64 (-1)))
          clear hj hF hU hNx hlt
          go_wp2_with fail
          go_roundw
          case rel => exact ⟨j + 1, by go_num, unhide HLT, unhide HF2, unhide HN⟩
          case measure => have := unhide HLT; simp [lenLeft, intOf]; omega
        · have hj2 : j = ds.length := by omega
          subst hj2
          have hltI : ¬ (ds.length : Int) < (ds.length : Int) := by omega
          have fq : Fr [gc, gd] w11 wq := ((unhide HF).mono (S' := [gc, gd]) (by simp)).and (hF.mono (S' := [gc, gd]) (by simp)) (fun x hx => Or.inl hx)
          have HBQ : Hid (Below w.heap.size w wq) := kfrS (unhide HB11) fq (unhide HB11).size (fun q hq => by
            have h3 := unhide HL4
            have h4 := unhide HSZ3
            simp at hq
            rcases hq with rfl | rfl <;> omega)
          have HPQ : Hid (OAt wq (.slice (some ⟨g6, 0, none⟩) os.length cap6) os) := OR.oat (fq.own (unhide HP11) (fun q hq => by
            have e : g6 = q := by simpa [Value.ownBlock] using hq
            have := unhide HLG
            rw [← e]; simp; omega))
          have HWQ : Hid (IAt wq (.slice (some ⟨g7, 0, none⟩) ds.length cap7) (ds.map Int.ofNat)) := NR.iat (fq.own (unhide HW11) (fun q hq => by
            have e : g7 = q := by simpa [Value.ownBlock] using hq
            have := unhide HLG
            rw [← e]; simp; omega))
          clear hj hF hU hlt fq
          go_wp2_with fail
          refine (unhide HCO _).mono ?_
          rintro e w12 ⟨hb12, cv2, dv2, rfl, ho12, hd12⟩
          obtain ⟨ca2, cc2, rfl⟩ := ho12.form
          obtain ⟨da2, dc2, rfl⟩ := hd12.form
          have HB12 := hide (kbel_up (unhide HBQ) hb12)
          have HP12 := hide ((unhide HPQ).below hb12)
          have HW12 := hide ((unhide HWQ).below hb12)
          have HO12 := hide ho12.oat
          have HD12 := hide hd12.iat
          clear hb12 ho12 hd12 HBQ HPQ HWQ
          go_wp2_with fail
          refine (ksameOps_any w12 _ _ os (unhide HO12) (unhide HP12) (by have := (unhide HOO).1; omega)).mono ?_
          rintro e w13 ⟨rfl, hb13⟩
          have HB13 := hide (kbel_up (unhide HB12) hb13)
          have HW13 := hide ((unhide HW12).below hb13)
          have HD13 := hide ((unhide HD12).below hb13)
          clear hb13 HB12 HW12 HD12 HO12 HP12
          go_wp2_with fail
          refine (ksame_any w13 _ _ (ds.map Int.ofNat) (unhide HD13) (unhide HW13) (by rw [List.length_map]; have := unhide HDL; omega)).mono ?_
          rintro e w14 ⟨rfl, hb14⟩
          have HB14 := hide (kbel_up (unhide HB13) hb14)
          clear hb14 HB13 HW13 HD13
          go_wp2_with fail
          go_ret
          exact ⟨rfl, unhide HB14⟩
end

end Mc
end Go.Proofs.Ytnkdbcicphnmiaa
