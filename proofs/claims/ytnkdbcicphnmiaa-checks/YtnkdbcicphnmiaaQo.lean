/-
  veillaw.codes over an image.
-/
import Derived.Test.YtnkdbcicphnmiaaQn
namespace Go.Proofs.Ytnkdbcicphnmiaa
namespace Mc
open Go.RowKit
attribute [local go_sem ↓] Go.wp_at_zero Go.wp_at_succ

theorem emp_size : (⟨#[]⟩ : ByteArray).size = 0 := rfl
/-- All four rows that came out. -/
structure CoR (H H1 : Nat) (W : World) (cv1 dv1 cv2 dv2 : Value) (os : List OpI) (ds : List Nat) : Prop where
  c1 : OR W H cv1 os
  d1 : NR W H dv1 ds
  c2 : OR W H1 cv2 os
  d2 : NR W H1 dv2 ds
theorem CoR.bel {H H1 : Nat} {W W' : World} {cv1 dv1 cv2 dv2 : Value} {os : List OpI} {ds : List Nat} (h : CoR H H1 W cv1 dv1 cv2 dv2 os ds) (hb : Below W.heap.size W W') : CoR H H1 W' cv1 dv1 cv2 dv2 os ds :=
  ⟨(Fr.ofBelow hb).own h.c1 (by simp), h.d1.bel hb, (Fr.ofBelow hb).own h.c2 (by simp), h.d2.bel hb⟩

set_option maxRecDepth 20000 in
set_option maxHeartbeats 4000000 in
theorem codes_good (w : World) (x s : ByteArray) (hx : x.size ≤ 9223372036854775807) (hs : s.size ≤ 9223372036854775807) (hok : ImOk x) :
    Calls Try.prog 13 #[.string x, .string s] w fun e w' => (∃ cv dv, e = .returned (.tuple #[cv, dv, .bool true])) ∧ Below w.heap.size w w' := by
  have HCO : Hid (∀ W, Calls Try.prog 26 #[.string x] W fun e w' => Below W.heap.size W w' ∧ ∃ cv dv, e = .returned (.tuple #[cv, dv, .int .i64 0]) ∧ OR w' W.heap.size cv (imO x) ∧ NR w' W.heap.size dv (imD x)) := fun W => (VCode_any W x hx).mono fun e w' h => ⟨h.1, by
    rcases h.2 with h2 | h2
    · exact h2.2
    · exact absurd hok h2.1⟩
  have HRD : Hid (∀ W, Calls Try.prog 38 #[.string x] W fun e w' => Below W.heap.size W w' ∧ ∃ g tc, g < w'.heap.size ∧ e = .returned (.tuple #[.agg #[.int .i64 ((bt x 2 : Nat) : Int), .string (imF x), .slice (some ⟨g, 0, none⟩) (bt x 3) tc], .bool true]) ∧ ∀ i, i < bt x 3 → w'.cell? ⟨g, i, none⟩ = some (.string (tblX x (tpos x (5 + bt x 4) i)))) := fun W => (VRead_any W x hx).mono fun e w' h => ⟨h.1, by
    rcases h.2 with ⟨_, g, tc, _, h3, h4, h5⟩ | h2
    · exact ⟨g, tc, h3, h4, h5⟩
    · exact absurd hok h2.1⟩
  have HGR := hide (fun W g tc hc (t : ByteArray) ht => VGrants_any W x hok g tc hc t ht)
  have HSH := hide (fun W => short_any W s (bt x 2) hs (by have := hok.n; omega))
  obtain ⟨M1, hM1, hr1⟩ := hok.jud (s := shortS s (bt x 2)) (shortS_le _ _)
  obtain ⟨M0, hM0, hr0⟩ := hok.jud (s := ⟨#[]⟩) (Nat.zero_le _)
  have HJ1 := hide (fun W B0 cv dv hc hd => judged_any W cv dv B0 (imO x) (imD x) (shortS s (bt x 2)) M1 (imV x (shortS s (bt x 2))) (imTr x) hc hd (imD_pos x) hok.dlen (by have := shortS_le s (bt x 2); have := hok.n; omega) hM1 hr1)
  have HJ0 := hide (fun W B0 cv dv hc hd => judged_any W cv dv B0 (imO x) (imD x) ⟨#[]⟩ M0 (imV x ⟨#[]⟩) (imTr x) hc hd (imD_pos x) hok.dlen (Nat.zero_le _) hM0 hr0)
  have HTK := hide (fun W B0 cv dv hc hd => taken_any W cv dv B0 (imO x) (imD x) hc hd hok.dlen hok.takes)
  have HSL : Hid ((shortS s (bt x 2)).size ≤ 1000) := by have := shortS_le s (bt x 2); have := hok.n; show _ ≤ _; omega
  have HOP : Hid (0 < (imO x).length) := hok.olen.2
  have HOL : Hid ((imO x).length ≤ 4000) := hok.olen.1
  have HDP : Hid (0 < (imD x).length) := imD_pos x
  have HDL : Hid ((imD x).length ≤ 4000) := hok.dlen
  clear hM1 hM0 hr1 hr0 hx hs hok
  generalize imO x = os at *
  generalize imD x = ds at *
  generalize imTr x = T at *
  generalize shortS s (bt x 2) = s1 at *
  generalize imF x = f at *
  generalize bt x 2 = N at *
  generalize bt x 3 = r at *
  go_enter Try.func13, Try.ntmps13
  go_wp2_with fail
  refine (unhide HCO _).mono ?_
  rintro e w1 ⟨hb1, cv1, dv1, rfl, ho1, hd1⟩
  obtain ⟨ga, ca, rfl⟩ := own_form (show w1.ownsRow w.heap.size 62 4 cv1 os.length _ from ho1) (unhide HOP)
  obtain ⟨gd, cd, rfl⟩ := own_form (show w1.ownsRow w.heap.size 3 1 dv1 ds.length _ from hd1) (unhide HDP)
  have HL1 : Hid (ga < w1.heap.size ∧ gd < w1.heap.size ∧ w.heap.size ≤ ga ∧ w.heap.size ≤ gd) := ⟨(ho1.lt ga rfl).2, (hd1.lt gd rfl).2, (ho1.lt ga rfl).1, (hd1.lt gd rfl).1⟩
  have HB1 := hide hb1
  have HO1 := hide ho1
  have HD1 := hide hd1
  clear hb1 ho1 hd1
  go_wp2_with fail
  refine (unhide HCO _).mono ?_
  rintro e w2 ⟨hb2, cv2, dv2, rfl, ho2, hd2⟩
  obtain ⟨ga2, ca2, rfl⟩ := own_form (show w2.ownsRow w1.heap.size 62 4 cv2 os.length _ from ho2) (unhide HOP)
  obtain ⟨gd2, cd2, rfl⟩ := own_form (show w2.ownsRow w1.heap.size 3 1 dv2 ds.length _ from hd2) (unhide HDP)
  have HL2 : Hid (w1.heap.size ≤ ga2 ∧ w1.heap.size ≤ gd2) := ⟨(ho2.lt ga2 rfl).1, (hd2.lt gd2 rfl).1⟩
  have HR2 : Hid (CoR w.heap.size w1.heap.size w2 _ _ _ _ os ds) := ⟨(Fr.ofBelow hb2).own (unhide HO1) (by simp), (unhide HD1).bel hb2, ho2, hd2⟩
  have HB2 := hide (bel_up (unhide HB1) hb2)
  have HSZ1 : Hid (w.heap.size ≤ w1.heap.size) := (unhide HB1).size
  clear hb2 ho2 hd2 HCO HB1 HO1 HD1
  generalize w1.heap.size = H1 at *
  go_wp2_with fail
  refine (sameOps_any w2 _ _ os (unhide HR2).c2.oat (unhide HR2).c1.oat (by have := unhide HOL; omega)).mono ?_
  rintro e w3 ⟨rfl, hb3⟩
  have HR3 := hide ((unhide HR2).bel hb3)
  have HB3 := hide (bel_up (unhide HB2) hb3)
  clear hb3 HB2 HR2
  go_wp2_with fail
  refine (sameInts_any w3 _ _ (ds.map Int.ofNat) (unhide HR3).d2.iat (unhide HR3).d1.iat (by rw [List.length_map]; have := unhide HDL; omega)).mono ?_
  rintro e w4 ⟨rfl, hb4⟩
  have HR4 := hide ((unhide HR3).bel hb4)
  have HB4 := hide (bel_up (unhide HB3) hb4)
  clear hb4 HB3 HR3
  go_wp2_with fail
  refine (unhide HRD _).mono ?_
  rintro e w5 ⟨hb5, g, tc, hg5, rfl, hcs5⟩
  have ha5 : Below w5.heap.size w5 (w5.alloc (.cells #[.int .i64 (N : Int), .string f, .slice (some ⟨g, 0, none⟩) r tc] 75)) := (Below.refl _ _).alloc (Nat.le_refl _) _
  have HR6 := hide (((unhide HR4).bel hb5).bel ha5)
  have HB6 := hide (bel_up (bel_up (unhide HB4) hb5) ha5)
  have HCS6 : Hid (∀ i, i < r → (w5.alloc (.cells #[.int .i64 (N : Int), .string f, .slice (some ⟨g, 0, none⟩) r tc] 75)).cell? ⟨g, i, none⟩ = some (.string (tblX x (tpos x (5 + bt x 4) i)))) := fun i hi => below_cell ha5 (hcs5 i hi)
  have HIM6 : Hid ((w5.alloc (.cells #[.int .i64 (N : Int), .string f, .slice (some ⟨g, 0, none⟩) r tc] 75)).heap[w5.heap.size]? = some (.cells #[.int .i64 (N : Int), .string f, .slice (some ⟨g, 0, none⟩) r tc] 75 (0, 0))) := heap_alloc_new _ _
  clear hb5 hg5 hcs5 ha5 HB4 HR4 HRD
  go_wp2_with fail
  generalize w5.alloc (.cells #[.int .i64 (N : Int), .string f, .slice (some ⟨g, 0, none⟩) r tc] 75) = w6 at *
  generalize w5.heap.size = gi at *
  refine (unhide HTK w6 w.heap.size _ _ (unhide HR6).c1.oat (unhide HR6).d1).mono ?_
  rintro e w7 ⟨rfl, hb7⟩
  have HR7 := hide ((unhide HR6).bel hb7)
  have HB7 := hide (bel_up (unhide HB6) hb7)
  have HF7 := hide hb7
  have c0 : w7.cell? ⟨gi, 0, none⟩ = some (.int .i64 (N : Int)) := by rw [cell_of_row _ _ _ _ _ _ ((Fr.ofBelow hb7).at (unhide HIM6) (by simp))]; rfl
  clear hb7 HB6 HR6 HTK
  go_wp2_with fail
  refine (num_any 0 _).mono ?_
  rintro e w' ⟨rfl, hww⟩
  obtain rfl : w7 = w' := hww.symm
  clear hww
  go_wp2_with fail
  refine (num_any 0 _).mono ?_
  rintro e w' ⟨rfl, hww⟩
  obtain rfl : w7 = w' := hww.symm
  clear hww
  go_wp2_with fail
  refine (unhide HSH _).mono ?_
  rintro e w' ⟨rfl, hww⟩
  obtain rfl : w7 = w' := hww.symm
  clear hww
  clear c0 HSH
  go_wp2_with fail
  refine (unhide HJ1 w7 w.heap.size _ _ (unhide HR7).c1.oat (unhide HR7).d1).mono ?_
  rintro e w8 ⟨tv1, rfl, hb8, ht8, htl⟩
  have HTL := hide htl
  have HR8 := hide ((unhide HR7).bel hb8)
  have HB8 := hide (bel_up (unhide HB7) hb8)
  have HF8 := hide (bel_up (unhide HF7) hb8)
  obtain ⟨ta1, tc1, rfl⟩ := ht8.form
  have HT8 := hide ht8
  clear hb8 ht8 htl HB7 HF7 HR7 HJ1
  go_wp2_with fail
  refine (unhide HJ0 w8 w.heap.size _ _ (unhide HR8).c1.oat (unhide HR8).d1).mono ?_
  rintro e w9 ⟨tv0, rfl, hb9, ht9, -⟩
  have HR9 := hide ((unhide HR8).bel hb9)
  have HB9 := hide (bel_up (unhide HB8) hb9)
  have HF9 := hide (bel_up (unhide HF8) hb9)
  obtain ⟨ta0, tc0, rfl⟩ := ht9.form
  have HT9 := hide (ht9.iat)
  have HS9 := hide ((unhide HT8).bel hb9).iat
  clear hb9 ht9 HB8 HF8 HR8 HT8 HJ0
  have q9 := (Fr.ofBelow (unhide HF9)).at (unhide HIM6) (by simp)
  have d0 : w9.cell? ⟨gi, 0, none⟩ = some (.int .i64 (N : Int)) := by rw [cell_of_row _ _ _ _ _ _ q9]; rfl
  have d1 : w9.cell? ⟨gi, 1, none⟩ = some (.string f) := by rw [cell_of_row _ _ _ _ _ _ q9]; rfl
  have d2 : w9.cell? ⟨gi, 2, none⟩ = some (.slice (some ⟨g, 0, none⟩) r tc) := by rw [cell_of_row _ _ _ _ _ _ q9]; rfl
  clear q9
  go_wp2_with fail
  refine (unhide HGR w9 g tc (fun i hi => below_cell (unhide HF9) (unhide HCS6 i hi)) _ (unhide HSL)).mono ?_
  rintro e w10 ⟨rfl, hb10⟩
  have HR10 := hide ((unhide HR9).bel hb10)
  have HB10 := hide (bel_up (unhide HB9) hb10)
  have HF10 := hide (bel_up (unhide HF9) hb10)
  have HT10 := hide ((unhide HT9).below hb10)
  have HS10 := hide ((unhide HS9).below hb10)
  clear hb10 HB9 HF9 HR9 HT9 HS9 d0 d1 d2
  have q9 := (Fr.ofBelow (unhide HF10)).at (unhide HIM6) (by simp)
  have d0 : w10.cell? ⟨gi, 0, none⟩ = some (.int .i64 (N : Int)) := by rw [cell_of_row _ _ _ _ _ _ q9]; rfl
  have d1 : w10.cell? ⟨gi, 1, none⟩ = some (.string f) := by rw [cell_of_row _ _ _ _ _ _ q9]; rfl
  have d2 : w10.cell? ⟨gi, 2, none⟩ = some (.slice (some ⟨g, 0, none⟩) r tc) := by rw [cell_of_row _ _ _ _ _ _ q9]; rfl
  clear q9
  go_wp2_with fail
  refine (unhide HGR w10 g tc (fun i hi => below_cell (unhide HF10) (unhide HCS6 i hi)) ⟨#[]⟩ (by rw [emp_size]; omega)).mono ?_
  rintro e w11 ⟨rfl, hb11⟩
  have HR11 := hide ((unhide HR10).bel hb11)
  have HB11 := hide (bel_up (unhide HB10) hb11)
  have HT11 := hide ((unhide HT10).below hb11)
  have HS11 := hide ((unhide HS10).below hb11)
  clear hb11 HB10 HF10 HR10 HT10 HS10 d0 d1 d2 HGR HCS6 HIM6
  go_wp2_with fail
  refine (sameInts_any w11 _ _ (T.map Int.ofNat) (unhide HS11) (unhide HT11) (by rw [List.length_map]; have := unhide HTL; omega)).mono ?_
  rintro e w12 ⟨rfl, hb12⟩
  have ha12 : Below w12.heap.size w12 (w12.alloc (.cells #[.slice (some ⟨gd, 0, none⟩) ds.length cd, .slice (some ⟨gd2, 0, none⟩) ds.length cd2] 23)) := (Below.refl _ _).alloc (Nat.le_refl _) _
  have HR13 := hide (((unhide HR11).bel hb12).bel ha12)
  have HB13 := hide (bel_up (bel_up (unhide HB11) hb12) ha12)
  have HGL : Hid ((w12.alloc (.cells #[.slice (some ⟨gd, 0, none⟩) ds.length cd, .slice (some ⟨gd2, 0, none⟩) ds.length cd2] 23)).heap[w12.heap.size]? = some (.cells [.slice (some ⟨gd, 0, none⟩) ds.length cd, .slice (some ⟨gd2, 0, none⟩) ds.length cd2].toArray 23 (0, 0))) := heap_alloc_new _ _
  have HLS : Hid (Lists (w12.alloc (.cells #[.slice (some ⟨gd, 0, none⟩) ds.length cd, .slice (some ⟨gd2, 0, none⟩) ds.length cd2] 23)) [.slice (some ⟨gd, 0, none⟩) ds.length cd, .slice (some ⟨gd2, 0, none⟩) ds.length cd2]) := lists2 (unhide HR13).d1 (unhide HR13).d2 (fun q hq => by
    have : gd = q := by simpa [Value.ownBlock] using hq
    have := (unhide HL1).2.1
    omega)
  have HNB : Hid (w12.heap.size ∉ blocks [.slice (some ⟨gd, 0, none⟩) ds.length cd, .slice (some ⟨gd2, 0, none⟩) ds.length cd2]) := fun hm => by
    have h1 := ((unhide HR11).d1.bel hb12).lt gd rfl
    have h2 := ((unhide HR11).d2.bel hb12).lt gd2 rfl
    rcases blocks2 hm with hq | hq
    · have : gd = w12.heap.size := by simpa [Value.ownBlock] using hq
      omega
    · have : gd2 = w12.heap.size := by simpa [Value.ownBlock] using hq
      omega
  clear hb12 ha12 HB11 HR11 HT11 HS11
  go_wp2_with fail
  generalize w12.alloc (.cells #[.slice (some ⟨gd, 0, none⟩) ds.length cd, .slice (some ⟨gd2, 0, none⟩) ds.length cd2] 23) = w13 at *
  generalize w12.heap.size = gl at *
  refine (own_any w13 gl [.slice (some ⟨gd, 0, none⟩) ds.length cd, .slice (some ⟨gd2, 0, none⟩) ds.length cd2] (unhide HGL) (unhide HLS) (by simp) (unhide HNB)).mono ?_
  rintro e w14 ⟨rfl, hf14⟩
  have hbl : ∀ q ∈ blocks [.slice (some ⟨gd, 0, none⟩) ds.length cd, .slice (some ⟨gd2, 0, none⟩) ds.length cd2], q = gd ∨ q = gd2 := fun q hm => by
    rcases blocks2 hm with hq | hq
    · exact .inl (by simpa [Value.ownBlock] using hq.symm)
    · exact .inr (by simpa [Value.ownBlock] using hq.symm)
  have HB14 : Hid (Below w.heap.size w w14) := below_frS (unhide HB13) hf14 (unhide HB13).size (fun q hm => by
    have := (unhide HL1).2.2.2
    have := (unhide HL2).2
    have := unhide HSZ1
    rcases hbl q hm with rfl | rfl <;> omega)
  have hne : ∀ {B1 B2 : Nat} {g1 g2 c1 c2 : Nat}, OR w13 B1 (.slice (some ⟨g1, 0, none⟩) os.length c1) os → NR w13 B2 (.slice (some ⟨g2, 0, none⟩) ds.length c2) ds → g1 ≠ g2 := fun h1 h2 e => own_two h1 h2 (by decide) _ rfl (by rw [e]; rfl)
  have hf1 : ga ∉ blocks [.slice (some ⟨gd, 0, none⟩) ds.length cd, .slice (some ⟨gd2, 0, none⟩) ds.length cd2] := fun hm => by
    rcases hbl _ hm with e | e
    · exact hne (unhide HR13).c1 (unhide HR13).d1 e
    · exact hne (unhide HR13).c1 (unhide HR13).d2 e
  have hf2 : ga2 ∉ blocks [.slice (some ⟨gd, 0, none⟩) ds.length cd, .slice (some ⟨gd2, 0, none⟩) ds.length cd2] := fun hm => by
    rcases hbl _ hm with e | e
    · exact hne (unhide HR13).c2 (unhide HR13).d1 e
    · exact hne (unhide HR13).c2 (unhide HR13).d2 e
  obtain ⟨p1, p2, p3⟩ := (unhide HR13).c1.full
  obtain ⟨r1, r2, r3⟩ := (unhide HR13).c2.full
  have HOO := hide (ownOps_any w14 ga ga2 os.length os.length ca ca2 op0 (p1.fr hf14 hf1) (r1.fr hf14 hf2) (by have := (unhide HL1).1; have := (unhide HL2).1; omega) p2 r2 p3 r3)
  have hSZ14 : w.heap.size ≤ w14.heap.size := (unhide HB14).size
  have HSZ14 := hide hSZ14
  clear hf14 hbl hne hf1 hf2 p1 p2 p3 r1 r2 r3 HB13 HR13 HGL HLS HNB hSZ14
  go_wp2_with fail
  refine (unhide HOO).mono ?_
  rintro e w15 ⟨rfl, hf15⟩
  have HB15 : Hid (Below w.heap.size w w15) := below_frS (unhide HB14) hf15 (unhide HSZ14) (fun q hm => by
    have := (unhide HL1).2.2.1
    have := (unhide HL2).1
    have := unhide HSZ1
    simp at hm
    rcases hm with rfl | rfl <;> omega)
  clear hf15 HOO HB14
  go_wp2_with fail
  refine bodyPost_ret (v := .tuple #[.slice (some ⟨ga, 0, none⟩) os.length ca, .slice (some ⟨gd, 0, none⟩) ds.length cd, .bool true]) (by simp [results, Try.results13, go_sem]) rfl ?_
  exact ⟨⟨_, _, rfl⟩, unhide HB15⟩
theorem codes_any (w : World) (x s : ByteArray) (hx : x.size ≤ 9223372036854775807) (hs : s.size ≤ 9223372036854775807) :
    Calls Try.prog 13 #[.string x, .string s] w fun e w' => (∃ cv dv, e = .returned (.tuple #[cv, dv, .bool true])) ∧ Below w.heap.size w w' := by
  by_cases h : ImOk x
  · exact codes_good w x s hx hs h
  · exact codes_bad w x s hx h

end Mc
end Go.Proofs.Ytnkdbcicphnmiaa
