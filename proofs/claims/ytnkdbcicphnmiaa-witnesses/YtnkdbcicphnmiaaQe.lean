/-
  policies.Open.
-/
import Derived.Test.YtnkdbcicphnmiaaPz
namespace Go.Proofs.Ytnkdbcicphnmiaa
namespace Mc
open Go.RowKit

theorem fcheck_ok {R : Nat} {T : ByteArray} : ((fcheck R T).1 = 0 ↔ T.size ≤ 40 ∧ fscan R T T.size 0 0 0 = none) ∧ ((fcheck R T).1 = 0 ∨ (fcheck R T).1 = 6) := by
  unfold fcheck
  by_cases h : 40 < T.size
  · rw [if_pos h]; simp; omega
  · rw [if_neg h]
    cases hf : fscan R T T.size 0 0 0 with
    | none => simp [fans]; omega
    | some k => simp [fans]
def zIm : Array Value := #[.int .i64 0, .string ⟨#[]⟩, .slice none 0 0]
def imC (N : Nat) (f : ByteArray) (ta : Option Addr) (m tc : Nat) : Array Value := #[.int .i64 (N : Int), .string f, .slice ta m tc]
theorem infoIm : (Try.prog.info? 83).map (·.size) = some 3 := by kernel_rfl
/-- What opening an image answers. -/
def OpA (w' : World) (x : ByteArray) (e : Ending) : Prop :=
  (ImOk x ∧ ∃ g tc, e = .returned (.tuple #[.agg (imC (bt x 2) (imF x) (some ⟨g, 0, none⟩) (bt x 3) tc), .int .i64 0]) ∧ Tbs w' w'.heap.size g (bt x 3) (imT x)) ∨
  (¬ ImOk x ∧ e = .returned (.tuple #[.agg zIm, .int .i64 7]))
theorem two_bytes {t : ByteArray} (hs : t.size = 2) (h0 : bt t 0 = 86) (h1 : bt t 1 = 80) : t = ⟨#[86, 80]⟩ := by
  rw [← bt_at t 0 (by omega)] at h0
  rw [← bt_at t 1 (by omega)] at h1
  apply ByteArray.ext
  apply Array.ext
  · exact hs
  · intro i hi hi2
    have hi3 : i < 2 := by have : t.data.size = 2 := hs; omega
    match i, hi3 with
    | 0, _ => exact UInt8.toNat.inj h0
    | 1, _ => exact UInt8.toNat.inj h1
theorem vp_of {x : ByteArray} (hl : 5 ≤ x.size) (h0 : bt x 0 = 86) (h1 : bt x 1 = 80) : ((x.extract 0 2).toList == [86, 80]) = true := by
  rw [two_bytes (t := x.extract 0 2) (by rw [ByteArray.size_extract]; omega) (by rw [bt_ext, if_pos (by omega)]; exact h0) (by rw [bt_ext, if_pos (by omega)]; exact h1)]
  rw [ByteArray.toList_eq]
  rfl
theorem vp_not {x : ByteArray} (h : ¬ (bt x 0 = 86 ∧ bt x 1 = 80)) : ((x.extract 0 2).toList == [86, 80]) = false := by
  refine beq_eq_false_iff_ne.2 fun e => h ?_
  have e' : x.extract 0 2 = ⟨#[86, 80]⟩ := by
    apply ByteArray.ext
    rw [ByteArray.toList_eq] at e
    exact Array.toList_inj.1 e
  have e0 : bt (x.extract 0 2) 0 = 86 := by rw [e']; rfl
  have e1 : bt (x.extract 0 2) 1 = 80 := by rw [e']; rfl
  rw [bt_ext, if_pos (by omega)] at e0 e1
  exact ⟨e0, e1⟩

/-- The image's own block is written. -/
theorem Tbs.setIm {w w' : World} {g m : Nat} {ts : Nat → TabN} (h : Tbs w w.heap.size g m ts) {gi : Nat} {old : Array Value} (hi : w.heap[gi]? = some (.cells old 83 (0, 0))) (f : Fr [gi] w w') (hg : g ≠ gi) : Tbs w' w'.heap.size g m ts := by
  refine ⟨fun j hj => ?_, Nat.lt_of_lt_of_le h.lt f.size⟩
  obtain ⟨gv, nv, h1, h2⟩ := h.at_ j hj
  refine ⟨gv, nv, fun k v hv => f.cell (h1 k v hv) (by simpa using hg), h2.fr f (fun q hq cs' ty fr hc => ?_) f.size⟩
  rw [List.mem_singleton.1 hq, hi] at hc
  simp at hc
  rw [← hc.2.1]; decide
theorem set3_heap {w : World} {g : Nat} {t : TypeId} {a0 b0 c0 : Value} (h : w.heap[g]? = some (.cells #[a0, b0, c0] t (0, 0))) (a b c : Value) : (((w.setCell ⟨g, 0, none⟩ a).setCell ⟨g, 1, none⟩ b).setCell ⟨g, 2, none⟩ c).heap[g]? = some (.cells #[a, b, c] t (0, 0)) := by
  have h1 : (w.setCell ⟨g, 0, none⟩ a).heap[g]? = some (.cells #[a, b0, c0] t (0, 0)) := by rw [heap_setCell_same _ _ _ _ _ _ h]; rfl
  have h2 : ((w.setCell ⟨g, 0, none⟩ a).setCell ⟨g, 1, none⟩ b).heap[g]? = some (.cells #[a, b, c0] t (0, 0)) := by rw [heap_setCell_same _ _ _ _ _ _ h1]; rfl
  rw [heap_setCell_same _ _ _ _ _ _ h2]; rfl
theorem set3_fr (w : World) (g : Nat) (a b c : Value) : Fr [g] w (((w.setCell ⟨g, 0, none⟩ a).setCell ⟨g, 1, none⟩ b).setCell ⟨g, 2, none⟩ c) :=
  (((Fr.refl [g] w).set (Or.inl (by simp)) _ _).set (Or.inl (by simp)) _ _).set (Or.inl (by simp)) _ _

section
attribute [local go_sem ↓] Go.wp_at_zero Go.wp_at_succ
set_option maxRecDepth 20000 in
set_option maxHeartbeats 2000000 in
theorem Open_any (w : World) (x : ByteArray) (hx : x.size ≤ 9223372036854775807) :
    Calls Try.prog 44 #[.string x] w fun e w' => Below w.heap.size w w' ∧ OpA w' x e := by
  have hxI : (x.size : Int) ≤ 9223372036854775807 := by omega
  have HR1 : Hid ((w.alloc (.cells zIm 83)).heap[w.heap.size]? = some (.cells zIm 83 (0, 0))) := heap_alloc_new _ _
  have HB1 : Hid (Below w.heap.size w (w.alloc (.cells zIm 83))) := (Below.refl _ _).alloc (Nat.le_refl _) _
  by_cases h5 : x.size < 5
  · have hI : (x.size : Int) < 5 := by omega
    have HF : Hid (¬ ImOk x) := fun h => by have := h.len; omega
    clear h5 hx
    unfold zIm at *
    go_enter Try.func44, Try.ntmps44
    go_wp2_with fail
    exact bodyPost_ret (v := .tuple #[.agg zIm, .int .i64 7]) (res_row_tmp (p := 2) (u := 3) (ty := 83) rfl _ _ w.heap.size 83 _ (0, 0) _ rfl (unhide HR1) Try.underlying83 rfl infoIm _ rfl) rfl ⟨unhide HB1, .inr ⟨unhide HF, rfl⟩⟩
  · have hI : (5 : Int) ≤ (x.size : Int) := by omega
    by_cases hv : bt x 0 = 86 ∧ bt x 1 = 80
    · have hE := vp_of (by omega) hv.1 hv.2
      have l2 : 2 < x.size := by omega
      have l3 : 3 < x.size := by omega
      have l4 : 4 < x.size := by omega
      have b2 := bt_at x 2
      have b3 := bt_at x 3
      have b4 := bt_at x 4
      have b2I : ((bt x 2 : Nat) : Int) < 256 := by have := bt_le x 2; omega
      have b3I : ((bt x 3 : Nat) : Int) < 256 := by have := bt_le x 3; omega
      have b4I : ((bt x 4 : Nat) : Int) < 256 := by have := bt_le x 4; omega
      obtain ⟨N, hN⟩ : ∃ N, bt x 2 = N := ⟨_, rfl⟩
      obtain ⟨r, hr⟩ : ∃ r, bt x 3 = r := ⟨_, rfl⟩
      obtain ⟨F, hF⟩ : ∃ F, bt x 4 = F := ⟨_, rfl⟩
      rw [hN] at b2 b2I
      rw [hr] at b3 b3I
      rw [hF] at b4 b4I
      have e5 : (5 : Int) + (F : Int) = ((5 + F : Nat) : Int) := by omega
      have w5 := wrap_i64 (5 + F) (by omega)
      have n5 : (((5 + F : Nat) : Int)).toNat = 5 + F := by omega
      have hsc : (16 < (N : Int)) ∨ ((N : Int) ≤ 16 ∧ (r : Int) < 1) ∨ ((N : Int) ≤ 16 ∧ 1 ≤ (r : Int) ∧ 4 < (r : Int)) ∨ ((N : Int) ≤ 16 ∧ 1 ≤ (r : Int) ∧ (r : Int) ≤ 4 ∧ (x.size : Int) < ((5 + F : Nat) : Int)) ∨ ((N : Int) ≤ 16 ∧ 1 ≤ (r : Int) ∧ (r : Int) ≤ 4 ∧ ((5 + F : Nat) : Int) ≤ (x.size : Int)) := by omega
      rcases hsc with i1 | ⟨i1, i2⟩ | ⟨i1, i2, i3⟩ | ⟨i1, i2, i3, i4⟩ | ⟨i1, i2, i3, i4⟩
      iterate 4
        · have HF : Hid (¬ ImOk x) := fun h => by have := h.n; have := h.r1; have := h.r2; have := h.fl; omega
          clear h5 hx hv hN hr hF
          unfold zIm at *
          generalize 5 + F = y at *
          go_enter Try.func44, Try.ntmps44
          go_wp2_with fail
          exact bodyPost_ret (v := .tuple #[.agg zIm, .int .i64 7]) (res_row_tmp (p := 2) (u := 3) (ty := 83) rfl _ _ w.heap.size 83 _ (0, 0) _ rfl (unhide HR1) Try.underlying83 rfl infoIm _ rfl) rfl ⟨unhide HB1, .inr ⟨unhide HF, rfl⟩⟩
      have hy0 : (5 : Int) ≤ ((5 + F : Nat) : Int) := by omega
      have himf : imF x = x.extract 5 (5 + F) := by unfold imF; rw [hF]
      have hfs : (x.extract 5 (5 + F)).size = F := by rw [ByteArray.size_extract]; omega
      have HCF := hide (fun W => checkFormula_any W (x.extract 5 (5 + F)) r (by omega) (by omega))
      obtain ⟨hfc, hfc2⟩ := fcheck_ok (R := r) (T := x.extract 5 (5 + F))
      have HRT := hide (fun W gi hi => readTables_any W gi N (x.extract 5 (5 + F)) x (5 + F) r hi (by omega) hx (by omega))
      have HIM : Hid (ImOk x ↔ fscan r (x.extract 5 (5 + F)) (x.extract 5 (5 + F)).size 0 0 0 = none ∧ (x.extract 5 (5 + F)).size ≤ 40 ∧ TsOk x (5 + F) r) := by
        constructor
        · intro h
          have h1 := h.fm
          have h2 := h.ts
          have h3 := h.f2
          rw [himf, hr] at h1
          rw [hF, hr] at h2
          rw [hF] at h3
          exact ⟨h1, by rw [hfs]; exact h3, h2⟩
        · rintro ⟨h1, h2, h3⟩
          rw [hfs] at h2
          refine ⟨by omega, hv.1, hv.2, by omega, by omega, by omega, ?_, by omega, by omega, by rw [himf, hr]; exact h1, by rw [hF, hr]; exact h3⟩
          rw [hF]
          cases F with
          | zero => rw [hfs] at h1; unfold fscan at h1; rw [if_pos (Or.inr (by decide))] at h1; cases h1
          | succ F => omega
      have HGI : Hid (((w.alloc (.cells zIm 83)).alloc (.cells #[.int .i64 (N : Int), .string (x.extract 5 (5 + F)), .slice none 0 0] 83)).heap[w.heap.size + 1]? = some (.cells #[.int .i64 (N : Int), .string (x.extract 5 (5 + F)), .slice none 0 0] 83 (0, 0))) := heap_alloc2_new _ _ _
      have HR2 : Hid (((w.alloc (.cells zIm 83)).alloc (.cells #[.int .i64 (N : Int), .string (x.extract 5 (5 + F)), .slice none 0 0] 83)).heap[w.heap.size]? = some (.cells zIm 83 (0, 0))) := heap_alloc2_old _ _ _
      have HB2 : Hid (Below w.heap.size w ((w.alloc (.cells zIm 83)).alloc (.cells #[.int .i64 (N : Int), .string (x.extract 5 (5 + F)), .slice none 0 0] 83))) := (unhide HB1).alloc (unhide HB1).size _
      have HS2 : Hid (((w.alloc (.cells zIm 83)).alloc (.cells #[.int .i64 (N : Int), .string (x.extract 5 (5 + F)), .slice none 0 0] 83)).heap.size = w.heap.size + 2) := by show _ = _; simp
      have HAN : Hid (imC (bt x 2) (imF x) = imC N (x.extract 5 (5 + F)) ∧ bt x 3 = r ∧ imT x = fun i => tabAt x (tpos x (5 + F) i)) := ⟨by rw [hN, himf], hr, by funext i; unfold imT; rw [hF]⟩
      have HF40 := hide hfc
      have hr1 : 1 ≤ r := by omega
      have HR1' := hide hr1
      clear h5 hx hv hN hr hF himf hfs hfc HR1 HB1 hr1
      unfold zIm at *
      go_enter Try.func44, Try.ntmps44
      generalize 5 + F = y at *
      go_wp2_with fail
      generalize (w.alloc (.cells #[.int .i64 0, .string ⟨#[]⟩, .slice none 0 0] 83)).alloc (.cells #[.int .i64 (N : Int), .string (x.extract 5 y), .slice none 0 0] 83) = w2 at *
      generalize x.extract 5 y = fm at *
      refine (unhide HCF _).mono ?_
      rintro e w3 ⟨rfl, hb3⟩
      have HR3 : Hid (w3.heap[w.heap.size]? = some (.cells #[.int .i64 0, .string ⟨#[]⟩, .slice none 0 0] 83 (0, 0))) := (hb3.block _ (by have := unhide HS2; omega)).trans (unhide HR2)
      have HG3 : Hid (w3.heap[w.heap.size + 1]? = some (.cells #[.int .i64 (N : Int), .string fm, .slice none 0 0] 83 (0, 0))) := (hb3.block _ (by have := unhide HS2; omega)).trans (unhide HGI)
      have HB3 : Hid (Below w.heap.size w w3) := (unhide HB2).trans (hb3.mono (by have := unhide HS2; omega))
      clear hb3 HCF HR2 HGI HB2 HS2
      rcases hfc2 with hc0 | hc6
      · have HC0 := hide ((unhide HF40).1 hc0)
        have HRT3 := hide (unhide HRT w3 (w.heap.size + 1) (unhide HG3))
        rw [hc0]
        clear hc0
        generalize (fcheck r fm).2 = k at *
        go_wp2_with fail
        refine (unhide HRT3).mono ?_
        rintro e w4 ⟨hfr, hts⟩
        have HR4 : Hid (w4.heap[w.heap.size]? = some (.cells #[.int .i64 0, .string ⟨#[]⟩, .slice none 0 0] 83 (0, 0))) := hfr.at (unhide HR3) (by simp)
        have HB4 : Hid (Below w.heap.size w w4) := hfr.belowOf (unhide HB3) (unhide HB3).size (by omega)
        clear HRT HRT3 HR3 HB3 HG3
        rcases hts with ⟨hts, rfl, ta, tc, cs, hI⟩ | ⟨hno, rfl⟩
        · have HIO := hide ((unhide HIM).2 ⟨(unhide HC0).2, (unhide HC0).1, hts⟩)
          obtain ⟨g0, cap0, he⟩ := own_form hI.own (unhide HR1')
          simp only [Value.slice.injEq, true_and] at he
          obtain ⟨rfl, rfl⟩ := he
          have HIM4 := hide hI.im
          have HTB := hide hI.tbs
          have HNE : Hid (g0 ≠ w.heap.size) := own_off hI.own (unhide HR4) (by decide) g0 rfl
          clear hts hI hfr
          have y0 : w4.cell? ⟨w.heap.size, 0, none⟩ = some (.int .i64 0) := by rw [cell_of_row _ _ _ _ _ _ (unhide HR4)]; rfl
          have z0 : w4.frozen? ⟨w.heap.size, 0, none⟩ = false := frozen_of_row _ _ _ _ _ (unhide HR4)
          have y1 : w4.cell? ⟨w.heap.size, 1, none⟩ = some (.string ⟨#[]⟩) := by rw [cell_of_row _ _ _ _ _ _ (unhide HR4)]; rfl
          have z1 : w4.frozen? ⟨w.heap.size, 1, none⟩ = false := frozen_of_row _ _ _ _ _ (unhide HR4)
          have y2 : w4.cell? ⟨w.heap.size, 2, none⟩ = some (.slice none 0 0) := by rw [cell_of_row _ _ _ _ _ _ (unhide HR4)]; rfl
          have z2 : w4.frozen? ⟨w.heap.size, 2, none⟩ = false := frozen_of_row _ _ _ _ _ (unhide HR4)
          go_wp2_with (refine wpList_load_row rfl 83 _ rfl (w.heap.size + 1) rfl 83 _ (0, 0) _ (unhide HIM4) Try.underlying83 rfl infoIm ?_)
          refine bodyPost_ret (res_row_tmp (p := 2) (u := 3) (ty := 83) rfl _ _ w.heap.size 83 _ (0, 0) _ rfl (set3_heap (unhide HR4) _ _ _) Try.underlying83 rfl infoIm _ rfl) rfl ?_
          refine ⟨(set3_fr _ w.heap.size _ _ _).belowOf (unhide HB4) (unhide HB4).size (Nat.le_refl _), .inl ⟨unhide HIO, g0, tc, by rw [(unhide HAN).1, (unhide HAN).2.1]; rfl, ?_⟩⟩
          rw [(unhide HAN).2.1, (unhide HAN).2.2]
          exact (unhide HTB).setIm (unhide HR4) (set3_fr _ _ _ _ _) (unhide HNE)
        · have HF : Hid (¬ ImOk x) := fun h => hno ((unhide HIM).1 h).2.2
          clear hno hfr
          have y0 : w4.cell? ⟨w.heap.size, 0, none⟩ = some (.int .i64 0) := by rw [cell_of_row _ _ _ _ _ _ (unhide HR4)]; rfl
          have z0 : w4.frozen? ⟨w.heap.size, 0, none⟩ = false := frozen_of_row _ _ _ _ _ (unhide HR4)
          have y1 : w4.cell? ⟨w.heap.size, 1, none⟩ = some (.string ⟨#[]⟩) := by rw [cell_of_row _ _ _ _ _ _ (unhide HR4)]; rfl
          have z1 : w4.frozen? ⟨w.heap.size, 1, none⟩ = false := frozen_of_row _ _ _ _ _ (unhide HR4)
          have y2 : w4.cell? ⟨w.heap.size, 2, none⟩ = some (.slice none 0 0) := by rw [cell_of_row _ _ _ _ _ _ (unhide HR4)]; rfl
          have z2 : w4.frozen? ⟨w.heap.size, 2, none⟩ = false := frozen_of_row _ _ _ _ _ (unhide HR4)
          go_wp2_with fail
          exact bodyPost_ret (v := .tuple #[.agg zIm, .int .i64 7]) (res_row_tmp (p := 2) (u := 3) (ty := 83) rfl _ _ w.heap.size 83 _ (0, 0) _ rfl (set3_heap (unhide HR4) _ _ _) Try.underlying83 rfl infoIm _ rfl) rfl ⟨(set3_fr _ w.heap.size _ _ _).belowOf (unhide HB4) (unhide HB4).size (Nat.le_refl _), .inr ⟨unhide HF, rfl⟩⟩
      · have HF : Hid (¬ ImOk x) := fun h => by
          have h1 := (unhide HIM).1 h
          have := (unhide HF40).2 ⟨h1.2.1, h1.1⟩
          omega
        rw [hc6]
        clear hc6 HRT
        generalize (fcheck r fm).2 = k at *
        have y0 : w3.cell? ⟨w.heap.size, 0, none⟩ = some (.int .i64 0) := by rw [cell_of_row _ _ _ _ _ _ (unhide HR3)]; rfl
        have z0 : w3.frozen? ⟨w.heap.size, 0, none⟩ = false := frozen_of_row _ _ _ _ _ (unhide HR3)
        have y1 : w3.cell? ⟨w.heap.size, 1, none⟩ = some (.string ⟨#[]⟩) := by rw [cell_of_row _ _ _ _ _ _ (unhide HR3)]; rfl
        have z1 : w3.frozen? ⟨w.heap.size, 1, none⟩ = false := frozen_of_row _ _ _ _ _ (unhide HR3)
        have y2 : w3.cell? ⟨w.heap.size, 2, none⟩ = some (.slice none 0 0) := by rw [cell_of_row _ _ _ _ _ _ (unhide HR3)]; rfl
        have z2 : w3.frozen? ⟨w.heap.size, 2, none⟩ = false := frozen_of_row _ _ _ _ _ (unhide HR3)
        go_wp2_with fail
        exact bodyPost_ret (v := .tuple #[.agg zIm, .int .i64 7]) (res_row_tmp (p := 2) (u := 3) (ty := 83) rfl _ _ w.heap.size 83 _ (0, 0) _ rfl (set3_heap (unhide HR3) _ _ _) Try.underlying83 rfl infoIm _ rfl) rfl ⟨(set3_fr _ w.heap.size _ _ _).belowOf (unhide HB3) (unhide HB3).size (Nat.le_refl _), .inr ⟨unhide HF, rfl⟩⟩
    · have hE := vp_not hv
      have HF : Hid (¬ ImOk x) := fun h => hv ⟨h.b0, h.b1⟩
      clear h5 hx hv
      unfold zIm at *
      go_enter Try.func44, Try.ntmps44
      go_wp2_with fail
      exact bodyPost_ret (v := .tuple #[.agg zIm, .int .i64 7]) (res_row_tmp (p := 2) (u := 3) (ty := 83) rfl _ _ w.heap.size 83 _ (0, 0) _ rfl (unhide HR1) Try.underlying83 rfl infoIm _ rfl) rfl ⟨unhide HB1, .inr ⟨unhide HF, rfl⟩⟩
end

end Mc
end Go.Proofs.Ytnkdbcicphnmiaa
