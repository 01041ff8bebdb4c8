/-
  table.Read.
-/
import Derived.Test.YtnkdbcicphnmiaaPw
import Derived.Laws.ResultCell
namespace Go.Proofs.Ytnkdbcicphnmiaa
namespace Mc
open Go.RowKit

theorem res_row_tmp {P : Program} {fn : Func} {p u : Tmp} {ty : TypeId} (h : fn.results = #[.cell p ty, .tmp u]) (tmps : Array Value) (w : World) (g : Nat) (t : TypeId) (cs : Array Value) (fr : Nat × Nat) (d : TypeDesc)
    (hp : tmps.getD p undef = .pointer (some ⟨g, 0, none⟩)) (hg : w.heap[g]? = some (.cells cs t fr)) (hu : P.underlying ty = some d) (hd : (match d with | .struct _ | .array _ _ => true | _ => false) = true) (hi : (P.info? ty).map (·.size) = some cs.size)
    (x : Value) (hx : tmps.getD u undef = x) : (results fn tmps).run P w = .ok (.tuple #[.agg cs, x]) w := by
  rw [results_cell_tmp h, hp, hx]
  simp [asAddr, run_loadVar_row w g t ty cs fr d hg hu hd hi]
theorem blw_false {t : ByteArray} {c : Nat} (h : blw t c = false) : ¬ ∀ i, i < t.size → bt t i < c := fun hf => by rw [blw_true.2 hf] at h; cases h
/-- What is below its bound is a table. -/
theorem TOk_iff {t : ByteArray} (h1 : 1 ≤ bt t 0) (h2 : bt t 0 ≤ 24) (h3 : 1 ≤ bt t 1) (h4 : bt t 1 ≤ 24) (h5 : tsz t 0 ≤ t.size) :
    TOk t 0 ↔ blw (t.extract 2 258) (bt t 1) = true ∧ blw (t.extract 258 (258 + bt t 0)) 2 = true ∧ blw (t.extract (258 + bt t 0) (tsz t 0)) (bt t 0) = true := by
  have e0 : tsz t 0 = 258 + bt t 0 + bt t 0 * bt t 1 := by unfold tsz; rw [Nat.zero_add]
  have s1 : (t.extract 2 258).size = 256 := by rw [ByteArray.size_extract]; omega
  have s2 : (t.extract 258 (258 + bt t 0)).size = bt t 0 := by rw [ByteArray.size_extract]; omega
  have s3 : (t.extract (258 + bt t 0) (tsz t 0)).size = bt t 0 * bt t 1 := by rw [ByteArray.size_extract]; omega
  rw [blw_true, blw_true, blw_true, s1, s2, s3]
  constructor
  · intro h
    refine ⟨fun i hi => ?_, fun i hi => ?_, fun i hi => ?_⟩
    · rw [bt_ext, if_pos (by omega)]; have := h.cl i hi; simpa using this
    · rw [bt_ext, if_pos (by omega)]; have := h.gr i (by simpa using hi); simpa using this
    · rw [bt_ext, if_pos (by omega)]; have := h.nx i (by simpa using hi); simpa using this
  · rintro ⟨a, b, c⟩
    refine ⟨h1, h2, by simpa using h3, by simpa using h4, by omega, fun i hi => ?_, fun i hi => ?_, fun i hi => ?_⟩
    · have := a i hi; rw [bt_ext, if_pos (by omega)] at this; simpa using this
    · have := b i hi; rw [bt_ext, if_pos (by omega)] at this; simpa using this
    · have hi' : i < bt t 0 * bt t 1 := by simpa using hi
      have := c i hi'; rw [bt_ext, if_pos (by omega)] at this; simpa using this
/-- What reading a table leaves. -/
def TRd (w w' : World) (t : ByteArray) (e : Ending) : Prop :=
  (TOk t 0 ∧ ∃ gv nv, e = .returned (.tuple #[.agg (tbC (tabAt t 0).cl (tabAt t 0).C gv nv), .int .i64 ((tsz t 0 : Nat) : Int)]) ∧ BR w' w.heap.size gv ((List.range (tabAt t 0).S).map (tabAt t 0).gr) ∧ NR w' w.heap.size nv ((List.range ((tabAt t 0).S * (tabAt t 0).C)).map fun k => bt t (258 + bt t 0 + k))) ∨
  (¬ TOk t 0 ∧ e = .returned (.tuple #[.agg zcTb, .int .i64 0]))

theorem parsed_tab (w : World) (t : ByteArray) (S C : Nat) (hS : bt t 0 = S) (hC : bt t 1 = C) (hl : 258 + S + S * C ≤ t.size) (h1 : S ≤ 1000) (h2 : S * C ≤ 1000) :
    Calls Try.prog 119 #[.int .i64 (C : Int), .string (t.extract 2 258), .string (t.extract 258 (258 + S)), .string (t.extract (258 + S) (258 + S + S * C))] w fun e w' => Below w.heap.size w w' ∧ ∃ gv nv, e = .returned (.agg (tbC (tabAt t 0).cl (tabAt t 0).C gv nv)) ∧ BR w' w.heap.size gv ((List.range (tabAt t 0).S).map (tabAt t 0).gr) ∧ NR w' w.heap.size nv ((List.range ((tabAt t 0).S * (tabAt t 0).C)).map fun k => bt t (258 + bt t 0 + k)) := by
  have s1 : (t.extract 2 258).size = 256 := by rw [ByteArray.size_extract]; omega
  have s2 : (t.extract 258 (258 + S)).size = S := by rw [ByteArray.size_extract]; omega
  have s3 : (t.extract (258 + S) (258 + S + S * C)).size = S * C := by rw [ByteArray.size_extract]; omega
  refine (parsed_any w C _ _ _ s1 (by omega) (by omega)).mono ?_
  rintro e w' ⟨hb, gv, nv, rfl, hg, hn⟩
  have e1 : (tabAt t 0).S = S := by rw [← hS]; rfl
  have e2 : (tabAt t 0).C = C := by rw [← hC]; rfl
  refine ⟨hb, gv, nv, ?_, ?_, ?_⟩
  · rw [e2, tbC_congr (cl' := (tabAt t 0).cl)]
    intro b hb
    rw [bt_ext, if_pos (by omega)]
    show _ = bt t (0 + 2 + b)
    rw [Nat.zero_add]
  · rw [s2] at hg
    rw [e1]
    have : (List.range S).map (tabAt t 0).gr = (List.range S).map fun q => decide (bt (t.extract 258 (258 + S)) q = 1) := by
      refine List.map_congr_left fun q hq => ?_
      have hq' := List.mem_range.1 hq
      rw [bt_ext, if_pos (by omega)]
      show decide (bt t (0 + 258 + q) = 1) = _
      rw [Nat.zero_add]
    rw [this]; exact hg
  · rw [s3] at hn
    rw [e1, e2, hS]
    have : ((List.range (S * C)).map fun k => bt t (258 + S + k)) = (List.range (S * C)).map (bt (t.extract (258 + S) (258 + S + S * C))) := by
      refine List.map_congr_left fun q hq => ?_
      have hq' := List.mem_range.1 hq
      rw [bt_ext, if_pos (by omega)]
    rw [this]; exact hn

section
attribute [local go_sem ↓] Go.wp_at_zero Go.wp_at_succ zvTb
attribute [local go_sem] zcTb_size zcTb_ne aggcells
set_option maxRecDepth 20000 in
set_option maxHeartbeats 2000000 in
theorem TRead_any (w : World) (t : ByteArray) (ht : t.size ≤ 9223372036854775807) :
    Calls Try.prog 98 #[.string t] w fun e w' => Below w.heap.size w w' ∧ TRd w w' t e := by
  have HR1 : Hid ((w.alloc (.cells zcTb 142)).heap[w.heap.size]? = some (.cells zcTb 142 (0, 0))) := heap_alloc_new _ _
  have HB1 : Hid (Below w.heap.size w (w.alloc (.cells zcTb 142))) := (Below.refl _ _).alloc (Nat.le_refl _) _
  have HBX : Hid (Below w.heap.size w ((w.alloc (.cells zcTb 142)).setRow w.heap.size zcTb)) := (Fr.ofRow _ w.heap.size zcTb).belowOf (unhide HB1) (unhide HB1).size (Nat.le_refl _)
  have htI : (t.size : Int) ≤ 9223372036854775807 := by omega
  by_cases h258 : t.size < 258
  · have hI : (t.size : Int) < 258 := by omega
    have HF : Hid (¬ TOk t 0) := fun h => by have := h.size; have := tsz_pos t 0; omega
    clear h258 ht
    go_enter Try.func98, Try.ntmps98
    go_wp2_with (refine store_row rfl 142 _ _ rfl rfl w.heap.size zcTb rfl rfl 142 _ (unhide HR1) (by rw [zcTb_size]; exact infoT) rfl (tbC_one _ _ _ _ _ _ _ _) ?_)
    exact bodyPost_ret (v := .tuple #[.agg zcTb, .int .i64 0])
      (res_row_tmp (p := 2) (u := 3) (ty := 142) rfl _ _ w.heap.size 142 _ (0, 0) _ rfl (setRow_heap _ _ _ _ _ _ (unhide HR1)) Try.underlying142 rfl (by rw [zcTb_size]; exact infoT) _ rfl) rfl
      ⟨unhide HBX, .inr ⟨unhide HF, rfl⟩⟩
  · have hI : (258 : Int) ≤ (t.size : Int) := by omega
    have l0 : 0 < t.size := by omega
    have l1 : 1 < t.size := by omega
    have b0 := bt_at t 0
    have b1 := bt_at t 1
    have b0I : ((bt t 0 : Nat) : Int) < 256 := by have := bt_le t 0; omega
    have b1I : ((bt t 1 : Nat) : Int) < 256 := by have := bt_le t 1; omega
    obtain ⟨S, hS⟩ : ∃ S, bt t 0 = S := ⟨_, rfl⟩
    obtain ⟨C, hC⟩ : ∃ C, bt t 1 = C := ⟨_, rfl⟩
    rw [hS] at b0 b0I
    rw [hC] at b1 b1I
    have hsc : ((S : Int) < 1) ∨ (1 ≤ (S : Int) ∧ 24 < (S : Int)) ∨ (1 ≤ (S : Int) ∧ (S : Int) ≤ 24 ∧ (C : Int) < 1) ∨ (1 ≤ (S : Int) ∧ (S : Int) ≤ 24 ∧ 1 ≤ (C : Int) ∧ 24 < (C : Int)) ∨ (1 ≤ (S : Int) ∧ (S : Int) ≤ 24 ∧ 1 ≤ (C : Int) ∧ (C : Int) ≤ 24) := by omega
    rcases hsc with i1 | ⟨i1, i2⟩ | ⟨i1, i2, i3⟩ | ⟨i1, i2, i3, i4⟩ | ⟨i1, i2, i3, i4⟩
    iterate 4
      · have HF : Hid (¬ TOk t 0) := fun h => by have := h.s1; have := h.s2; have := h.c1; have := h.c2; rw [Nat.zero_add] at *; omega
        clear h258 ht hS hC
        go_enter Try.func98, Try.ntmps98
        go_wp2_with (refine store_row rfl 142 _ _ rfl rfl w.heap.size zcTb rfl rfl 142 _ (unhide HR1) (by rw [zcTb_size]; exact infoT) rfl (tbC_one _ _ _ _ _ _ _ _) ?_)
        exact bodyPost_ret (v := .tuple #[.agg zcTb, .int .i64 0])
          (res_row_tmp (p := 2) (u := 3) (ty := 142) rfl _ _ w.heap.size 142 _ (0, 0) _ rfl (setRow_heap _ _ _ _ _ _ (unhide HR1)) Try.underlying142 rfl (by rw [zcTb_size]; exact infoT) _ rfl) rfl
          ⟨unhide HBX, .inr ⟨unhide HF, rfl⟩⟩
    have hSC : S * C ≤ 576 := Nat.mul_le_mul (show S ≤ 24 by omega) (show C ≤ 24 by omega)
    have e1 : (258 : Int) + (S : Int) = ((258 + S : Nat) : Int) := by omega
    have e2 : (S : Int) * (C : Int) = ((S * C : Nat) : Int) := by rw [Int.natCast_mul]
    have e3 : ((258 + S : Nat) : Int) + ((S * C : Nat) : Int) = ((258 + S + S * C : Nat) : Int) := by omega
    have w1 := wrap_i64 (258 + S) (by omega)
    have w2 := wrap_i64 (S * C) (by omega)
    have w3 := wrap_i64 (258 + S + S * C) (by omega)
    have hts : tsz t 0 = 258 + S + S * C := by unfold tsz; rw [Nat.zero_add, hS, hC]
    by_cases hlen : t.size < 258 + S + S * C
    · have hlI : (t.size : Int) < ((258 + S + S * C : Nat) : Int) := by omega
      have HF : Hid (¬ TOk t 0) := fun h => by have := h.size; omega
      clear h258 ht hS hC hlen hSC hts
      generalize 258 + S + S * C = z at *
      generalize 258 + S = y at *
      generalize S * C = x at *
      go_enter Try.func98, Try.ntmps98
      go_wp2_with (refine store_row rfl 142 _ _ rfl rfl w.heap.size zcTb rfl rfl 142 _ (unhide HR1) (by rw [zcTb_size]; exact infoT) rfl (tbC_one _ _ _ _ _ _ _ _) ?_)
      exact bodyPost_ret (v := .tuple #[.agg zcTb, .int .i64 0])
        (res_row_tmp (p := 2) (u := 3) (ty := 142) rfl _ _ w.heap.size 142 _ (0, 0) _ rfl (setRow_heap _ _ _ _ _ _ (unhide HR1)) Try.underlying142 rfl (by rw [zcTb_size]; exact infoT) _ rfl) rfl
        ⟨unhide HBX, .inr ⟨unhide HF, rfl⟩⟩
    · have hiff := TOk_iff (t := t) (by omega) (by omega) (by omega) (by omega) (by omega)
      have hlI : ((258 + S + S * C : Nat) : Int) ≤ (t.size : Int) := by omega
      have hyl : ((258 + S : Nat) : Int) ≤ ((258 + S + S * C : Nat) : Int) := by omega
      have hyl2 : ((258 + S : Nat) : Int) ≤ (t.size : Int) := by omega
      have hy0 : (258 : Int) ≤ ((258 + S : Nat) : Int) := by omega
      have n1 : (((258 + S : Nat) : Int)).toNat = 258 + S := by omega
      have n2 : (((258 + S + S * C : Nat) : Int)).toNat = 258 + S + S * C := by omega
      have s1 : (t.extract 2 258).size = 256 := by rw [ByteArray.size_extract]; omega
      have s2 : (t.extract 258 (258 + S)).size = S := by rw [ByteArray.size_extract]; omega
      have s3 : (t.extract (258 + S) (258 + S + S * C)).size = S * C := by rw [ByteArray.size_extract]; omega
      rw [hS, hC, hts] at hiff
      have HA1 := hide (fun W => allBelow_any W (t.extract 2 258) C (by omega) (by omega))
      have HA2 := hide (fun W => allBelow_any W (t.extract 258 (258 + S)) 2 (by omega) (by omega))
      have HA3 := hide (fun W => allBelow_any W (t.extract (258 + S) (258 + S + S * C)) S (by omega) (by omega))
      have HPA := hide (parsed_tab (w.alloc (.cells zcTb 142)) t S C hS hC (by omega) (by omega) (by omega))
      generalize hv1 : blw (t.extract 2 258) C = v1 at *
      generalize hv2 : blw (t.extract 258 (258 + S)) 2 = v2 at *
      generalize hv3 : blw (t.extract (258 + S) (258 + S + S * C)) S = v3 at *
      have HIFF := hide hiff
      have HTS := hide hts
      clear h258 ht hS hC hlen hSC hts s1 s2 s3 hv1 hv2 hv3 hiff
      generalize 258 + S + S * C = z at *
      generalize 258 + S = y at *
      generalize S * C = x at *
      go_enter Try.func98, Try.ntmps98
      go_wp2_with fail
      refine (unhide HA1 _).mono ?_
      rintro e w' ⟨rfl, rfl⟩
      cases v1
      · have HF : Hid (¬ TOk t 0) := fun h => by have := (unhide HIFF).1 h; simp at this
        clear HIFF HA1 HA2 HA3 HPA
        go_wp2_with (refine store_row rfl 142 _ _ rfl rfl w.heap.size zcTb rfl rfl 142 _ (unhide HR1) (by rw [zcTb_size]; exact infoT) rfl (tbC_one _ _ _ _ _ _ _ _) ?_)
        exact bodyPost_ret (v := .tuple #[.agg zcTb, .int .i64 0])
          (res_row_tmp (p := 2) (u := 3) (ty := 142) rfl _ _ w.heap.size 142 _ (0, 0) _ rfl (setRow_heap _ _ _ _ _ _ (unhide HR1)) Try.underlying142 rfl (by rw [zcTb_size]; exact infoT) _ rfl) rfl
          ⟨unhide HBX, .inr ⟨unhide HF, rfl⟩⟩
      · go_wp2_with fail
        refine (unhide HA2 _).mono ?_
        rintro e w' ⟨rfl, rfl⟩
        cases v2
        · have HF : Hid (¬ TOk t 0) := fun h => by have := (unhide HIFF).1 h; simp at this
          clear HIFF HA1 HA2 HA3 HPA
          go_wp2_with (refine store_row rfl 142 _ _ rfl rfl w.heap.size zcTb rfl rfl 142 _ (unhide HR1) (by rw [zcTb_size]; exact infoT) rfl (tbC_one _ _ _ _ _ _ _ _) ?_)
          exact bodyPost_ret (v := .tuple #[.agg zcTb, .int .i64 0])
            (res_row_tmp (p := 2) (u := 3) (ty := 142) rfl _ _ w.heap.size 142 _ (0, 0) _ rfl (setRow_heap _ _ _ _ _ _ (unhide HR1)) Try.underlying142 rfl (by rw [zcTb_size]; exact infoT) _ rfl) rfl
            ⟨unhide HBX, .inr ⟨unhide HF, rfl⟩⟩
        · go_wp2_with fail
          refine (unhide HA3 _).mono ?_
          rintro e w' ⟨rfl, rfl⟩
          cases v3
          · have HF : Hid (¬ TOk t 0) := fun h => by have := (unhide HIFF).1 h; simp at this
            clear HIFF HA1 HA2 HA3 HPA
            go_wp2_with (refine store_row rfl 142 _ _ rfl rfl w.heap.size zcTb rfl rfl 142 _ (unhide HR1) (by rw [zcTb_size]; exact infoT) rfl (tbC_one _ _ _ _ _ _ _ _) ?_)
            exact bodyPost_ret (v := .tuple #[.agg zcTb, .int .i64 0])
              (res_row_tmp (p := 2) (u := 3) (ty := 142) rfl _ _ w.heap.size 142 _ (0, 0) _ rfl (setRow_heap _ _ _ _ _ _ (unhide HR1)) Try.underlying142 rfl (by rw [zcTb_size]; exact infoT) _ rfl) rfl
              ⟨unhide HBX, .inr ⟨unhide HF, rfl⟩⟩
          · have HT : Hid (TOk t 0) := (unhide HIFF).2 (by simp)
            clear HIFF HA1 HA2 HA3
            go_wp2_with fail
            refine (unhide HPA).mono ?_
            rintro e w3 ⟨hb3, gv, nv, rfl, hg3, hn3⟩
            obtain ⟨a1, k1, rfl⟩ := hg3.form
            obtain ⟨a2, k2, rfl⟩ := hn3.form
            have HR3 : Hid (w3.heap[w.heap.size]? = some (.cells zcTb 142 (0, 0))) := (hb3.block _ (by simp)).trans (unhide HR1)
            have HB3 : Hid (Below w.heap.size w w3) := (unhide HB1).trans (hb3.mono (by simp))
            have HG3 := hide hg3
            have HN3 := hide hn3
            clear hb3 hg3 hn3 HPA
            generalize hbs : (List.range (tabAt t 0).S).map (tabAt t 0).gr = bs at *
            generalize hns : ((List.range ((tabAt t 0).S * (tabAt t 0).C)).map fun k => bt t (258 + bt t 0 + k)) = ns at *
            have HBS := hide hbs
            have HNS := hide hns
            clear hbs hns
            go_wp2_with (refine store_row rfl 142 _ _ rfl rfl w.heap.size _ rfl rfl 142 _ (unhide HR3) (by rw [tbC_size]; exact infoT) (by rw [tbC_size, zcTb_size]) (tbC_one _ _ _ _ _ _ _ _) ?_)
            refine bodyPost_ret
              (res_row_tmp (p := 2) (u := 3) (ty := 142) rfl _ _ w.heap.size 142 _ (0, 0) _ rfl (setRow_heap _ _ _ _ _ _ (unhide HR3)) Try.underlying142 rfl (by rw [tbC_size]; exact infoT) _ rfl) rfl ?_
            refine ⟨(Fr.ofRow _ w.heap.size _).belowOf (unhide HB3) (unhide HB3).size (Nat.le_refl _), .inl ⟨unhide HT, _, _, by rw [unhide HTS]; rfl, ?_, ?_⟩⟩
            · rw [unhide HBS]; exact own_less ((Fr.ofRow _ _ _).own (unhide HG3) (fun q hq => by simpa using own_off (unhide HG3) (unhide HR3) (by decide) q hq)) (by simp)
            · rw [unhide HNS]; exact own_less ((Fr.ofRow _ _ _).own (unhide HN3) (fun q hq => by simpa using own_off (unhide HN3) (unhide HR3) (by decide) q hq)) (by simp)
end

end Mc
end Go.Proofs.Ytnkdbcicphnmiaa
