/-
  table.OfPattern.
-/
import Derived.Test.YtohefinejdfhaabVn
import Derived.Test.YtohefinejdfhaabVf
import Derived.Test.YtohefinejdfhaabWn
import Derived.Test.YtohefinejdfhaabTP
namespace Go.Proofs.Ytohefinejdfhaab
open Go.RowKit
attribute [local go_sem ↓] Go.wp_at_zero Go.wp_at_succ zvT zvA zvG
attribute [local go_sem] zcT_size zcT_ne zcA_size zcA_ne zcG_size zcG_ne cells_agg

/-- What OfPattern gives for a text that is a pattern. -/
def OfOk (w' : World) (B : Nat) (e : Ending) (L : List Nat → Prop) : Prop := (∃ v, e = .returned (.tuple #[v, .int .i64 0]) ∧ TabV w' B v L) ∨ (e = .returned (.tuple #[.agg zcT, .int .i64 3]) ∧ (ManyStates L ∨ ManyClasses L))

set_option maxRecDepth 20000 in
set_option maxHeartbeats 4000000 in
theorem OfPattern_any (w : World) (p : ByteArray) (hp : p.size ≤ 60) :
    Calls Try.prog 38 #[.string p] w fun e w' => Below w.heap.size w w' ∧ ∃ y i, Rds p 0 0 x0 (y, i) ∧ ((readErr p y).1 ≠ 0 → e = .returned (.tuple #[.agg zcT, .int .i64 (readErr p y).1])) ∧
      ((readErr p y).1 = 0 → ∃ R n rs k S, R.wt ≤ 12 ∧ Dn y.ns y.fs R ((y.ns.length : Int) - 1) ∧ rfF n 0 p 0 0 [] = some (rs, k) ∧ Dr rs S k ∧ R.L = S.L ∧ OfOk w' w.heap.size e R.L) := by
  have hB0 : Below w.heap.size w (w.alloc (.cells zcT 78)) := (Below.refl _ _).alloc (Nat.le_refl _) _
  have HR := hide (Read_any (w.alloc (.cells zcT 78)) p hp)
  have hpI : (p.size : Int) ≤ 60 := by omega
  have HP := hide hp
  have HB0 := hide hB0
  clear hp hB0
  go_enter Try.func38, Try.ntmps38
  go_wp2_with fail
  refine (unhide HR).mono ?_
  rintro e w1 ⟨y, i, nv, sv, hr, ⟨na, nn, nc, rfl⟩, ⟨sa, sn, sc, rfl⟩, rfl, hw1, hok⟩
  clear HR
  have hR1 : w1.heap[w.heap.size]? = some (.cells zcT 78 (0, 0)) := (hw1.block _ (by simp)).trans (heap_alloc_new w _)
  have hbw1 : Below w.heap.size w w1 := (unhide HB0).trans (hw1.mono (by simp))
  have hsz1 : w.heap.size < w1.heap.size := (Array.getElem?_eq_some_iff.1 hR1).1
  have hb2 : Below w1.heap.size w1 (w1.alloc (Obj.cells #[.slice na nn nc, .slice sa sn sc] 70)) := (Below.refl _ _).alloc (Nat.le_refl _) _
  have hR2 := (hb2.block _ hsz1).trans hR1
  have HD := hide hr
  have HB1 := hide hbw1
  have HB2 := hide (below_then hbw1 (Obj.cells #[.slice na nn nc, .slice sa sn sc] 70))
  have HR2 := hide hR2
  by_cases h0 : (readErr p y).1 = 0
  · obtain ⟨R, n, rs, k, S, d, hwt, hf, hdr, hRS, hny, hfy⟩ := read_ok (unhide HP) hr h0
    obtain ⟨o1, o2⟩ := hok h0
    have hpos := d.pos
    obtain ⟨m, hm⟩ : ∃ m, y.ns.length = m + 1 := ⟨y.ns.length - 1, by omega⟩
    obtain ⟨g, cap, he⟩ : ∃ g cap, Value.slice na nn nc = .slice (some ⟨g, 0, none⟩) y.ns.length cap := by
      have o1' := o1
      rw [hm] at o1' ⊢; exact own_form o1'
    simp only [Value.slice.injEq] at he
    obtain ⟨rfl, rfl, rfl⟩ := he
    obtain ⟨sa', sc', he2⟩ := FsRow.form (B := (w.alloc (.cells zcT 78)).heap.size) o2
    simp only [Value.slice.injEq] at he2
    obtain ⟨rfl, rfl, rfl⟩ := he2
    have HBU := hide (Build_any _ g nc sc sa y.ns y.fs R (NdRow.below (ownsRow_less o1 (Nat.zero_le _)) hb2) (FsRow.below (ownsRow_less o2 (Nat.zero_le _)) hb2) hny hfy d (by omega))
    have HF : Hid (∃ R' n rs k S, R'.wt ≤ 12 ∧ Dn y.ns y.fs R' ((y.ns.length : Int) - 1) ∧ rfF n 0 p 0 0 [] = some (rs, k) ∧ Dr rs S k ∧ R'.L = S.L ∧ R' = R) := ⟨R, n, rs, k, S, hwt, d, hf, hdr, hRS, rfl⟩
    have HOK := hide (autN_ok (partN_ok R))
    have HLEN : Hid ((autN (partN R)).next.length ≤ 13) := by
      show _ ≤ _
      have e2 : (autN (partN R)).next.length = (oneN fun _ => false).next.length + (partN R).next.length := behindN_len _ _
      have := partN_len R
      rw [e2]; simp [oneN]; omega
    have HLEN1 : Hid (1 ≤ (autN (partN R)).next.length) := by
      show _ ≤ _
      have e2 : (autN (partN R)).next.length = (oneN fun _ => false).next.length + (partN R).next.length := behindN_len _ _
      rw [e2]; simp [oneN]
    have HM : Hid (∀ x, runN (autN (partN R)) 1 x &&& (autN (partN R)).last ≠ 0 ↔ R.L x) := by
      intro x; rw [autN_match (partN_ok R), partN_L]
    generalize autN (partN R) = P at *
    have HE := hide h0
    generalize hre : readErr p y = re at *
    have HRE := hide hre
    clear hre hr hw1 hok d hwt hf hdr hRS hny hfy o1 o2 hpos hm hb2 hR1 hR2 hbw1
    obtain ⟨e1, e2⟩ := re
    have h0' : e1 = 0 := h0
    subst h0'
    go_wp2_with fail
    refine (unhide HBU).mono ?_
    rintro e w3 ⟨v, rfl, hv, hw3⟩
    have hb3 : Below w3.heap.size w3 (w3.alloc (Obj.cells v.cells 74)) := (Below.refl _ _).alloc (Nat.le_refl _) _
    have hbw3 : Below w.heap.size w w3 := (unhide HB2).trans (hw3.mono (unhide HB2).size)
    have hR3 : w3.heap[w.heap.size]? = some (.cells zcT 78 (0, 0)) := (hw3.block _ (by simp; omega)).trans (unhide HR2)
    have hs3 : w.heap.size < w3.heap.size := (Array.getElem?_eq_some_iff.1 hR3).1
    have HB4 := hide (below_then hbw3 (Obj.cells v.cells 74))
    have HR4 := hide ((hb3.block _ hs3).trans hR3)
    obtain ⟨nv3, rfl, v2⟩ := id hv
    have HA := hide (Draw_any _ w3.heap.size _ ⟨nv3, heap_alloc_new w3 _, v2.below hb3⟩ (unhide HOK) (unhide HLEN) (unhide HLEN1))
    obtain ⟨na3, nc3, rfl⟩ := v2.form
    clear v2 hv hw3 hb3 HBU hR3 hbw3 HB2 HR2
    go_wp2_with (refine wpList_store_row0 rfl 74 _ _ rfl rfl w3.heap.size _ rfl rfl 74 _ (heap_alloc_new _ _) (by rw [autA_size]; kernel_rfl) (by rw [autA_size, zcA_size]) (autA_one _ _ _ _ _) ?_; rw [setRow_alloc])
    refine (unhide HA).mono ?_
    rintro e w5 ⟨lv, F, gv, nv, hb, st, nxs, grs, rfl, hw5, rl, rg, rn, hso, hdr, hgt, hgl⟩
    obtain ⟨la, lc, hlv⟩ := rl.form
    rw [List.length_map] at hlv
    subst hlv
    obtain ⟨ga, gc, rfl⟩ := rg.form
    obtain ⟨na5, nc5, rfl⟩ := rn.form
    have hb5 : Below w5.heap.size w5 (w5.alloc (Obj.cells (graphA (.slice la hb.length lc) F (.slice ga grs.length gc) (.slice na5 nxs.length nc5)) 115)) := (Below.refl _ _).alloc (Nat.le_refl _) _
    have hbw5 : Below w.heap.size w w5 := (unhide HB4).trans (hw5.mono (unhide HB4).size)
    have hR5 : w5.heap[w.heap.size]? = some (.cells zcT 78 (0, 0)) := (hw5.block _ (by simp; omega)).trans (unhide HR4)
    have hs5 : w.heap.size < w5.heap.size := (Array.getElem?_eq_some_iff.1 hR5).1
    have hGB : GraphB (w5.alloc (Obj.cells (graphA (.slice la hb.length lc) F (.slice ga grs.length gc) (.slice na5 nxs.length nc5)) 115)) w5.heap.size hb.length F grs nxs := ⟨_, _, _, _, heap_alloc_new _ _, (BRow.below rg hb5).zero', (rn.below hb5).zero⟩
    have hst : st.length ≤ 8192 := Nat.le_trans hdr.size (Nat.le_trans (Nat.pow_le_pow_right (by omega) (unhide HLEN)) (by decide))
    have hhb : hb.length ≤ 256 := hso.len_le
    have hsm : Small hb.length grs nxs := ⟨hhb, by omega, by
      rw [hdr.len]
      have := Nat.mul_le_mul hst hhb
      omega⟩
    have hdfa := Drawn.dfa hso hdr (gr := fun i => grs.getD i false) (fun i hi => by rw [hgt i (by omega)]; simp) (unhide HM)
    rw [← hgl] at hdfa
    have HOG := hide (ofGraph_any _ w5.heap.size hb F grs nxs hGB hsm _ hso R.L hdfa)
    have HB6 := hide (below_then hbw5 (Obj.cells (graphA (.slice la hb.length lc) F (.slice ga grs.length gc) (.slice na5 nxs.length nc5)) 115))
    have HR6 := hide ((hb5.block _ hs5).trans hR5)
    clear hw5 rl rg rn hso hdr hgt hgl hb5 hbw5 hR5 hGB hst hhb hsm hdfa HA HB4 HR4
    go_wp2_with (refine wpList_store_row0 rfl 115 _ _ rfl rfl w5.heap.size _ rfl rfl 115 _ (heap_alloc_new _ _) (by rw [graphA_size]; kernel_rfl) (by rw [graphA_size, zcG_size]) (graphA_one _ _ _ _ _ _ _ _ _ _) ?_; rw [setRow_alloc])
    refine (unhide HOG).mono ?_
    rintro e w7 ⟨hw7, hres⟩
    clear HOG
    have HB7 : Hid (Below w.heap.size w w7) := (unhide HB6).trans (hw7.mono (unhide HB6).size)
    have HR7 : Hid (w7.heap[w.heap.size]? = some (.cells zcT 78 (0, 0))) := (hw7.block _ (by simp; omega)).trans (unhide HR6)
    have HS7 : Hid (w.heap.size ≤ (w5.alloc (Obj.cells (graphA (.slice la hb.length lc) F (.slice ga grs.length gc) (.slice na5 nxs.length nc5)) 115)).heap.size) := (unhide HB6).size
    rcases hres with ⟨v, rfl, S', C, nx, gr, cl, nc', gv', nv', rfl, r1, r2, htab⟩ | ⟨rfl, hmany⟩
    · obtain ⟨bs, hbs⟩ : ∃ bs, bs = (List.range S').map gr := ⟨_, rfl⟩
      obtain ⟨ns, hns⟩ : ∃ ns, ns = (List.range S').flatMap (fun i => (List.range C).map (nc' i)) := ⟨_, rfl⟩
      rw [← hbs] at r1
      rw [← hns] at r2
      have HBS := hide hbs
      have HNS := hide hns
      clear hbs hns
      obtain ⟨ga7, gc7, rfl⟩ := r1.form
      obtain ⟨na7, nc7, rfl⟩ := r2.form
      have H1 := hide r1
      have H2 := hide r2
      have HT := hide htab
      clear hw7 r1 r2 htab
      go_wp2_with (refine wpList_store_row0 rfl 78 _ _ rfl rfl w.heap.size _ rfl rfl 78 _ (unhide HR7) (by rw [tabA_size]; kernel_rfl) (by rw [tabA_size, zcT_size]) (tabA_one _ _ _ _ _ _ _ _) ?_)
      refine bodyPost_ret (v := .tuple #[.agg (tabA cl C (.slice ga7 _ gc7) (.slice na7 _ nc7)), .int .i64 0])
        (results_cell_row_tmp (p := 2) (u := 3) (ty := 78) rfl _ _ w.heap.size 78 _ (0, 0) _ rfl (setRow_heap _ _ _ _ _ _ (unhide HR7)) Try.underlying78 rfl (by rw [tabA_size]; kernel_rfl) _ rfl) rfl
        ⟨below_setRow (unhide HB7) (Nat.le_refl _) _, y, i, unhide HD, fun h => absurd (by rw [unhide HRE]) h, fun _ => ?_⟩
      obtain ⟨R', n, rs, k, S, f1, f2, f3, f4, f5, rfl⟩ := unhide HF
      refine ⟨R', n, rs, k, S, f1, f2, f3, f4, f5, .inl ⟨_, rfl, _, _, _, _, _, _, _, _, rfl, ?_, ?_, unhide HT⟩⟩
      · rw [← unhide HBS]
        exact own_setRow (ownsRow_less (unhide H1) (unhide HS7)) (own_off (unhide H1) (unhide HR7) (by decide)) _
      · rw [← unhide HNS]
        exact own_setRow (ownsRow_less (unhide H2) (unhide HS7)) (own_off (unhide H2) (unhide HR7) (by decide)) _
    · have HMANY := hide hmany
      clear hw7 hmany
      go_wp2_with (refine wpList_store_row0 rfl 78 _ _ rfl rfl w.heap.size _ rfl rfl 78 _ (unhide HR7) (by rw [zcT_size]; kernel_rfl) (by rw [zcT_size]) (tabA_one _ _ _ _ _ _ _ _) ?_)
      refine bodyPost_ret (v := .tuple #[.agg zcT, .int .i64 3])
        (results_cell_row_tmp (p := 2) (u := 3) (ty := 78) rfl _ _ w.heap.size 78 _ (0, 0) _ rfl (setRow_heap _ _ _ _ _ _ (unhide HR7)) Try.underlying78 rfl (by rw [zcT_size]; kernel_rfl) _ rfl) rfl
        ⟨below_setRow (unhide HB7) (Nat.le_refl _) _, y, i, unhide HD, fun h => absurd (by rw [unhide HRE]) h, fun _ => ?_⟩
      obtain ⟨R', n, rs, k, S, f1, f2, f3, f4, f5, rfl⟩ := unhide HF
      exact ⟨R', n, rs, k, S, f1, f2, f3, f4, f5, .inr ⟨rfl, unhide HMANY⟩⟩
  · have H0 := hide h0
    generalize hre : readErr p y = re at *
    have HRE := hide hre
    clear hre hr hw1 hok hR1 hbw1 hb2 hR2
    obtain ⟨e1, e2⟩ := re
    have h0' : ¬ e1 = 0 := h0
    clear h0
    go_wp2_with (refine wpList_store_row0 rfl 78 _ _ rfl rfl w.heap.size _ rfl rfl 78 _ (unhide HR2) (by rw [zcT_size]; kernel_rfl) (by rw [zcT_size]) (tabA_one _ _ _ _ _ _ _ _) ?_)
    refine bodyPost_ret (v := .tuple #[.agg zcT, .int .i64 e1])
      (results_cell_row_tmp (p := 2) (u := 3) (ty := 78) rfl _ _ w.heap.size 78 _ (0, 0) _ rfl (setRow_heap _ _ _ _ _ _ (unhide HR2)) Try.underlying78 rfl (by rw [zcT_size]; kernel_rfl) _ rfl) rfl
      ⟨below_setRow (unhide HB2) (Nat.le_refl _) _, y, i, unhide HD, fun _ => by rw [unhide HRE], fun h => absurd (by rw [unhide HRE] at h; exact h) h0'⟩

end Go.Proofs.Ytohefinejdfhaab
