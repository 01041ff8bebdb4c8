/-
  veil.Table: the table of a pattern, or its error.
-/
import Derived.Test.YtohefinejdfhaabVq
import Derived.Test.YtohefinejdfhaabVp
namespace Go.Proofs.Ytohefinejdfhaab
open Go.RowKit
attribute [local go_sem ↓] Go.wp_at_zero Go.wp_at_succ zvT
attribute [local go_sem] zcT_size zcT_ne cells_agg

theorem TabOf.bytes {L : List Nat → Prop} {S C : Nat} {nx : Nat → Nat → Nat} {gr : Nat → Bool} {cl : Nat → Nat} {nc : Nat → Nat → Nat} (_h : TabOf L S C nx gr cl nc) :
    bytesT ((List.range S).map gr).length C cl ((List.range S).map gr) ((List.range S).flatMap (fun i => (List.range C).map (nc i))) = layTab S C cl gr nc := by
  unfold bytesT layTab
  rw [List.length_map, List.length_range, List.map_map]
  rfl
theorem TabOf.nc_lt {L : List Nat → Prop} {S C : Nat} {nx : Nat → Nat → Nat} {gr : Nat → Bool} {cl : Nat → Nat} {nc : Nat → Nat → Nat} (h : TabOf L S C nx gr cl nc) {i c : Nat} (hi : i < S) (hc : c < C) : nc i c < S := by
  obtain ⟨b, hb, rfl⟩ := h.cols.all c hc
  rw [h.nc i b hi hb]; exact h.dfa.lt i b hi hb
theorem TabOf.ns_lt {L : List Nat → Prop} {S C : Nat} {nx : Nat → Nat → Nat} {gr : Nat → Bool} {cl : Nat → Nat} {nc : Nat → Nat → Nat} (h : TabOf L S C nx gr cl nc) : ∀ x ∈ (List.range S).flatMap (fun i => (List.range C).map (nc i)), x < 256 := fun x hx => by
  obtain ⟨i, hi, hx⟩ := List.mem_flatMap.1 hx
  obtain ⟨c, hc, rfl⟩ := List.mem_map.1 hx
  have := h.nc_lt (List.mem_range.1 hi) (List.mem_range.1 hc)
  have := h.sle
  omega

/-- What Table gives for a text that is a pattern. -/
def TblOk (e : Ending) (L : List Nat → Prop) : Prop := (∃ S C nx gr cl nc, e = .returned (.tuple #[.string (strN (layTab S C cl gr nc)), .int .i64 0]) ∧ TabOf L S C nx gr cl nc) ∨ (e = .returned (.tuple #[.string ⟨#[]⟩, .int .i64 3]) ∧ (ManyStates L ∨ ManyClasses L))

set_option maxRecDepth 20000 in
set_option maxHeartbeats 2000000 in
theorem VTable_any (w : World) (p : ByteArray) (hp : p.size ≤ 60) :
    Calls Try.prog 16 #[.string p] w fun e w' => Below w.heap.size w w' ∧ ∃ y i, Rds p 0 0 x0 (y, i) ∧ ((readErr p y).1 ≠ 0 → e = .returned (.tuple #[.string ⟨#[]⟩, .int .i64 (readErr p y).1])) ∧
      ((readErr p y).1 = 0 → ∃ R n rs k S, R.wt ≤ 12 ∧ Dn y.ns y.fs R ((y.ns.length : Int) - 1) ∧ rfF n 0 p 0 0 [] = some (rs, k) ∧ Dr rs S k ∧ R.L = S.L ∧ TblOk e R.L) := by
  have HR := hide (OfPattern_any w p hp)
  clear hp
  go_enter Try.func16, Try.ntmps16
  go_wp2_with fail
  refine (unhide HR).mono ?_
  rintro e w1 ⟨hw1, y, i, hr, hbad, hgood⟩
  clear HR
  have HD := hide hr
  by_cases h0 : (readErr p y).1 = 0
  · obtain ⟨R, n, rs, k, S, f1, f2, f3, f4, f5, hof⟩ := hgood h0
    have HF : Hid (∀ e, TblOk e R.L → ∃ R n rs k S, R.wt ≤ 12 ∧ Dn y.ns y.fs R ((y.ns.length : Int) - 1) ∧ rfF n 0 p 0 0 [] = some (rs, k) ∧ Dr rs S k ∧ R.L = S.L ∧ TblOk e R.L) := fun e he => ⟨R, n, rs, k, S, f1, f2, f3, f4, f5, he⟩
    have H0 := hide h0
    clear hbad hgood f1 f2 f3 f4 f5 hr
    rcases hof with ⟨v, rfl, S', C, nx, gr, cl, nc, gv, nv, rfl, r1, r2, htab⟩ | ⟨rfl, hmany⟩
    · have hb2 : ∀ o, Below w1.heap.size w1 (w1.alloc o) := fun o => (Below.refl _ _).alloc (Nat.le_refl _) _
      have HTB : Hid (∀ o, o = Obj.cells (tabA cl C gv nv) 78 → TabB (w1.alloc o) w1.heap.size cl C ((List.range S').map gr) ((List.range S').flatMap (fun i => (List.range C).map (nc i)))) := fun o ho => by
        subst ho
        exact ⟨gv, nv, heap_alloc_new _ _, (BRow.below r1 (hb2 _)).zero', (r2.below (hb2 _)).zero⟩
      have hby := htab.bytes
      have HBY : Hid (∀ o, o = Obj.cells (tabA cl C gv nv) 78 → Calls Try.prog 39 #[.pointer (some ⟨w1.heap.size, 0, none⟩)] (w1.alloc o) fun e w' => e = .returned (.string (strN (layTab S' C cl gr nc))) ∧ Below (w1.alloc o).heap.size (w1.alloc o) w') := fun o ho => by
        have := TBytes_any (w1.alloc o) w1.heap.size cl C _ _ (unhide HTB o ho) htab.cle (by rw [List.length_map, List.length_range]; exact htab.sle) (fun b hb => by have := htab.cols.lt b hb; have := htab.cle; omega) htab.ns_lt (by
          rw [flat_len]
          have := Nat.mul_le_mul htab.sle htab.cle
          omega)
        rw [hby] at this
        exact this
      have HT := hide htab
      have HB2 := hide (fun o => below_then hw1 o)
      obtain ⟨bs, hbs⟩ : ∃ bs, bs = (List.range S').map gr := ⟨_, rfl⟩
      obtain ⟨ns, hns⟩ : ∃ ns, ns = (List.range S').flatMap (fun i => (List.range C).map (nc i)) := ⟨_, rfl⟩
      rw [← hbs] at r1
      rw [← hns] at r2
      obtain ⟨ga, gc, rfl⟩ := r1.form
      obtain ⟨na, nc', rfl⟩ := r2.form
      have HBY2 := hide (unhide HBY _ rfl)
      have HB3 := hide (unhide HB2 (Obj.cells (tabA cl C (.slice ga bs.length gc) (.slice na ns.length nc')) 78))
      clear hw1 r1 r2 htab hby hb2 hbs hns HTB HBY HB2
      go_wp2_with (refine wpList_store_row0 rfl 78 _ _ rfl rfl w1.heap.size _ rfl rfl 78 _ (heap_alloc_new _ _) (by rw [tabA_size]; kernel_rfl) (by rw [tabA_size, zcT_size]) (tabA_one _ _ _ _ _ _ _ _) ?_; rw [setRow_alloc])
      refine (unhide HBY2).mono ?_
      rintro e w4 ⟨rfl, hw4⟩
      have HB4 := hide ((unhide HB3).trans (hw4.mono (unhide HB3).size))
      clear hw4
      go_wp2_with fail
      go_ret2
      exact ⟨unhide HB4, y, i, unhide HD, fun h => absurd (unhide H0) h, fun _ => unhide HF _ (.inl ⟨_, _, _, _, _, _, rfl, unhide HT⟩)⟩
    · have HMANY := hide hmany
      have HB2 := hide (fun o => below_then hw1 o)
      clear hw1 hmany
      go_wp2_with (refine wpList_store_row0 rfl 78 _ _ rfl rfl w1.heap.size _ rfl rfl 78 _ (heap_alloc_new _ _) (by rw [zcT_size]; kernel_rfl) (by rw [zcT_size]) (tabA_one _ _ _ _ _ _ _ _) ?_; rw [setRow_alloc])
      go_ret2
      exact ⟨unhide HB2 _, y, i, unhide HD, fun h => absurd (unhide H0) h, fun _ => unhide HF _ (.inr ⟨rfl, unhide HMANY⟩)⟩
  · have hb := hbad h0
    subst hb
    have HRE : Hid (∃ r, r = (readErr p y).1 ∧ r ≠ 0) := ⟨_, rfl, h0⟩
    have HB2 := hide (fun o => below_then hw1 o)
    clear hbad hgood hr h0 hw1
    obtain ⟨r, hr, hr0⟩ := unhide HRE
    rw [← hr]
    have HR := hide hr
    have hr0' : ¬ r = 0 := hr0
    clear HRE hr hr0
    go_wp2_with (refine wpList_store_row0 rfl 78 _ _ rfl rfl w1.heap.size _ rfl rfl 78 _ (heap_alloc_new _ _) (by rw [zcT_size]; kernel_rfl) (by rw [zcT_size]) (tabA_one _ _ _ _ _ _ _ _) ?_; rw [setRow_alloc])
    go_ret2
    exact ⟨unhide HB2 _, y, i, unhide HD, fun _ => by rw [← unhide HR]; rfl, fun h => absurd (by rw [← unhide HR] at h; exact h) hr0'⟩

end Go.Proofs.Ytohefinejdfhaab
