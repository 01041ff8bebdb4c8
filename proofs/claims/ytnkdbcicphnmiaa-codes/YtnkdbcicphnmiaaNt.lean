/-
  veillaw.spareOps, untouched.
-/
import Derived.Test.YtnkdbcicphnmiaaNs
namespace Go.Proofs.Ytnkdbcicphnmiaa
namespace Mc
open Go.RowKit
attribute [local go_sem ↓] Go.wp_at_zero Go.wp_at_succ

theorem OpIn.set {cu : Array Value} {i j : Nat} {o : OpI} (h : OpIn cu i o) (hne : i ≠ j) (u0 u1 u2 u3 : Value) : OpIn ((((cu.setIfInBounds (j * 4) u0).setIfInBounds (j * 4 + 1) u1).setIfInBounds (j * 4 + 2) u2).setIfInBounds (j * 4 + 3) u3) i o := by
  obtain ⟨h0, h1, h2, h3⟩ := h
  have e : ∀ d, d < 4 → ((((cu.setIfInBounds (j * 4) u0).setIfInBounds (j * 4 + 1) u1).setIfInBounds (j * 4 + 2) u2).setIfInBounds (j * 4 + 3) u3)[i * 4 + d]? = cu[i * 4 + d]? := fun d hd => by
    rw [Array.getElem?_setIfInBounds_ne (by omega), Array.getElem?_setIfInBounds_ne (by omega), Array.getElem?_setIfInBounds_ne (by omega), Array.getElem?_setIfInBounds_ne (by omega)]
  exact ⟨(e 0 (by omega)).trans h0, (e 1 (by omega)).trans h1, (e 2 (by omega)).trans h2, (e 3 (by omega)).trans h3⟩
theorem OpIn.new {cu : Array Value} {j : Nat} (hj : j * 4 + 3 < cu.size) (o : OpI) : OpIn ((((cu.setIfInBounds (j * 4) (.int .i64 o.k)).setIfInBounds (j * 4 + 1) (.int .i64 o.a)).setIfInBounds (j * 4 + 2) (.int .i64 o.b)).setIfInBounds (j * 4 + 3) (.int .i64 o.c)) j o := by
  refine ⟨?_, ?_, ?_, ?_⟩
  · rw [Array.getElem?_setIfInBounds_ne (by omega), Array.getElem?_setIfInBounds_ne (by omega), Array.getElem?_setIfInBounds_ne (by omega), Array.getElem?_setIfInBounds, if_pos rfl, if_pos (by omega)]
  · rw [Array.getElem?_setIfInBounds_ne (by omega), Array.getElem?_setIfInBounds_ne (by omega), Array.getElem?_setIfInBounds, if_pos rfl, if_pos (by simp; omega)]
  · rw [Array.getElem?_setIfInBounds_ne (by omega), Array.getElem?_setIfInBounds, if_pos rfl, if_pos (by simp; omega)]
  · rw [Array.getElem?_setIfInBounds, if_pos rfl, if_pos (by simp; omega)]

set_option maxRecDepth 20000 in
set_option maxHeartbeats 1000000 in
theorem spareOps_any (w : World) (cv : Value) (os : List OpI) (h : OAt w cv os) (hz : os.length ≤ 4398046511104) :
    Calls Try.prog 31 #[cv] w fun e w' => e = .returned (.slice (some ⟨w.heap.size, 0, none⟩) os.length (os.length + 8)) ∧ Below w.heap.size w w' ∧ SpO w' w.heap.size os (os.length + 8) := by
  obtain ⟨a, cap, rfl, hc⟩ := h
  obtain ⟨mc, hmc⟩ : ∃ mc, mc = madeCells #[.int .i64 0, .int .i64 0, .int .i64 0, .int .i64 0] ((os.length + 8) * 4) := ⟨_, rfl⟩
  have hmk := spare_makeO w os.length hz
  rw [← hmc] at hmk
  have hms : mc.size = (os.length + 8) * 4 := by rw [hmc, size_madeCells]
  have hcp : ∀ ty, (Builtin.copy_ #[22, 22] ty #[.slice (some ⟨w.heap.size, 0, none⟩) (os.length + 8) (os.length + 8), .slice a os.length cap]).run Try.prog (w.alloc (.cells mc 62)) = .ok (goInt os.length) ((w.alloc (.cells mc 62)).setRow w.heap.size (oCells os ++ mc.toList.drop (oCells os).length).toArray) := by
    intro ty
    obtain ⟨i, i0, i1, i2, i3⟩ := info_of infoO
    refine copy_law (w.alloc (.cells mc 62)) 22 ty 62 w.heap.size _ _ a os.length cap 4 mc 62 (oCells os) Try.underlying22 (by rw [i0]; simp [i2]) (heap_alloc_new _ _) (by omega) (oCells_len os) ?_ (by rw [oCells_len, hms]; omega) ?_
    · rcases Nat.eq_zero_or_pos os.length with h0 | h0
      · have : os = [] := List.length_eq_zero_iff.1 h0
        subst this
        cases a with
        | none => exact .inl ⟨rfl, rfl⟩
        | some a => exact .inr ⟨a, rfl, fun j v hj => by simp [oCells] at hj⟩
      · obtain ⟨b, off, rfl, hcs⟩ := hc h0
        refine .inr ⟨_, rfl, fun j v hj => ?_⟩
        have hjl : j < os.length * 4 := by have := (List.getElem?_eq_some_iff.1 hj).1; rwa [oCells_len] at this
        have e : j = j / 4 * 4 + j % 4 := by omega
        rw [e, oCells_get os (j / 4) (j % 4) (by omega) (by omega)] at hj
        obtain ⟨c0, c1, c2, c3⟩ := hcs (j / 4) (by omega)
        rw [add_at]
        refine (Fr.ofAlloc w _).cell ?_ (by simp)
        have hm : j % 4 = 0 ∨ j % 4 = 1 ∨ j % 4 = 2 ∨ j % 4 = 3 := by omega
        rcases hm with hm | hm | hm | hm
        · rw [hm] at hj
          simp [ocs] at hj
          rw [← hj, show off + j = off + j / 4 * 4 by omega]; exact c0
        · rw [hm] at hj
          simp [ocs] at hj
          rw [← hj, show off + j = off + j / 4 * 4 + 1 by omega]; exact c1
        · rw [hm] at hj
          simp [ocs] at hj
          rw [← hj, show off + j = off + j / 4 * 4 + 2 by omega]; exact c2
        · rw [hm] at hj
          simp [ocs] at hj
          rw [← hj, show off + j = off + j / 4 * 4 + 3 by omega]; exact c3
    · intro v hv
      unfold oCells at hv
      obtain ⟨o, _, ho⟩ := List.mem_flatMap.1 hv
      simp [ocs] at ho
      rcases ho with rfl | rfl | rfl | rfl <;> rfl
  obtain ⟨c0, hc0⟩ : ∃ c0, c0 = (oCells os ++ mc.toList.drop (oCells os).length).toArray := ⟨_, rfl⟩
  rw [← hc0] at hcp
  have hrow : (w.alloc (.cells mc 62)).setRow w.heap.size c0 = w.alloc (.cells c0 62) := by
    simp only [World.setRow, World.alloc]
    congr 1
    apply Array.ext_getElem?
    intro i
    rw [Array.getElem?_modify, Array.getElem?_push, Array.getElem?_push]
    by_cases h : i = w.heap.size
    · subst h; simp
    · rw [if_neg (fun e => h e.symm), if_neg h, if_neg h]
  rw [hrow] at hcp
  have H0 : Hid (SpO (w.alloc (.cells c0 62)) w.heap.size os os.length) := by
    refine ⟨c0, heap_alloc_new _ _, ?_, oCells_in os (fun k hk => ?_), fun i h1 h2 => by omega⟩
    · rw [hc0]; simp [oCells_len, hms]; omega
    · rw [hc0, List.getElem?_toArray, List.getElem?_append_left (by rw [oCells_len]; exact hk)]
  have hzI : (os.length : Int) ≤ 4398046511104 := by omega
  clear hc hmc hms hc0 hrow hz
  go_enter Try.func31, Try.ntmps31
  go_wp2_with fail
  have HB0 : Hid (Below w.heap.size w (w.alloc (.cells c0 62))) := (Below.refl _ _).alloc (Nat.le_refl _) _
  clear hmk hcp
  go_loopw [5] (fun ix wr => ∃ q : Nat, ix = .int .i64 (q : Int) ∧ Hid (os.length ≤ q ∧ q ≤ os.length + 8 ∧ Below w.heap.size w wr ∧ SpO wr w.heap.size os q)) (fun ix _ => lenLeft (os.length + 8) ix)
  case atStart => exact ⟨os.length, rfl, Nat.le_refl _, by omega, unhide HB0, unhide H0⟩
  case round =>
    clear H0 HB0
    rename World => wr
    obtain ⟨q, rfl, HH⟩ := hrel
    obtain ⟨hq1, hq2, hBw, cu, hg, hs, ha, hb⟩ := unhide HH
    have HBW := hide hBw
    have HQ1 := hide hq1
    have HS : Hid (SpO wr w.heap.size os q) := ⟨cu, hg, hs, ha, hb⟩
    by_cases hlt : q < os.length + 8
    · have hqI : (q : Int) < (os.length : Int) + 8 := by omega
      have c0 : wr.cell? ⟨w.heap.size, q * 4, none⟩ = some (cu[q * 4]'(by omega)) := by rw [cell_of_row _ _ _ _ _ _ hg]; exact Array.getElem?_eq_getElem _
      have c1 : wr.cell? ⟨w.heap.size, q * 4 + 1, none⟩ = some (cu[q * 4 + 1]'(by omega)) := by rw [cell_of_row _ _ _ _ _ _ hg]; exact Array.getElem?_eq_getElem _
      have c2 : wr.cell? ⟨w.heap.size, q * 4 + 2, none⟩ = some (cu[q * 4 + 2]'(by omega)) := by rw [cell_of_row _ _ _ _ _ _ hg]; exact Array.getElem?_eq_getElem _
      have c3 : wr.cell? ⟨w.heap.size, q * 4 + 3, none⟩ = some (cu[q * 4 + 3]'(by omega)) := by rw [cell_of_row _ _ _ _ _ _ hg]; exact Array.getElem?_eq_getElem _
      have f0 : wr.frozen? ⟨w.heap.size, q * 4, none⟩ = false := frozen_of_row _ _ _ _ _ hg
      have f1 : wr.frozen? ⟨w.heap.size, q * 4 + 1, none⟩ = false := frozen_of_row _ _ _ _ _ hg
      have f2 : wr.frozen? ⟨w.heap.size, q * 4 + 2, none⟩ = false := frozen_of_row _ _ _ _ _ hg
      have f3 : wr.frozen? ⟨w.heap.size, q * 4 + 3, none⟩ = false := frozen_of_row _ _ _ _ _ hg
      have HN : Hid (SpO ((((wr.setCell ⟨w.heap.size, q * 4, none⟩ (.int .i64 7)).setCell ⟨w.heap.size, q * 4 + 1, none⟩ (.int .i64 7)).setCell ⟨w.heap.size, q * 4 + 2, none⟩ (.int .i64 7)).setCell ⟨w.heap.size, q * 4 + 3, none⟩ (.int .i64 7)) w.heap.size os (q + 1)) := by
        refine ⟨_, heap_setCell_same _ _ _ _ _ _ (heap_setCell_same _ _ _ _ _ _ (heap_setCell_same _ _ _ _ _ _ (heap_setCell_same _ _ _ _ _ _ hg))), by simpa using hs, fun i hi => (ha i hi).set (by omega) _ _ _ _, fun i h1 h2 => ?_⟩
        by_cases e : i = q
        · subst e; exact OpIn.new (by omega) o7
        · exact (hb i h1 (by omega)).set e _ _ _ _
      have HLT := hide hlt
      generalize cu[q * 4]'(by omega) = y0 at *
      generalize cu[q * 4 + 1]'(by omega) = y1 at *
      generalize cu[q * 4 + 2]'(by omega) = y2 at *
      generalize cu[q * 4 + 3]'(by omega) = y3 at *
      clear HH hq1 hq2 hBw hg hs ha hb hlt
      go_wp2_with fail
      go_roundw
      case rel => exact ⟨q + 1, by go_num, by have := unhide HQ1; omega, unhide HLT, below_set (below_set (below_set (below_set (unhide HBW) (Nat.le_refl _)) (Nat.le_refl _)) (Nat.le_refl _)) (Nat.le_refl _), unhide HN⟩
      case measure => have := unhide HLT; simp [lenLeft, intOf]; omega
    · have hq3 : q = os.length + 8 := by omega
      subst hq3
      have hqI : (os.length : Int) + 8 ≤ ((os.length + 8 : Nat) : Int) := by omega
      clear HH hq1 hq2 hBw hg hs ha hb hlt
      generalize hQ : ((os.length + 8 : Nat) : Int) = Q at *
      clear hQ
      go_wp2_with fail
      go_ret
      exact ⟨rfl, unhide HBW, unhide HS⟩

theorem SpI.iat {w : World} {g : Nat} {zs : List Int} {q : Nat} (h : SpI w g zs q) : IAt w (.slice (some ⟨g, 0, none⟩) zs.length (zs.length + 8)) zs := by
  obtain ⟨cu, hg, hs, ha, -⟩ := h
  refine ⟨_, _, rfl, fun _ => ⟨g, 0, rfl, fun j hj => ?_⟩⟩
  rw [Nat.zero_add, cell_of_row _ _ _ _ _ _ hg]; exact ha j hj
theorem SpO.oat {w : World} {g : Nat} {os : List OpI} {q : Nat} (h : SpO w g os q) : OAt w (.slice (some ⟨g, 0, none⟩) os.length (os.length + 8)) os := by
  obtain ⟨cu, hg, hs, ha, -⟩ := h
  refine ⟨_, _, rfl, fun _ => ⟨g, 0, rfl, fun j hj => ?_⟩⟩
  obtain ⟨h0, h1, h2, h3⟩ := ha j hj
  refine ⟨?_, ?_, ?_, ?_⟩ <;> rw [cell_of_row _ _ _ _ _ _ hg, Nat.zero_add] <;> assumption
theorem SpI.fr {w w' : World} {g : Nat} {zs : List Int} {q : Nat} (h : SpI w g zs q) {S : List Nat} (f : Fr S w w') (hn : g ∉ S) : SpI w' g zs q := by
  obtain ⟨cu, hg, r⟩ := h
  exact ⟨cu, f.at hg hn, r⟩
theorem SpO.fr {w w' : World} {g : Nat} {zs : List OpI} {q : Nat} (h : SpO w g zs q) {S : List Nat} (f : Fr S w w') (hn : g ∉ S) : SpO w' g zs q := by
  obtain ⟨cu, hg, r⟩ := h
  exact ⟨cu, f.at hg hn, r⟩

set_option maxRecDepth 20000 in
set_option maxHeartbeats 1000000 in
theorem untouched_any (w : World) (gc gm : Nat) (cv mv : Value) (os : List OpI) (zs : List Int) (hc : OAt w cv os) (hm : IAt w mv zs) (hsc : SpO w gc os (os.length + 8)) (hsm : SpI w gm zs (zs.length + 8)) (ho : os.length ≤ 4398046511104) (hz : zs.length ≤ 17592186044416) :
    Calls Try.prog 35 #[.slice (some ⟨gc, 0, none⟩) os.length (os.length + 8), cv, .slice (some ⟨gm, 0, none⟩) zs.length (zs.length + 8), mv] w fun e w' => e = .returned (.bool true) ∧ Below w.heap.size w w' := by
  have HSO := hide (sameOps_any w _ cv os hsc.oat hc ho)
  have HSI := hide (fun w' (hb : Below w.heap.size w w') => sameInts_any w' _ mv zs (hsm.iat.below hb) (hm.below hb) hz)
  obtain ⟨ca, cc, rfl, -⟩ := hc
  obtain ⟨ma, mc, rfl, -⟩ := hm
  have HC : Hid (∀ w', Below w.heap.size w w' → ∀ i, i < 8 → w'.cell? ⟨gc, (os.length + i) * 4, none⟩ = some (.int .i64 7) ∧ w'.cell? ⟨gc, (os.length + i) * 4 + 1, none⟩ = some (.int .i64 7) ∧ w'.cell? ⟨gc, (os.length + i) * 4 + 2, none⟩ = some (.int .i64 7) ∧ w'.cell? ⟨gc, (os.length + i) * 4 + 3, none⟩ = some (.int .i64 7)) := fun w' hb i hi => by
    obtain ⟨cu, hg, hs, -, hx⟩ := hsc
    obtain ⟨h0, h1, h2, h3⟩ := hx (os.length + i) (by omega) (by omega)
    have hg' := (Fr.ofBelow hb).at hg (by simp)
    refine ⟨?_, ?_, ?_, ?_⟩ <;> rw [cell_of_row _ _ _ _ _ _ hg'] <;> assumption
  have HM : Hid (∀ w', Below w.heap.size w w' → ∀ i, i < 8 → w'.cell? ⟨gm, zs.length + i, none⟩ = some (.int .i64 7)) := fun w' hb i hi => by
    obtain ⟨cu, hg, hs, -, hx⟩ := hsm
    rw [cell_of_row _ _ _ _ _ _ ((Fr.ofBelow hb).at hg (by simp))]
    exact hx (zs.length + i) (by omega) (by omega)
  have hoI : (os.length : Int) ≤ 4398046511104 := by omega
  have hzI : (zs.length : Int) ≤ 17592186044416 := by omega
  clear hsc hsm ho hz
  go_enter Try.func35, Try.ntmps35
  go_wp2_with fail
  refine (unhide HSO).mono ?_
  rintro e w1 ⟨rfl, hb1⟩
  have HB1 := hide hb1
  have HSI1 := hide (unhide HSI w1 hb1)
  clear hb1
  go_wp2_with fail
  refine (unhide HSI1).mono ?_
  rintro e w2 ⟨rfl, hb2⟩
  have HB2 : Hid (Below w.heap.size w w2) := (unhide HB1).trans (hb2.mono (unhide HB1).size)
  clear hb2
  go_wp2_with fail
  go_loopw [13, 14] (fun rx ix wx => ∃ i : Nat, rx = .bool true ∧ ix = .int .i64 (i : Int) ∧ wx = w2 ∧ Hid (i ≤ 8)) (fun _ ix _ => lenLeft 8 ix)
  case atStart => exact ⟨0, rfl, rfl, rfl, Nat.zero_le _⟩
  case round =>
    obtain ⟨i, rfl, rfl, rfl, HH⟩ := hrel
    have hi := unhide HH
    by_cases hlt : i < 8
    · obtain ⟨c0, c1, c2, c3⟩ := unhide HC _ (unhide HB2) i hlt
      have m0 := unhide HM _ (unhide HB2) i hlt
      have hiI : (i : Int) < 8 := by omega
      have HLT := hide hlt
      clear HH hi hlt
      go_wp2_with fail
      go_roundw
      case rel => exact ⟨i + 1, by trivial, by go_num, by trivial, unhide HLT⟩
      case measure => have := unhide HLT; simp [lenLeft, intOf]; omega
    · have hi2 : i = 8 := by omega
      subst hi2
      clear HH hi hlt
      go_wp2_with fail
      go_ret
      exact ⟨rfl, unhide HB2⟩

end Mc
end Go.Proofs.Ytnkdbcicphnmiaa
