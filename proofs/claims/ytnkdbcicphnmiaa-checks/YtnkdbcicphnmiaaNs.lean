/-
  veillaw.spareInts, spareOps: lists with spare room.
-/
import Derived.Test.YtnkdbcicphnmiaaT02
import Derived.Test.YtnkdbcicphnmiaaT00
namespace Go.Proofs.Ytnkdbcicphnmiaa
namespace Mc
open Go.RowKit
attribute [local go_sem ↓] Go.wp_at_zero Go.wp_at_succ

/-- A list of numbers with spare room, filled up to a place. -/
def SpI (w : World) (g : Nat) (zs : List Int) (q : Nat) : Prop := ∃ cu, w.heap[g]? = some (.cells cu 3 (0, 0)) ∧ cu.size = zs.length + 8 ∧ (∀ i, i < zs.length → cu[i]? = some (.int .i64 (zs.getD i 0))) ∧ ∀ i, zs.length ≤ i → i < q → cu[i]? = some (.int .i64 7)
theorem spare_make (w : World) (n : Nat) (hn : n ≤ 17592186044416) : (Instr.makeSlice 23 (.int .i64 ((n : Int) + 8)) (.int .i64 ((n : Int) + 8))).run Try.prog w = .ok (.slice (some ⟨w.heap.size, 0, none⟩) (n + 8) (n + 8)) (w.alloc (.cells (madeCells #[.int .i64 0] (n + 8)) 3)) := by
  obtain ⟨i, i0, i1, i2, i3⟩ := info_of infoI
  have := run_make (P := Try.prog) w 23 3 i (.int .i64 0) Try.underlying23 i0 i1 .i64 .i64 ((n : Int) + 8) ((n : Int) + 8) (by omega) (by omega) (by rw [i3]; omega) (by omega)
  rw [i2] at this
  have e : ((n : Int) + 8).toNat = n + 8 := by omega
  rw [e, Nat.mul_one] at this
  exact this

set_option maxRecDepth 20000 in
set_option maxHeartbeats 1000000 in
theorem spareInts_any (w : World) (mv : Value) (zs : List Int) (h : IAt w mv zs) (hz : zs.length ≤ 17592186044416) :
    Calls Try.prog 32 #[mv] w fun e w' => e = .returned (.slice (some ⟨w.heap.size, 0, none⟩) zs.length (zs.length + 8)) ∧ Below w.heap.size w w' ∧ SpI w' w.heap.size zs (zs.length + 8) := by
  obtain ⟨a, cap, rfl, hc⟩ := h
  obtain ⟨mc, hmc⟩ : ∃ mc, mc = madeCells #[.int .i64 0] (zs.length + 8) := ⟨_, rfl⟩
  have hmk := spare_make w zs.length hz
  rw [← hmc] at hmk
  have hms : mc.size = zs.length + 8 := by rw [hmc, size_madeCells]
  have hcp : ∀ ty, (Builtin.copy_ #[23, 23] ty #[.slice (some ⟨w.heap.size, 0, none⟩) (zs.length + 8) (zs.length + 8), .slice a zs.length cap]).run Try.prog (w.alloc (.cells mc 3)) = .ok (goInt zs.length) ((w.alloc (.cells mc 3)).setRow w.heap.size (ics zs ++ mc.toList.drop (ics zs).length).toArray) := by
    intro ty
    obtain ⟨i, i0, i1, i2, i3⟩ := info_of infoI
    refine copy_law (w.alloc (.cells mc 3)) 23 ty 3 w.heap.size _ _ a zs.length cap 1 mc 3 (ics zs) Try.underlying23 (by rw [i0]; simp [i2]) (heap_alloc_new _ _) (by omega) (by rw [ics_len, Nat.mul_one]) ?_ (by rw [ics_len, hms]; omega) ?_
    · rcases Nat.eq_zero_or_pos zs.length with h0 | h0
      · have : zs = [] := List.length_eq_zero_iff.1 h0
        subst this
        cases a with
        | none => exact .inl ⟨rfl, rfl⟩
        | some a => exact .inr ⟨a, rfl, fun j v hj => by simp [ics] at hj⟩
      · obtain ⟨b, off, rfl, hcs⟩ := hc h0
        refine .inr ⟨_, rfl, fun j v hj => ?_⟩
        have hjl : j < zs.length := by have := (List.getElem?_eq_some_iff.1 hj).1; rwa [ics_len] at this
        rw [ics_get zs hjl] at hj
        cases hj
        rw [add_at]
        exact (Fr.ofAlloc w _).cell (hcs j hjl) (by simp)
    · intro v hv
      unfold ics at hv
      obtain ⟨x, _, rfl⟩ := List.mem_map.1 hv
      rfl
  obtain ⟨c0, hc0⟩ : ∃ c0, c0 = (ics zs ++ mc.toList.drop (ics zs).length).toArray := ⟨_, rfl⟩
  rw [← hc0] at hcp
  have hrow : (w.alloc (.cells mc 3)).setRow w.heap.size c0 = w.alloc (.cells c0 3) := by
    simp only [World.setRow, World.alloc]
    congr 1
    apply Array.ext_getElem?
    intro i
    rw [Array.getElem?_modify, Array.getElem?_push, Array.getElem?_push]
    by_cases h : i = w.heap.size
    · subst h; simp
    · rw [if_neg (fun e => h e.symm), if_neg h, if_neg h]
  rw [hrow] at hcp
  have H0 : Hid (SpI (w.alloc (.cells c0 3)) w.heap.size zs zs.length) := by
    refine ⟨c0, heap_alloc_new _ _, ?_, fun i hi => ?_, fun i h1 h2 => by omega⟩
    · rw [hc0]; simp [ics_len, hms]
    · rw [hc0, List.getElem?_toArray, List.getElem?_append_left (by rw [ics_len]; exact hi), ics_get zs hi]
  have hzI : (zs.length : Int) ≤ 17592186044416 := by omega
  clear hc hmc hms hc0 hrow hz
  go_enter Try.func32, Try.ntmps32
  go_wp2_with fail
  have HB0 : Hid (Below w.heap.size w (w.alloc (.cells c0 3))) := (Below.refl _ _).alloc (Nat.le_refl _) _
  clear hmk hcp
  go_loopw [5] (fun ix wr => ∃ q : Nat, ix = .int .i64 (q : Int) ∧ Hid (zs.length ≤ q ∧ q ≤ zs.length + 8 ∧ Below w.heap.size w wr ∧ SpI wr w.heap.size zs q)) (fun ix _ => lenLeft (zs.length + 8) ix)
  case atStart => exact ⟨zs.length, rfl, Nat.le_refl _, by omega, unhide HB0, unhide H0⟩
  case round =>
    clear H0 HB0
    rename World => wr
    obtain ⟨q, rfl, HH⟩ := hrel
    obtain ⟨hq1, hq2, hBw, cu, hg, hs, ha, hb⟩ := unhide HH
    have HBW := hide hBw
    have HQ1 := hide hq1
    have HS : Hid (SpI wr w.heap.size zs q) := ⟨cu, hg, hs, ha, hb⟩
    by_cases hlt : q < zs.length + 8
    · have hqI : (q : Int) < (zs.length : Int) + 8 := by omega
      have c1 : wr.cell? ⟨w.heap.size, q, none⟩ = some (cu[q]'(by omega)) := by rw [cell_of_row _ _ _ _ _ _ hg]; exact Array.getElem?_eq_getElem _
      have f1 : wr.frozen? ⟨w.heap.size, q, none⟩ = false := frozen_of_row _ _ _ _ _ hg
      have HN : Hid (SpI (wr.setCell ⟨w.heap.size, q, none⟩ (.int .i64 7)) w.heap.size zs (q + 1)) := by
        refine ⟨cu.setIfInBounds q (.int .i64 7), heap_setCell_same _ _ _ _ _ _ hg, by simpa using hs, fun i hi => ?_, fun i h1 h2 => ?_⟩
        · rw [Array.getElem?_setIfInBounds, if_neg (by omega)]; exact ha i hi
        · rw [Array.getElem?_setIfInBounds]
          by_cases e : q = i
          · rw [if_pos e, if_pos (by omega)]
          · rw [if_neg e]; exact hb i h1 (by omega)
      have HLT := hide hlt
      generalize cu[q]'(by omega) = y at *
      clear HH hq1 hq2 hBw hg hs ha hb hlt
      go_wp2_with fail
      go_roundw
      case rel => exact ⟨q + 1, by go_num, by have := unhide HQ1; omega, unhide HLT, below_set (unhide HBW) (Nat.le_refl _), unhide HN⟩
      case measure => have := unhide HLT; simp [lenLeft, intOf]; omega
    · have hq3 : q = zs.length + 8 := by omega
      subst hq3
      have hqI : (zs.length : Int) + 8 ≤ ((zs.length + 8 : Nat) : Int) := by omega
      clear HH hq1 hq2 hBw hg hs ha hb hlt
      generalize hQ : ((zs.length + 8 : Nat) : Int) = Q at *
      clear hQ
      go_wp2_with fail
      go_ret
      exact ⟨rfl, unhide HBW, unhide HS⟩

def o7 : OpI := ⟨7, 7, 7, 7⟩
/-- A list of operations with spare room, filled up to a place. -/
def SpO (w : World) (g : Nat) (os : List OpI) (q : Nat) : Prop := ∃ cu, w.heap[g]? = some (.cells cu 62 (0, 0)) ∧ cu.size = (os.length + 8) * 4 ∧ (∀ i, i < os.length → OpIn cu i (os.getD i op0)) ∧ ∀ i, os.length ≤ i → i < q → OpIn cu i o7
theorem spare_makeO (w : World) (n : Nat) (hn : n ≤ 4398046511104) : (Instr.makeSlice 22 (.int .i64 ((n : Int) + 8)) (.int .i64 ((n : Int) + 8))).run Try.prog w = .ok (.slice (some ⟨w.heap.size, 0, none⟩) (n + 8) (n + 8)) (w.alloc (.cells (madeCells #[.int .i64 0, .int .i64 0, .int .i64 0, .int .i64 0] ((n + 8) * 4)) 62)) := by
  obtain ⟨i, i0, i1, i2, i3⟩ := info_of infoO
  have := run_make (P := Try.prog) w 22 62 i (.agg #[.int .i64 0, .int .i64 0, .int .i64 0, .int .i64 0]) Try.underlying22 i0 i1 .i64 .i64 ((n : Int) + 8) ((n : Int) + 8) (by omega) (by omega) (by rw [i3]; omega) (by omega)
  rw [i2] at this
  have e : ((n : Int) + 8).toNat = n + 8 := by omega
  rw [e] at this
  exact this

end Mc
end Go.Proofs.Ytnkdbcicphnmiaa
