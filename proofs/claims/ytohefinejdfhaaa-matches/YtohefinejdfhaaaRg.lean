/-
  The document's answer: items of a set.
-/
import Derived.Test.YtohefinejdfhaaaRf
namespace Go.Proofs.Ytohefinejdfhaaa
open Go.RowKit

def left257 (i : Value) : Nat := 257 - (intOf i).toNat
def upTo (f : Nat → Bool) (lo b : Int) : Nat → Bool := fun j => f j || (decide (lo ≤ (j : Int)) && decide ((j : Int) < b))

theorem upTo_start (f : Nat → Bool) (lo : Int) : rnA ⟨2, 0, 0, 0, 0, upTo f lo lo⟩ = rnA ⟨2, 0, 0, 0, 0, f⟩ := by
  refine rnA_congr rfl rfl rfl rfl rfl (fun j _ => ?_)
  have : (decide (lo ≤ (j : Int)) && decide ((j : Int) < lo)) = false := by
    rw [Bool.and_eq_false_iff, decide_eq_false_iff_not, decide_eq_false_iff_not]; omega
  simp only [upTo, this, Bool.or_false]
theorem upTo_step (f : Nat → Bool) (lo : Int) (k : Nat) (h : lo ≤ (k : Int)) : rnA ⟨2, 0, 0, 0, 0, fun j => if j = k then true else upTo f lo k j⟩ = rnA ⟨2, 0, 0, 0, 0, upTo f lo ((k : Int) + 1)⟩ := by
  refine rnA_congr rfl rfl rfl rfl rfl (fun j _ => ?_)
  simp only [upTo]
  by_cases e : j = k
  · subst e; simp [h, show (j : Int) < (j : Int) + 1 by omega]
  · rw [if_neg e, show decide ((j : Int) < (k : Int) + 1) = decide ((j : Int) < (k : Int)) from decide_eq_decide.2 ⟨fun _ => by omega, fun _ => by omega⟩]
theorem upTo_end (f : Nat → Bool) (lo hi b : Int) (_h1 : lo ≤ b) (h2 : hi < b) (h3 : b = lo ∨ b ≤ hi + 1) : rnA ⟨2, 0, 0, 0, 0, upTo f lo b⟩ = rnA ⟨2, 0, 0, 0, 0, addR f lo hi⟩ := by
  refine rnA_congr rfl rfl rfl rfl rfl (fun j _ => ?_)
  simp only [upTo, addR]
  congr 1
  rw [Bool.eq_iff_iff]
  simp
  omega
theorem namedS_bd {p : ByteArray} {i : Nat} {v : Int} {j : Nat} (h : namedS p i = some (v, j)) : 0 ≤ v ∧ v ≤ 255 := by
  unfold namedS at h
  repeat' split at h
  all_goals simp only [Option.some.injEq, Prod.mk.injEq, reduceCtorEq] at h
  all_goals obtain ⟨rfl, -⟩ := h
  · exact byteAt_bd p (i + 1)
  · rename_i hx
    rcases digitI_hex hx.2.1 with ⟨a1, a2, a3⟩ | ⟨a1, a2, a3⟩ <;> rcases digitI_hex hx.2.2 with ⟨b1, b2, b3⟩ | ⟨b1, b2, b3⟩ <;> omega
  · exact byteAt_bd p i

set_option maxHeartbeats 2000000 in
theorem items_any (p : ByteArray) (hp : p.size ≤ 60) (fu i : Nat) (fin : Nat → Bool) (w : World) (h : itemsF p fu i noSet = some fin) :
    Calls Try.prog 172 #[.string p, .int .i64 (i : Int)] w fun e w' => e = .returned (.agg (rnA ⟨2, 0, 0, 0, 0, fin⟩)) ∧ Below w.heap.size w w' := by
  have hp' : (p.size : Int) ≤ 60 := by omega
  have HA := hide (heap_alloc2_old w (Obj.cells Try.zeroCells132 132) (Obj.cells Try.zeroCells132 132))
  have HN := hide (heap_alloc2_new w (Obj.cells Try.zeroCells132 132) (Obj.cells Try.zeroCells132 132))
  have hB : Below w.heap.size w ((w.alloc (Obj.cells Try.zeroCells132 132)).alloc (Obj.cells Try.zeroCells132 132)) := ((Below.refl _ _).alloc (Nat.le_refl _) _).alloc (by simp) _
  have HBel := hide hB
  have hz2 : Try.zeroCells132.setIfInBounds 0 (.int .i64 2) = rnA ⟨2, 0, 0, 0, 0, noSet⟩ := by rw [zero78, rnA_kind]
  have HZ2 := hide hz2
  have H0 := hide h
  clear hz2 hB h
  go_enter Try.func172, Try.ntmps172
  go_wp2_with (refine wpList_store_row0 rfl 132 _ _ rfl rfl (w.heap.size + 1) _ rfl rfl 132 _ (unhide HN) (by rw [unhide HZ2, size_rnA]; exact info78) (by rw [unhide HZ2, zero78, size_rnA, size_rnA]) (by rw [unhide HZ2]; exact rnA_one _) ?_)
  have HA2 := hide ((setRow_other ((w.alloc (Obj.cells Try.zeroCells132 132)).alloc (Obj.cells Try.zeroCells132 132)) (w.heap.size + 1) w.heap.size (Try.zeroCells132.setIfInBounds 0 (.int .i64 2)) (by omega)).trans (unhide HA))
  have HN2 := hide (setRow_heap _ _ _ (Try.zeroCells132.setIfInBounds 0 (.int .i64 2)) _ _ (unhide HN))
  have HBel2 := hide (below_setRow (unhide HBel) (g := w.heap.size + 1) (by omega) (Try.zeroCells132.setIfInBounds 0 (.int .i64 2)))
  clear HA HN HBel
  generalize ((w.alloc (Obj.cells Try.zeroCells132 132)).alloc (Obj.cells Try.zeroCells132 132)).setRow (w.heap.size + 1) (Try.zeroCells132.setIfInBounds 0 (.int .i64 2)) = w0 at *
  go_loopg [1] fu (fun n s wr => ∃ (q : Nat) (f : Nat → Bool), s = .int .i64 (q : Int) ∧ Hid (itemsF p n q f = some fin ∧ Below w.heap.size w wr ∧ wr.heap[w.heap.size]? = some (Obj.cells Try.zeroCells132 132 (0, 0)) ∧ wr.heap[w.heap.size + 1]? = some (Obj.cells (rnA ⟨2, 0, 0, 0, 0, f⟩) 132 (0, 0))))
  case atStart => exact ⟨i, noSet, rfl, unhide H0, unhide HBel2, unhide HA2, by rw [← unhide HZ2]; exact unhide HN2⟩
  case round =>
    obtain ⟨q, f, rfl, H⟩ := hrel
    obtain ⟨h, hb, hz, hc⟩ := unhide H
    have HB := hide hb
    have HZ := hide hz
    have HC := hide hc
    clear H H0 HA2 HN2 HBel2 hb hz hc HZ2
    obtain ⟨n, rfl⟩ : ∃ n', gk = n' + 1 := by cases gk with | zero => simp [itemsF] at h | succ n => exact ⟨n, rfl⟩
    have hq : q < p.size := by
      by_cases hq : q < p.size
      · exact hq
      · simp [itemsF, hq] at h
    have hq' : (q : Int) < (p.size : Int) := by omega
    have hbq := byteAt_eq hq
    simp only [itemsF, hq, if_true, hbq] at h
    clear hbq
    by_cases d1 : ((p[q].toNat : Int) == 93) = true
    · rw [if_pos d1] at h
      simp only [Option.some.injEq] at h
      have d1' : ((p[q].toNat : Int) != 93) = false := by simpa using d1
      subst h
      clear d1
      go_wp2_with (first
        | refine wpList_load_row rfl 132 _ rfl (w.heap.size + 1) rfl 132 _ (0, 0) _ (unhide HC) Try.underlying132 rfl (by rw [size_rnA]; exact info78) ?_
        | refine wpList_store_row0 rfl 132 _ _ rfl rfl w.heap.size _ rfl rfl 132 _ (unhide HZ) (by rw [size_rnA]; exact info78) (by rw [zero78, size_rnA, size_rnA]) (rnA_one _) ?_)
      exact bodyPost_ret (v := .agg (rnA ⟨2, 0, 0, 0, 0, f⟩))
        (results_cell_row (p := 4) (ty := 132) rfl _ _ w.heap.size 132 _ (0, 0) _ rfl (setRow_heap _ _ _ _ _ _ (unhide HZ)) Try.underlying132 rfl (by rw [size_rnA]; exact info78))
        rfl ⟨rfl, below_setRow (unhide HB) (Nat.le_refl _) _⟩
    · rw [if_neg d1] at h
      have d1' : ((p[q].toNat : Int) != 93) = true := by simpa using d1
      clear d1
      rw [Option.bind_eq_some_iff] at h
      obtain ⟨⟨lo, j⟩, hn, h⟩ := h
      simp only at h
      have hlo := namedS_bd hn
      have HN := hide (fun wx => named_any p hp q lo j wx hn)
      clear hn
      have hj : j < p.size := by
        by_cases hj : j < p.size
        · exact hj
        · rw [if_neg hj] at h; cases h
      have hj' : (j : Int) < (p.size : Int) := by omega
      have hbj := byteAt_eq hj
      rw [if_pos hj, hbj] at h
      clear hbj
      by_cases d2 : ((p[j].toNat : Int) == 45) = true
      · rw [if_pos d2, Option.bind_eq_some_iff] at h
        obtain ⟨⟨hi, j2⟩, hn2, h⟩ := h
        simp only at h
        have hhi := namedS_bd hn2
        have HN2 := hide (fun wx => named_any p hp (j + 1) hi j2 wx hn2)
        have H2 := hide h
        have ej : ((j + 1 : Nat) : Int) = (j : Int) + 1 := by omega
        rw [ej] at HN2
        clear hn2 h ej
        go_wp2_with fail
        refine (unhide HN _).mono ?_
        rintro e w' ⟨rfl, hww⟩
        subst hww
        go_wp2_with fail
        refine (unhide HN2 _).mono ?_
        rintro e w' ⟨rfl, hww⟩
        subst hww
        have l0 : 0 ≤ lo := hlo.1
        have h255 : hi ≤ 255 := hhi.2
        have hl255 : lo ≤ 255 := hlo.2
        go_wp2_with fail
        go_loopw [9] (fun ix wx => ∃ bb : Int, ix = .int .i64 bb ∧ Hid (lo ≤ bb ∧ bb ≤ 256 ∧ (bb = lo ∨ bb ≤ hi + 1) ∧ Below w.heap.size w wx ∧ wx.heap[w.heap.size]? = some (Obj.cells Try.zeroCells132 132 (0, 0)) ∧ wx.heap[w.heap.size + 1]? = some (Obj.cells (rnA ⟨2, 0, 0, 0, 0, upTo f lo bb⟩) 132 (0, 0)))) (fun ix _ => left257 ix)
        case atStart => exact ⟨lo, rfl, by omega, by omega, Or.inl rfl, unhide HB, unhide HZ, by rw [upTo_start]; exact unhide HC⟩
        case round =>
          obtain ⟨bb, rfl, HH⟩ := hrel
          obtain ⟨e1, e2, e3, e4, e5, e6⟩ := unhide HH
          by_cases hle : bb ≤ hi
          · obtain ⟨bn, rfl⟩ := Int.eq_ofNat_of_zero_le (by omega : 0 ≤ bb)
            have hbn : bn < 256 := by omega
            have x1 : wr.cell? ⟨w.heap.size + 1, 5 + bn, none⟩ = some (.bool (upTo f lo bn bn)) := by rw [cell_of_row _ _ _ _ _ _ e6, get_rnA _ _ hbn]
            have x2 : wr.frozen? ⟨w.heap.size + 1, 5 + bn, none⟩ = false := frozen_of_row _ _ _ _ _ e6
            have hlt' : (bn : Int) < 256 := by omega
            have HE := hide (And.intro e1 (And.intro e2 (And.intro e3 (And.intro e4 (And.intro e5 e6)))))
            have HL := hide hbn
            clear e1 e2 e3 e4 e5 e6 HH hbn
            generalize upTo f lo bn bn = v0 at x1
            go_wp2
            go_roundw
            case rel =>
              obtain ⟨e1, e2, e3, e4, e5, e6⟩ := unhide HE
              exact ⟨(bn : Int) + 1, rfl, by omega, by omega, by omega, e4.setCell (by simp) _, by rw [heap_setCell_other _ _ _ _ (by simp)]; exact e5, by rw [heap_setCell_same _ _ _ _ _ _ e6, rnA_set, upTo_step _ _ _ e1]⟩
            case measure => have := unhide HL; simp [left257, intOf]; omega
          · have HE := hide (And.intro e1 (And.intro e2 (And.intro e3 (And.intro e4 (And.intro e5 e6)))))
            clear e1 e2 e3 e4 e5 e6 HH
            go_wp2
            go_roundg n
            case measure => omega
            case rel =>
              obtain ⟨e1, e2, e3, e4, e5, e6⟩ := unhide HE
              exact ⟨j2, addR f lo hi, rfl, unhide H2, e4, e5, by rw [← upTo_end f lo hi bb e1 (by omega) e3]; exact e6⟩
      · rw [if_neg d2] at h
        have d2' : ((p[j].toNat : Int) == 45) = false := by simpa using d2
        have H2 := hide h
        clear h d2
        go_wp2_with fail
        refine (unhide HN _).mono ?_
        rintro e w' ⟨rfl, hww⟩
        subst hww
        have l0 : 0 ≤ lo := hlo.1
        have h255 : lo ≤ 255 := hlo.2
        have hl255 : lo ≤ 255 := hlo.2
        go_wp2_with fail
        go_loopw [9] (fun ix wx => ∃ bb : Int, ix = .int .i64 bb ∧ Hid (lo ≤ bb ∧ bb ≤ 256 ∧ (bb = lo ∨ bb ≤ lo + 1) ∧ Below w.heap.size w wx ∧ wx.heap[w.heap.size]? = some (Obj.cells Try.zeroCells132 132 (0, 0)) ∧ wx.heap[w.heap.size + 1]? = some (Obj.cells (rnA ⟨2, 0, 0, 0, 0, upTo f lo bb⟩) 132 (0, 0)))) (fun ix _ => left257 ix)
        case atStart => exact ⟨lo, rfl, by omega, by omega, Or.inl rfl, unhide HB, unhide HZ, by rw [upTo_start]; exact unhide HC⟩
        case round =>
          obtain ⟨bb, rfl, HH⟩ := hrel
          obtain ⟨e1, e2, e3, e4, e5, e6⟩ := unhide HH
          by_cases hle : bb ≤ lo
          · obtain ⟨bn, rfl⟩ := Int.eq_ofNat_of_zero_le (by omega : 0 ≤ bb)
            have hbn : bn < 256 := by omega
            have x1 : wr.cell? ⟨w.heap.size + 1, 5 + bn, none⟩ = some (.bool (upTo f lo bn bn)) := by rw [cell_of_row _ _ _ _ _ _ e6, get_rnA _ _ hbn]
            have x2 : wr.frozen? ⟨w.heap.size + 1, 5 + bn, none⟩ = false := frozen_of_row _ _ _ _ _ e6
            have hlt' : (bn : Int) < 256 := by omega
            have HE := hide (And.intro e1 (And.intro e2 (And.intro e3 (And.intro e4 (And.intro e5 e6)))))
            have HL := hide hbn
            clear e1 e2 e3 e4 e5 e6 HH hbn
            generalize upTo f lo bn bn = v0 at x1
            go_wp2
            go_roundw
            case rel =>
              obtain ⟨e1, e2, e3, e4, e5, e6⟩ := unhide HE
              exact ⟨(bn : Int) + 1, rfl, by omega, by omega, by omega, e4.setCell (by simp) _, by rw [heap_setCell_other _ _ _ _ (by simp)]; exact e5, by rw [heap_setCell_same _ _ _ _ _ _ e6, rnA_set, upTo_step _ _ _ e1]⟩
            case measure => have := unhide HL; simp [left257, intOf]; omega
          · have HE := hide (And.intro e1 (And.intro e2 (And.intro e3 (And.intro e4 (And.intro e5 e6)))))
            clear e1 e2 e3 e4 e5 e6 HH
            go_wp2
            go_roundg n
            case measure => omega
            case rel =>
              obtain ⟨e1, e2, e3, e4, e5, e6⟩ := unhide HE
              exact ⟨j, addR f lo lo, rfl, unhide H2, e4, e5, by rw [← upTo_end f lo lo bb e1 (by omega) e3]; exact e6⟩

end Go.Proofs.Ytohefinejdfhaaa
