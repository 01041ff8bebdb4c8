/-
  Parts: onePart, link.
-/
import Derived.Test.YtohefinejdfhaabWa
namespace Go.Proofs.Ytohefinejdfhaab
open Go.RowKit

theorem natCells_snoc (xs : List Nat) (x : Nat) : natCells (xs ++ [x]) = natCells xs ++ [.int .i64 (x : Int)] := by simp [natCells]
theorem linkN_snoc (xs : List Nat) (f t : Nat) {k : Nat} (hk : k < xs.length) : linkN (xs.take (k + 1)) f t = linkN (xs.take k) f t ++ [if f.testBit k then xs.getD k 0 ||| t else xs.getD k 0] := by
  have e : xs.take (k + 1) = xs.take k ++ [xs.getD k 0] := by
    rw [List.take_add_one, List.getD_eq_getElem?_getD, List.getElem?_eq_getElem hk]; rfl
  rw [e]
  unfold linkN
  rw [List.mapIdx_concat, List.length_take, Nat.min_eq_left (Nat.le_of_lt hk)]

/-- A row to which numbers are being put. -/
def Grows1 (B : Nat) (w wr : World) (v : Value) (xs : List Nat) : Prop := NRow wr B v xs ∧ Below B w wr

set_option maxHeartbeats 1000000 in
theorem link_any (w : World) (v : Value) (xs : List Nat) (f t : Nat) (h : NRow w 0 v xs) (hl : xs.length ≤ 50) (hx : ∀ x ∈ xs, x < top) (hf : f < top) (ht : t < top) :
    Calls Try.prog 95 #[v, .int .i64 (f : Int), .int .i64 (t : Int)] w fun e w' => ∃ v', e = .returned v' ∧ NRow w' w.heap.size v' (linkN xs f t) ∧ Below w.heap.size w w' := by
  obtain ⟨sa, sc, rfl⟩ := h.form
  obtain ⟨i, i0, i1, i2, i3⟩ := info_of info3
  have HI := hide (And.intro i0 (And.intro i1 (And.intro i2 i3)))
  have H := hide h
  have HX := hide hx
  have HL := hide hl
  have HF := hide (And.intro hf ht)
  have hL : (xs.length : Int) ≤ 50 := by omega
  clear i0 i1 i2 i3 h hx hl hf ht
  go_enter Try.func95, Try.ntmps95
  go_wp2
  go_loopw [7, 8] (fun v ix wr => ∃ k g2 cap2 : Nat, v = .slice (some ⟨g2, 0, none⟩) k cap2 ∧ ix = .int .i64 k ∧ k ≤ xs.length ∧
    Hid (wr.ownsRow w.heap.size 3 1 (.slice (some ⟨g2, 0, none⟩) k cap2) k (natCells (linkN (xs.take k) f t)) ∧ Below w.heap.size w wr)) (fun _ ix _ => xs.length - (intOf ix).toNat)
  case atStart =>
    refine ⟨0, w.heap.size, 0, rfl, rfl, Nat.zero_le _, ?_, ?_⟩
    · have := World.ownsRow_made (base := w.heap.size) (e := 3) (size := 1) w #[] 0 (by simp) (by simp) rfl
      simpa [natCells, linkN] using this
    · exact (Below.refl _ _).alloc (Nat.le_refl _) _
  case round =>
    rename_i wr
    obtain ⟨k, g2, cap2, rfl, rfl, hk, HH⟩ := hrel
    by_cases hlt : k < xs.length
    · obtain ⟨g, cap, he, hc⟩ := ((unhide H).below (unhide HH).2).at hlt
      simp only [Value.slice.injEq, true_and] at he
      obtain ⟨rfl, rfl⟩ := he
      have hlt' : (k : Int) < (xs.length : Int) := by omega
      have HS := hide (linkN_snoc xs f t hlt)
      have hk50 : k < 50 := by have := unhide HL; omega
      have HK := hide hk50
      have hxk : xs.getD k 0 < top := by
        rw [List.getD_eq_getElem?_getD, List.getElem?_eq_getElem hlt]; exact unhide HX _ (List.getElem_mem _)
      have HH2 := hide (fun w => has_any f k w (by omega) (unhide HF).1)
      have e1 := i64_or_nat (xs.getD k 0) t hxk (unhide HF).2
      clear hlt hk50 hxk
      generalize xs.getD k 0 = x at *
      by_cases hb : f.testBit k = true
      · rw [hb] at HH2 HS
        rw [if_pos rfl] at HS
        clear hb
        generalize x ||| t = y at *
        have HO2 := hide ((unhide HH).1.alloc (Obj.cells #[.int .i64 (y : Int)] 3))
        have HB2 := hide ((unhide HH).2.alloc (unhide HH).2.size (Obj.cells #[.int .i64 (y : Int)] 3))
        go_wp2_with (first
          | (go_at_call 96; refine (unhide HH2 _).mono ?_; rintro e w' ⟨rfl, hw'⟩; obtain rfl : wr = w' := hw'.symm)
          | (at_builtin; refine wpList_append_own _ rfl (.tmp 27) (.tmp 29) 48 rfl w.heap.size 3 i (.int .i64 0) 1 8 Try.underlying48 (unhide HI).1 (unhide HI).2.1 (unhide HI).2.2.1 (unhide HI).2.2.2 rfl (by decide) _ k _ rfl (unhide HO2) ⟨wr.heap.size, 0, none⟩ 1 1 [.int .i64 (y : Int)] rfl rfl ?c1 ?c2 ?b1 ?b2 ?b3 ?next))
        case c1 => exact cell_one_new _ _ _
        case c2 => intro u hu; simp at hu; subst hu; rfl
        case b1 => have := unhide HK; unfold maxLen; omega
        case b2 => have := unhide HK; omega
        case b3 => have := (unhide HB2).size; simp at this ⊢; omega
        case next =>
          intro v' w3 ho3 hg3 _
          obtain ⟨g3, cap3, rfl⟩ := own_form ho3
          have HO3 := hide ho3
          have HG3 := hide hg3
          clear ho3 hg3
          go_wp2
          go_roundw
          case rel =>
            refine ⟨k + 1, g3, cap3, rfl, by go_num, by omega, ?_, ?_⟩
            · rw [unhide HS, natCells_snoc]; exact unhide HO3
            · exact (unhide HB2).grown (unhide HG3) (unhide HB2).size (fun k' hk' => ((unhide HO2).lt k' hk').1)
          case measure => simp [intOf]; omega
      · have hb' : f.testBit k = false := by simpa using hb
        rw [hb'] at HH2 HS
        rw [if_neg (by simp)] at HS
        clear hb hb'
        have HO2 := hide ((unhide HH).1.alloc (Obj.cells #[.int .i64 (x : Int)] 3))
        have HB2 := hide ((unhide HH).2.alloc (unhide HH).2.size (Obj.cells #[.int .i64 (x : Int)] 3))
        go_wp2_with (first
          | (go_at_call 96; refine (unhide HH2 _).mono ?_; rintro e w' ⟨rfl, hw'⟩; obtain rfl : wr = w' := hw'.symm)
          | (at_builtin; refine wpList_append_own _ rfl (.tmp 27) (.tmp 29) 48 rfl w.heap.size 3 i (.int .i64 0) 1 8 Try.underlying48 (unhide HI).1 (unhide HI).2.1 (unhide HI).2.2.1 (unhide HI).2.2.2 rfl (by decide) _ k _ rfl (unhide HO2) ⟨wr.heap.size, 0, none⟩ 1 1 [.int .i64 (x : Int)] rfl rfl ?c1 ?c2 ?b1 ?b2 ?b3 ?next))
        case c1 => exact cell_one_new _ _ _
        case c2 => intro u hu; simp at hu; subst hu; rfl
        case b1 => have := unhide HK; unfold maxLen; omega
        case b2 => have := unhide HK; omega
        case b3 => have := (unhide HB2).size; simp at this ⊢; omega
        case next =>
          intro v' w3 ho3 hg3 _
          obtain ⟨g3, cap3, rfl⟩ := own_form ho3
          have HO3 := hide ho3
          have HG3 := hide hg3
          clear ho3 hg3
          go_wp2
          go_roundw
          case rel =>
            refine ⟨k + 1, g3, cap3, rfl, by go_num, by omega, ?_, ?_⟩
            · rw [unhide HS, natCells_snoc]; exact unhide HO3
            · exact (unhide HB2).grown (unhide HG3) (unhide HB2).size (fun k' hk' => ((unhide HO2).lt k' hk').1)
          case measure => simp [intOf]; omega
    · have hk2 : k = xs.length := by omega
      subst hk2
      have e1 : xs.take xs.length = xs := List.take_of_length_le (Nat.le_refl _)
      have HE := hide e1
      clear e1
      go_wp2
      go_ret
      refine ⟨_, rfl, ?_, (unhide HH).2⟩
      have := (unhide HH).1
      rw [unhide HE] at this
      unfold NRow
      rw [linkN_length]
      exact this

end Go.Proofs.Ytohefinejdfhaab
