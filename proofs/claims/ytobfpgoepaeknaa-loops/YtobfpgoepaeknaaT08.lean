/-
  Parts: onePart, link.
  Parts: onePart, orEmpty, again.
-/
import Derived.Test.YtobfpgoepaeknaaT07
import Derived.Deep.RegionHeld3
import Derived.Deep.AppendLies
import Derived.Deep.DrawnRows
namespace Go.Proofs.Ytobfpgoepaeknaa
open Go.RowKit

theorem natCells_snoc (xs : List Nat) (x : Nat) : natCells (xs ++ [x]) = natCells xs ++ [.int .i64 (x : Int)] := by simp [natCells]
theorem linkN_snoc (xs : List Nat) (f t : Nat) {k : Nat} (hk : k < xs.length) : linkN (xs.take (k + 1)) f t = linkN (xs.take k) f t ++ [if f.testBit k then xs.getD k 0 ||| t else xs.getD k 0] := by
  have e : xs.take (k + 1) = xs.take k ++ [xs.getD k 0] := by
    rw [List.take_add_one, List.getD_eq_getElem?_getD, List.getElem?_eq_getElem hk]; rfl
  rw [e]
  unfold linkN
  rw [List.mapIdx_concat, List.length_take, Nat.min_eq_left (Nat.le_of_lt hk)]

/-- A row to which numbers are being put. -/
def Grows1 (B : Nat) (w wr : World) (v : Value) (xs : List Nat) : Prop := NRow wr B v xs ∧ Below B w wr

set_option maxHeartbeats 1000000 in
theorem link_any (w : World) (v : Value) (xs : List Nat) (f t : Nat) (h : NRow w 0 v xs) (hl : xs.length ≤ 50) (hx : ∀ x ∈ xs, x < top) (hf : f < top) (ht : t < top) :
    Calls Try.prog 63 #[v, .int .i64 (f : Int), .int .i64 (t : Int)] w fun e w' => ∃ v', e = .returned v' ∧ NRow w' w.heap.size v' (linkN xs f t) ∧ Below w.heap.size w w' := by
  obtain ⟨sa, sc, rfl⟩ := h.form
  obtain ⟨i, i0, i1, i2, i3⟩ := info_of info3
  have HI := hide (And.intro i0 (And.intro i1 (And.intro i2 i3)))
  have H := hide h
  have HX := hide hx
  have HL := hide hl
  have HF := hide (And.intro hf ht)
  have hL : (xs.length : Int) ≤ 50 := by omega
  clear i0 i1 i2 i3 h hx hl hf ht
  go_enter Try.func63, Try.ntmps63
  go_wp2
  go_loopw [7, 8] (fun v ix wr => ∃ k g2 cap2 : Nat, v = .slice (some ⟨g2, 0, none⟩) k cap2 ∧ ix = .int .i64 k ∧ k ≤ xs.length ∧
    Hid (wr.ownsRow w.heap.size 3 1 (.slice (some ⟨g2, 0, none⟩) k cap2) k (natCells (linkN (xs.take k) f t)) ∧ Below w.heap.size w wr)) (fun _ ix _ => xs.length - (intOf ix).toNat)
  case atStart =>
    refine ⟨0, w.heap.size, 0, rfl, rfl, Nat.zero_le _, ?_, ?_⟩
    · have := World.ownsRow_made (base := w.heap.size) (e := 3) (size := 1) w #[] 0 (by simp) (by simp) rfl
      simpa [natCells, linkN] using this
    · exact (Below.refl _ _).alloc (Nat.le_refl _) _
  case round =>
    rename_i wr
    obtain ⟨k, g2, cap2, rfl, rfl, hk, HH⟩ := hrel
    by_cases hlt : k < xs.length
    · obtain ⟨g, cap, he, hc⟩ := ((unhide H).below (unhide HH).2).at hlt
      simp only [Value.slice.injEq, true_and] at he
      obtain ⟨rfl, rfl⟩ := he
      have hlt' : (k : Int) < (xs.length : Int) := by omega
      have HS := hide (linkN_snoc xs f t hlt)
      have hk50 : k < 50 := by have := unhide HL; omega
      have HK := hide hk50
      have hxk : xs.getD k 0 < top := by
        rw [List.getD_eq_getElem?_getD, List.getElem?_eq_getElem hlt]; exact unhide HX _ (List.getElem_mem _)
      have HH2 := hide (fun w => has_any f k w (by omega) (unhide HF).1)
      have e1 := i64_or_nat (xs.getD k 0) t hxk (unhide HF).2
      clear hlt hk50 hxk
      generalize xs.getD k 0 = x at *
      by_cases hb : f.testBit k = true
      · rw [hb] at HH2 HS
        rw [if_pos rfl] at HS
        clear hb
        generalize x ||| t = y at *
        have HO2 := hide ((unhide HH).1.alloc (Obj.cells #[.int .i64 (y : Int)] 3))
        have HB2 := hide ((unhide HH).2.alloc (unhide HH).2.size (Obj.cells #[.int .i64 (y : Int)] 3))
        go_wp2_with (first
          | (go_at_call 64; refine (unhide HH2 _).mono ?_; rintro e w' ⟨rfl, hw'⟩; obtain rfl : wr = w' := hw'.symm)
          | (at_builtin; refine wpList_append_own _ rfl (.tmp 27) (.tmp 29) 53 rfl w.heap.size 3 i (.int .i64 0) 1 8 Try.underlying53 (unhide HI).1 (unhide HI).2.1 (unhide HI).2.2.1 (unhide HI).2.2.2 rfl (by decide) _ k _ rfl (unhide HO2) ⟨wr.heap.size, 0, none⟩ 1 1 [.int .i64 (y : Int)] rfl rfl ?c1 ?c2 ?b1 ?b2 ?b3 ?next))
        case c1 => exact cell_one_new _ _ _
        case c2 => intro u hu; simp at hu; subst hu; rfl
        case b1 => have := unhide HK; unfold maxLen; omega
        case b2 => have := unhide HK; omega
        case b3 => have := (unhide HB2).size; simp at this ⊢; omega
        case next =>
          intro v' w3 ho3 hg3 _
          obtain ⟨g3, cap3, rfl⟩ := own_form ho3
          have HO3 := hide ho3
          have HG3 := hide hg3
          clear ho3 hg3
          go_wp2
          go_roundw
          case rel =>
            refine ⟨k + 1, g3, cap3, rfl, by go_num, by omega, ?_, ?_⟩
            · rw [unhide HS, natCells_snoc]; exact unhide HO3
            · exact (unhide HB2).grown (unhide HG3) (unhide HB2).size (fun k' hk' => ((unhide HO2).lt k' hk').1)
          case measure => simp [intOf]; omega
      · have hb' : f.testBit k = false := by simpa using hb
        rw [hb'] at HH2 HS
        rw [if_neg (by simp)] at HS
        clear hb hb'
        have HO2 := hide ((unhide HH).1.alloc (Obj.cells #[.int .i64 (x : Int)] 3))
        have HB2 := hide ((unhide HH).2.alloc (unhide HH).2.size (Obj.cells #[.int .i64 (x : Int)] 3))
        go_wp2_with (first
          | (go_at_call 64; refine (unhide HH2 _).mono ?_; rintro e w' ⟨rfl, hw'⟩; obtain rfl : wr = w' := hw'.symm)
          | (at_builtin; refine wpList_append_own _ rfl (.tmp 27) (.tmp 29) 53 rfl w.heap.size 3 i (.int .i64 0) 1 8 Try.underlying53 (unhide HI).1 (unhide HI).2.1 (unhide HI).2.2.1 (unhide HI).2.2.2 rfl (by decide) _ k _ rfl (unhide HO2) ⟨wr.heap.size, 0, none⟩ 1 1 [.int .i64 (x : Int)] rfl rfl ?c1 ?c2 ?b1 ?b2 ?b3 ?next))
        case c1 => exact cell_one_new _ _ _
        case c2 => intro u hu; simp at hu; subst hu; rfl
        case b1 => have := unhide HK; unfold maxLen; omega
        case b2 => have := unhide HK; omega
        case b3 => have := (unhide HB2).size; simp at this ⊢; omega
        case next =>
          intro v' w3 ho3 hg3 _
          obtain ⟨g3, cap3, rfl⟩ := own_form ho3
          have HO3 := hide ho3
          have HG3 := hide hg3
          clear ho3 hg3
          go_wp2
          go_roundw
          case rel =>
            refine ⟨k + 1, g3, cap3, rfl, by go_num, by omega, ?_, ?_⟩
            · rw [unhide HS, natCells_snoc]; exact unhide HO3
            · exact (unhide HB2).grown (unhide HG3) (unhide HB2).size (fun k' hk' => ((unhide HO2).lt k' hk').1)
          case measure => simp [intOf]; omega
    · have hk2 : k = xs.length := by omega
      subst hk2
      have e1 : xs.take xs.length = xs := List.take_of_length_le (Nat.le_refl _)
      have HE := hide e1
      clear e1
      go_wp2
      go_ret
      refine ⟨_, rfl, ?_, (unhide HH).2⟩
      have := (unhide HH).1
      rw [unhide HE] at this
      unfold NRow
      rw [linkN_length]
      exact this

end Go.Proofs.Ytobfpgoepaeknaa
namespace Go.Proofs.Ytobfpgoepaeknaa
open Go.RowKit

theorem cells_made {w : World} {B g : Nat} (x : Int) (hB : B ≤ g) (hg : w.heap.size = g) : (w.alloc (Obj.cells #[.int .i64 x] 3)).ownsRow B 3 1 (.slice (some ⟨g, 0, none⟩) 1 1) 1 [.int .i64 x] := by
  subst hg
  exact ⟨rfl, .inr ⟨w.heap.size, 1, #[.int .i64 x], rfl, hB, heap_alloc_new w _, Nat.le_refl _, by unfold maxLen; omega, rfl, rfl⟩⟩

set_option maxHeartbeats 400000 in
theorem onePart_any (w : World) (z : Int) (fs : List (Nat → Bool)) (f : Nat → Bool) (hf : setOf fs z = f) :
    Calls Try.prog 40 #[.int .i64 z] w fun e w' => ∃ v, e = .returned v ∧ PartAt w' v fs (oneN f) ∧ Below w.heap.size w w' := by
  have HF := hide hf
  clear hf
  go_enter Try.func40, Try.ntmps40
  go_wp2
  refine bodyPost_ret (v := .agg #[.bool false, .int .i64 1, .int .i64 1, .slice (some ⟨w.heap.size + 1, 0, none⟩) 1 1, .slice (some ⟨w.heap.size + 2, 0, none⟩) 1 1]) (by simp [results, Try.results40, go_sem]) rfl ?_
  refine ⟨_, rfl, ⟨_, _, [z], rfl, ?_, ?_, ?_⟩, ?_⟩
  · exact (cells_made 0 (Nat.zero_le _) (by simp)).alloc _
  · exact cells_made z (Nat.zero_le _) (by simp)
  · simp [oneN, unhide HF]
  · exact ((((Below.refl _ _).alloc (Nat.le_refl _) _).alloc (by simp) _).alloc (by simp; omega) _)

set_option maxHeartbeats 400000 in
theorem orEmpty_any (w : World) (v : Value) (fs : List (Nat → Bool)) (p : Part) (h : PartAt w v fs p) :
    Calls Try.prog 61 #[v] w fun e w' => ∃ v, e = .returned v ∧ PartAt w' v fs (orEmptyN p) ∧ Below w.heap.size w w' := by
  obtain ⟨nv, sv, zs, rfl, h2, h3, h4⟩ := h
  obtain ⟨na, nc, rfl⟩ := h2.form
  obtain ⟨sa, sc, rfl⟩ := h3.form
  have H2 := hide h2
  have H3 := hide h3
  clear h2 h3
  go_enter Try.func61, Try.ntmps61
  go_wp2
  refine bodyPost_ret (v := .agg #[.bool true, .int .i64 (p.first : Int), .int .i64 (p.last : Int), .slice na p.next.length nc, .slice sa zs.length sc]) (by simp [results, Try.results61, go_sem]) rfl ?_
  refine ⟨_, rfl, ⟨_, _, zs, rfl, ?_, ?_, h4⟩, ?_⟩
  · exact NRow.below (unhide H2) (((Below.refl _ _).alloc (Nat.le_refl _) _).alloc (by simp) _)
  · exact ZRow.below (unhide H3) (((Below.refl _ _).alloc (Nat.le_refl _) _).alloc (by simp) _)
  · exact (((Below.refl _ _).alloc (Nat.le_refl _) _).alloc (by simp) _)

/-- A part whose numbers are not too great. -/
def Part.Small (p : Part) : Prop := p.next.length ≤ 50 ∧ p.first < top ∧ p.last < top ∧ ∀ x ∈ p.next, x < top
theorem Part.Ok.small {p : Part} (h : p.Ok) (hl : p.next.length ≤ 50) : p.Small := by
  have e : 2 ^ p.next.length ≤ top := Nat.pow_le_pow_right (n := 2) (by omega) (show p.next.length ≤ 60 by omega)
  exact ⟨hl, Nat.lt_of_lt_of_le h.2.1 e, Nat.lt_of_lt_of_le h.2.2.1 e, fun x hx => Nat.lt_of_lt_of_le (h.2.2.2 x hx) e⟩

theorem NRow.set {w : World} {B b : Nat} {v : Value} {xs : List Nat} (h : NRow w B v xs) (hb : b < B) (o : Nat) (u : Value) : NRow (w.setCell ⟨b, o, none⟩ u) B v xs := ownsRow_setCell_below h hb u
theorem ZRow.set {w : World} {B b : Nat} {v : Value} {xs : List Int} (h : ZRow w B v xs) (hb : b < B) (o : Nat) (u : Value) : ZRow (w.setCell ⟨b, o, none⟩ u) B v xs := ownsRow_setCell_below h hb u
theorem part_cells {w : World} {b : Nat} {v0 v1 v2 v3 v4 : Value} {e : TypeId} (h : w.heap[b]? = some (.cells #[v0, v1, v2, v3, v4] e (0, 0))) :
    w.cell? ⟨b, 0, none⟩ = some v0 ∧ w.cell? ⟨b, 1, none⟩ = some v1 ∧ w.cell? ⟨b, 2, none⟩ = some v2 ∧ w.cell? ⟨b, 3, none⟩ = some v3 ∧ w.cell? ⟨b, 4, none⟩ = some v4 :=
  ⟨by rw [cell_of_row _ _ _ _ _ _ h]; rfl, by rw [cell_of_row _ _ _ _ _ _ h]; rfl, by rw [cell_of_row _ _ _ _ _ _ h]; rfl, by rw [cell_of_row _ _ _ _ _ _ h]; rfl, by rw [cell_of_row _ _ _ _ _ _ h]; rfl⟩
theorem part_free {w : World} {b : Nat} {cs : Array Value} {e : TypeId} (h : w.heap[b]? = some (.cells cs e (0, 0))) :
    w.frozen? ⟨b, 0, none⟩ = false ∧ w.frozen? ⟨b, 1, none⟩ = false ∧ w.frozen? ⟨b, 2, none⟩ = false ∧ w.frozen? ⟨b, 3, none⟩ = false ∧ w.frozen? ⟨b, 4, none⟩ = false :=
  ⟨frozen_of_row _ _ _ _ _ h, frozen_of_row _ _ _ _ _ h, frozen_of_row _ _ _ _ _ h, frozen_of_row _ _ _ _ _ h, frozen_of_row _ _ _ _ _ h⟩

set_option maxHeartbeats 400000 in
theorem again_any (w : World) (v : Value) (fs : List (Nat → Bool)) (p : Part) (h : PartAt w v fs p) (hs : p.Small) :
    Calls Try.prog 62 #[v] w fun e w' => ∃ v, e = .returned v ∧ PartAt w' v fs (againN p) ∧ Below w.heap.size w w' := by
  obtain ⟨nv, sv, zs, rfl, h2, h3, h4⟩ := h
  obtain ⟨na, nc, rfl⟩ := h2.form
  obtain ⟨sa, sc, rfl⟩ := h3.form
  have hb : Below w.heap.size w ((w.alloc (Obj.cells #[.bool p.empty, .int .i64 (p.first : Int), .int .i64 (p.last : Int), .slice na p.next.length nc, .slice sa zs.length sc] 80)).alloc (Obj.cells #[.bool false, .int .i64 0, .int .i64 0, .slice none 0 0, .slice none 0 0] 80)) :=
    ((Below.refl _ _).alloc (Nat.le_refl _) _).alloc (by simp) _
  have HL := hide (link_any _ _ _ p.last p.first (h2.below hb) hs.1 hs.2.2.2 hs.2.2.1 hs.2.1)
  have hbx := heap_alloc2_old w (Obj.cells #[.bool p.empty, .int .i64 (p.first : Int), .int .i64 (p.last : Int), .slice na p.next.length nc, .slice sa zs.length sc] 80) (Obj.cells #[.bool false, .int .i64 0, .int .i64 0, .slice none 0 0, .slice none 0 0] 80)
  have hby := heap_alloc_new (w.alloc (Obj.cells #[.bool p.empty, .int .i64 (p.first : Int), .int .i64 (p.last : Int), .slice na p.next.length nc, .slice sa zs.length sc] 80)) (Obj.cells #[.bool false, .int .i64 0, .int .i64 0, .slice none 0 0, .slice none 0 0] 80)
  have hsz : (w.alloc (Obj.cells #[.bool p.empty, .int .i64 (p.first : Int), .int .i64 (p.last : Int), .slice na p.next.length nc, .slice sa zs.length sc] 80)).heap.size = w.heap.size + 1 := by simp
  rw [hsz] at hby
  have HX := hide hbx
  have HY := hide hby
  have HB := hide hb
  have H3 := hide h3
  clear h2 h3 hb hs hbx hby hsz
  go_enter Try.func62, Try.ntmps62
  go_wp2_with fail
  refine (unhide HL).mono ?_
  rintro e w1 ⟨v', rfl, hv, hw1⟩
  have hx := (hw1.block w.heap.size (by simp; omega)).trans (unhide HX)
  have hy := (hw1.block (w.heap.size + 1) (by simp)).trans (unhide HY)
  obtain ⟨x0, x1, x2, x3, x4⟩ := part_cells hx
  obtain ⟨u0, u1, u2, u3, u4⟩ := part_free hx
  obtain ⟨y0, y1, y2, y3, y4⟩ := part_cells hy
  obtain ⟨z0, z1, z2, z3, z4⟩ := part_free hy
  obtain ⟨va, vc, rfl⟩ := hv.form
  have hv2 : NRow w1 (w.heap.size + 2) _ _ := ownsRow_less hv (by simp)
  have HV := hide hv2
  have HW := hide ((unhide HB).trans (hw1.mono (unhide HB).size))
  clear hx hy hv hv2 hw1 HX HY
  go_wp2
  refine bodyPost_ret (v := .agg #[.bool p.empty, .int .i64 (p.first : Int), .int .i64 (p.last : Int), .slice va (linkN p.next p.last p.first).length vc, .slice sa zs.length sc]) (by simp [results, Try.results62, go_sem, *]) rfl ?_
  have HF : ∀ u0 u1 u2 u3 u4 u5, Below w.heap.size w ((((((w1.setCell ⟨w.heap.size, 3, none⟩ u0).setCell ⟨w.heap.size + 1, 0, none⟩ u1).setCell ⟨w.heap.size + 1, 1, none⟩ u2).setCell ⟨w.heap.size + 1, 2, none⟩ u3).setCell ⟨w.heap.size + 1, 3, none⟩ u4).setCell ⟨w.heap.size + 1, 4, none⟩ u5) :=
    fun _ _ _ _ _ _ => ((((((unhide HW).setCell (by simp) _).setCell (by simp) _).setCell (by simp) _).setCell (by simp) _).setCell (by simp) _).setCell (by simp) _
  refine ⟨_, rfl, ⟨_, _, zs, rfl, ?_, ZRow.below (unhide H3) (HF _ _ _ _ _ _), h4⟩, HF _ _ _ _ _ _⟩
  exact ((((((((unhide HV).set (by omega) _ _).set (by omega) _ _).set (by omega) _ _).set (by omega) _ _).set (by omega) _ _).set (by omega) _ _)).zero

end Go.Proofs.Ytobfpgoepaeknaa
