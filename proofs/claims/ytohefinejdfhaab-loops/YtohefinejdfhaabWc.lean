/-
  Parts: onePart, orEmpty, again.
-/
import Derived.Test.YtohefinejdfhaabWb
import Derived.Deep.RegionHeld3
import Derived.Deep.AppendLies
import Derived.Deep.DrawnRows
namespace Go.Proofs.Ytohefinejdfhaab
open Go.RowKit

theorem cells_made {w : World} {B g : Nat} (x : Int) (hB : B ≤ g) (hg : w.heap.size = g) : (w.alloc (Obj.cells #[.int .i64 x] 3)).ownsRow B 3 1 (.slice (some ⟨g, 0, none⟩) 1 1) 1 [.int .i64 x] := by
  subst hg
  exact ⟨rfl, .inr ⟨w.heap.size, 1, #[.int .i64 x], rfl, hB, heap_alloc_new w _, Nat.le_refl _, by unfold maxLen; omega, rfl, rfl⟩⟩

set_option maxHeartbeats 400000 in
theorem onePart_any (w : World) (z : Int) (fs : List (Nat → Bool)) (f : Nat → Bool) (hf : setOf fs z = f) :
    Calls Try.prog 57 #[.int .i64 z] w fun e w' => ∃ v, e = .returned v ∧ PartAt w' v fs (oneN f) ∧ Below w.heap.size w w' := by
  have HF := hide hf
  clear hf
  go_enter Try.func57, Try.ntmps57
  go_wp2
  refine bodyPost_ret (v := .agg #[.bool false, .int .i64 1, .int .i64 1, .slice (some ⟨w.heap.size + 1, 0, none⟩) 1 1, .slice (some ⟨w.heap.size + 2, 0, none⟩) 1 1]) (by simp [results, Try.results57, go_sem]) rfl ?_
  refine ⟨_, rfl, ⟨_, _, [z], rfl, ?_, ?_, ?_⟩, ?_⟩
  · exact (cells_made 0 (Nat.zero_le _) (by simp)).alloc _
  · exact cells_made z (Nat.zero_le _) (by simp)
  · simp [oneN, unhide HF]
  · exact ((((Below.refl _ _).alloc (Nat.le_refl _) _).alloc (by simp) _).alloc (by simp; omega) _)

set_option maxHeartbeats 400000 in
theorem orEmpty_any (w : World) (v : Value) (fs : List (Nat → Bool)) (p : Part) (h : PartAt w v fs p) :
    Calls Try.prog 93 #[v] w fun e w' => ∃ v, e = .returned v ∧ PartAt w' v fs (orEmptyN p) ∧ Below w.heap.size w w' := by
  obtain ⟨nv, sv, zs, rfl, h2, h3, h4⟩ := h
  obtain ⟨na, nc, rfl⟩ := h2.form
  obtain ⟨sa, sc, rfl⟩ := h3.form
  have H2 := hide h2
  have H3 := hide h3
  clear h2 h3
  go_enter Try.func93, Try.ntmps93
  go_wp2
  refine bodyPost_ret (v := .agg #[.bool true, .int .i64 (p.first : Int), .int .i64 (p.last : Int), .slice na p.next.length nc, .slice sa zs.length sc]) (by simp [results, Try.results93, go_sem]) rfl ?_
  refine ⟨_, rfl, ⟨_, _, zs, rfl, ?_, ?_, h4⟩, ?_⟩
  · exact NRow.below (unhide H2) (((Below.refl _ _).alloc (Nat.le_refl _) _).alloc (by simp) _)
  · exact ZRow.below (unhide H3) (((Below.refl _ _).alloc (Nat.le_refl _) _).alloc (by simp) _)
  · exact (((Below.refl _ _).alloc (Nat.le_refl _) _).alloc (by simp) _)

/-- A part whose numbers are not too great. -/
def Part.Small (p : Part) : Prop := p.next.length ≤ 50 ∧ p.first < top ∧ p.last < top ∧ ∀ x ∈ p.next, x < top
theorem Part.Ok.small {p : Part} (h : p.Ok) (hl : p.next.length ≤ 50) : p.Small := by
  have e : 2 ^ p.next.length ≤ top := Nat.pow_le_pow_right (n := 2) (by omega) (show p.next.length ≤ 60 by omega)
  exact ⟨hl, Nat.lt_of_lt_of_le h.2.1 e, Nat.lt_of_lt_of_le h.2.2.1 e, fun x hx => Nat.lt_of_lt_of_le (h.2.2.2 x hx) e⟩

theorem NRow.set {w : World} {B b : Nat} {v : Value} {xs : List Nat} (h : NRow w B v xs) (hb : b < B) (o : Nat) (u : Value) : NRow (w.setCell ⟨b, o, none⟩ u) B v xs := ownsRow_setCell_below h hb u
theorem ZRow.set {w : World} {B b : Nat} {v : Value} {xs : List Int} (h : ZRow w B v xs) (hb : b < B) (o : Nat) (u : Value) : ZRow (w.setCell ⟨b, o, none⟩ u) B v xs := ownsRow_setCell_below h hb u
theorem part_cells {w : World} {b : Nat} {v0 v1 v2 v3 v4 : Value} {e : TypeId} (h : w.heap[b]? = some (.cells #[v0, v1, v2, v3, v4] e (0, 0))) :
    w.cell? ⟨b, 0, none⟩ = some v0 ∧ w.cell? ⟨b, 1, none⟩ = some v1 ∧ w.cell? ⟨b, 2, none⟩ = some v2 ∧ w.cell? ⟨b, 3, none⟩ = some v3 ∧ w.cell? ⟨b, 4, none⟩ = some v4 :=
  ⟨by rw [cell_of_row _ _ _ _ _ _ h]; rfl, by rw [cell_of_row _ _ _ _ _ _ h]; rfl, by rw [cell_of_row _ _ _ _ _ _ h]; rfl, by rw [cell_of_row _ _ _ _ _ _ h]; rfl, by rw [cell_of_row _ _ _ _ _ _ h]; rfl⟩
theorem part_free {w : World} {b : Nat} {cs : Array Value} {e : TypeId} (h : w.heap[b]? = some (.cells cs e (0, 0))) :
    w.frozen? ⟨b, 0, none⟩ = false ∧ w.frozen? ⟨b, 1, none⟩ = false ∧ w.frozen? ⟨b, 2, none⟩ = false ∧ w.frozen? ⟨b, 3, none⟩ = false ∧ w.frozen? ⟨b, 4, none⟩ = false :=
  ⟨frozen_of_row _ _ _ _ _ h, frozen_of_row _ _ _ _ _ h, frozen_of_row _ _ _ _ _ h, frozen_of_row _ _ _ _ _ h, frozen_of_row _ _ _ _ _ h⟩

set_option maxHeartbeats 400000 in
theorem again_any (w : World) (v : Value) (fs : List (Nat → Bool)) (p : Part) (h : PartAt w v fs p) (hs : p.Small) :
    Calls Try.prog 94 #[v] w fun e w' => ∃ v, e = .returned v ∧ PartAt w' v fs (againN p) ∧ Below w.heap.size w w' := by
  obtain ⟨nv, sv, zs, rfl, h2, h3, h4⟩ := h
  obtain ⟨na, nc, rfl⟩ := h2.form
  obtain ⟨sa, sc, rfl⟩ := h3.form
  have hb : Below w.heap.size w ((w.alloc (Obj.cells #[.bool p.empty, .int .i64 (p.first : Int), .int .i64 (p.last : Int), .slice na p.next.length nc, .slice sa zs.length sc] 104)).alloc (Obj.cells #[.bool false, .int .i64 0, .int .i64 0, .slice none 0 0, .slice none 0 0] 104)) :=
    ((Below.refl _ _).alloc (Nat.le_refl _) _).alloc (by simp) _
  have HL := hide (link_any _ _ _ p.last p.first (h2.below hb) hs.1 hs.2.2.2 hs.2.2.1 hs.2.1)
  have hbx := heap_alloc2_old w (Obj.cells #[.bool p.empty, .int .i64 (p.first : Int), .int .i64 (p.last : Int), .slice na p.next.length nc, .slice sa zs.length sc] 104) (Obj.cells #[.bool false, .int .i64 0, .int .i64 0, .slice none 0 0, .slice none 0 0] 104)
  have hby := heap_alloc_new (w.alloc (Obj.cells #[.bool p.empty, .int .i64 (p.first : Int), .int .i64 (p.last : Int), .slice na p.next.length nc, .slice sa zs.length sc] 104)) (Obj.cells #[.bool false, .int .i64 0, .int .i64 0, .slice none 0 0, .slice none 0 0] 104)
  have hsz : (w.alloc (Obj.cells #[.bool p.empty, .int .i64 (p.first : Int), .int .i64 (p.last : Int), .slice na p.next.length nc, .slice sa zs.length sc] 104)).heap.size = w.heap.size + 1 := by simp
  rw [hsz] at hby
  have HX := hide hbx
  have HY := hide hby
  have HB := hide hb
  have H3 := hide h3
  clear h2 h3 hb hs hbx hby hsz
  go_enter Try.func94, Try.ntmps94
  go_wp2_with fail
  refine (unhide HL).mono ?_
  rintro e w1 ⟨v', rfl, hv, hw1⟩
  have hx := (hw1.block w.heap.size (by simp; omega)).trans (unhide HX)
  have hy := (hw1.block (w.heap.size + 1) (by simp)).trans (unhide HY)
  obtain ⟨x0, x1, x2, x3, x4⟩ := part_cells hx
  obtain ⟨u0, u1, u2, u3, u4⟩ := part_free hx
  obtain ⟨y0, y1, y2, y3, y4⟩ := part_cells hy
  obtain ⟨z0, z1, z2, z3, z4⟩ := part_free hy
  obtain ⟨va, vc, rfl⟩ := hv.form
  have hv2 : NRow w1 (w.heap.size + 2) _ _ := ownsRow_less hv (by simp)
  have HV := hide hv2
  have HW := hide ((unhide HB).trans (hw1.mono (unhide HB).size))
  clear hx hy hv hv2 hw1 HX HY
  go_wp2
  refine bodyPost_ret (v := .agg #[.bool p.empty, .int .i64 (p.first : Int), .int .i64 (p.last : Int), .slice va (linkN p.next p.last p.first).length vc, .slice sa zs.length sc]) (by simp [results, Try.results94, go_sem, *]) rfl ?_
  have HF : ∀ u0 u1 u2 u3 u4 u5, Below w.heap.size w ((((((w1.setCell ⟨w.heap.size, 3, none⟩ u0).setCell ⟨w.heap.size + 1, 0, none⟩ u1).setCell ⟨w.heap.size + 1, 1, none⟩ u2).setCell ⟨w.heap.size + 1, 2, none⟩ u3).setCell ⟨w.heap.size + 1, 3, none⟩ u4).setCell ⟨w.heap.size + 1, 4, none⟩ u5) :=
    fun _ _ _ _ _ _ => ((((((unhide HW).setCell (by simp) _).setCell (by simp) _).setCell (by simp) _).setCell (by simp) _).setCell (by simp) _).setCell (by simp) _
  refine ⟨_, rfl, ⟨_, _, zs, rfl, ?_, ZRow.below (unhide H3) (HF _ _ _ _ _ _), h4⟩, HF _ _ _ _ _ _⟩
  exact ((((((((unhide HV).set (by omega) _ _).set (by omega) _ _).set (by omega) _ _).set (by omega) _ _).set (by omega) _ _).set (by omega) _ _)).zero

end Go.Proofs.Ytohefinejdfhaab
