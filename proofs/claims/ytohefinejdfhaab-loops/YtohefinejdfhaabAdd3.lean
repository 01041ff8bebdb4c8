/-
  The reader of patterns: addSet.
-/
import Derived.Test.YtohefinejdfhaabAdd2
namespace Go.Proofs.Ytohefinejdfhaab
open Go.RowKit

theorem wp_load_set (w : World) (f : Nat → Bool) (d : Option Tmp) (x : Operand) (ty : TypeId) (pos : String) (af : Array Edge) (gd : Option (Nat × Bool)) (a : Act) (K : Act → World → Prop) (Q : Exit → Act → World → Prop)
    (hx : a.eval x = .pointer (some ⟨w.heap.size, 0, none⟩)) :
    Oper.wp Try.prog { dst := d, op := .load 109 x, type := ty, pos := pos, after := af, guard := gd } a (w.alloc (Obj.cells (setA f) 109)).drew K Q = K (a.put d (.agg (setA f))) (w.alloc (Obj.cells (setA f) 109)).drew := by
  unfold Oper.wp execOp
  simp only [hx, Sem.run_bind, Sem.run_pure, Result.andThen_ok, load_set]
  rfl

theorem wp_build_set (w : World) (f : Nat → Bool) (d : Option Tmp) (x : Operand) (ty : TypeId) (pos : String) (af : Array Edge) (gd : Option (Nat × Bool)) (a : Act) (K : Act → World → Prop) (Q : Exit → Act → World → Prop)
    (hx : a.eval x = .agg (setA f)) :
    Oper.wp Try.prog { dst := d, op := .buildSlice 68 1 #[(0, x)], type := ty, pos := pos, after := af, guard := gd } a (w.alloc (Obj.cells (setA f) 109)).drew K Q = K (a.put d (.slice (some ⟨w.heap.size + 1, 0, none⟩) 1 1)) (((w.alloc (Obj.cells (setA f) 109)).alloc (Obj.cells (setA f) 109)).drew) := by
  have hb := build_set (w.alloc (Obj.cells (setA f) 109)).drew f
  have hz : (w.alloc (Obj.cells (setA f) 109)).drew.heap.size = w.heap.size + 1 := by simp
  rw [hz] at hb
  unfold Oper.wp execOp
  simp only [List.map_toArray, List.map_cons, List.map_nil, hx, Sem.run_bind, Sem.run_pure, Result.andThen_ok, hb]
  rfl

attribute [local go_sem ↓] wp_load_set wp_build_set

theorem cells_agg (cs : Array Value) : (Value.agg cs).cells = cs := rfl
theorem zsz : (Value.agg (setA fun _ => false)).cells.size = 256 := by rw [cells_agg, size_setA]
theorem pos256 : 0 < 256 := by omega
theorem len_setA (f : Nat → Bool) : (setA f).toList.length = 1 * 256 := by rw [Array.length_toList, size_setA]

theorem setA_toList_one (f : Nat → Bool) : ∀ u ∈ (setA f).toList, u.oneCell' = true := by
  intro u hu
  have := Array.all_eq_true_iff_forall_mem.1 (setA_one f) u (by simpa using hu)
  exact this

theorem addSet_fin {w W w' : World} {b : Nat} {t : ByteArray} {s : S1} {nv sv v' : Value} {ns : List Nd} {fs : List (Nat → Bool)} {f : Nat → Bool} (hb : b < w.heap.size) (hW : Below b w W)
    (h1 : Rd1 W b t s nv sv) (h2 : W.ownsRow (b + 1) 157 6 nv ns.length (nodeCells ns)) (h3 : W.ownsRow (b + 1) 109 256 sv fs.length (setsCells fs))
    (hg : W.grownBy w' sv.ownBlock) (ho : w'.ownsRow (b + 1) 109 256 v' (fs.length + 1) (setsCells fs ++ (setA f).toList)) :
    Post2 w (w'.setCell ⟨b, 4, none⟩ v') b t s ns (fs ++ [f]) := by
  have hsz := hW.size
  refine ⟨(hW.trans (below_grown hg (by omega) (fun k hk => by have := (h3.lt k hk).1; omega))).setCell (Nat.le_refl _) _, nv, v', setSets (h1.kept hg (own_ne h3)), ?_, ?_⟩
  · exact ownsRow_setCell_below (h2.kept hg (rows_apart (by decide) h2 h3)) (by simp) _
  · refine ownsRow_setCell_below ?_ (by simp) _
    rw [setsCells_snoc]
    simpa using ho

set_option maxHeartbeats 400000 in
theorem addSet_any (w : World) (b : Nat) (t : ByteArray) (s : S1) (ns : List Nd) (fs : List (Nat → Bool)) (f : Nat → Bool) (h : Rd2 w b t s ns fs) (hn : ns.length ≤ 1000) (hn' : fs.length ≤ 1000) :
    Calls Try.prog 151 #[.pointer (some ⟨b, 0, none⟩), .agg (setA f)] w fun e w' =>
      e = .returned (.int .i64 (ns.length : Int)) ∧ Post2 w w' b t s (ns ++ [⟨1, 0, 0, 0, 0, (fs.length : Int)⟩]) (fs ++ [f]) := by
  obtain ⟨nv, sv, h1, h2, h3⟩ := h
  obtain ⟨c0, c1, c2, c3, c4⟩ := h1.cells
  obtain ⟨f1, f2, f3, f4⟩ := h1.unfrozen
  obtain ⟨i, i0, i1, i2, i3⟩ := info_of info84
  have hbl := h1.lt
  have H2 := hide ((h2.alloc (Obj.cells (setA f) 109)).alloc (Obj.cells (setA f) 109))
  have H3 := hide ((h3.alloc (Obj.cells (setA f) 109)).alloc (Obj.cells (setA f) 109))
  have HC : Hid (∀ j u, (setA f).toList[j]? = some u → ((w.alloc (Obj.cells (setA f) 109)).alloc (Obj.cells (setA f) 109)).cell? ((⟨w.heap.size + 1, 0, none⟩ : Addr).add j) = some u) := by
    have := cells_new (w.alloc (Obj.cells (setA f) 109)) (setA f).toList 109
    simp only [Array.toArray_toList, World.size_alloc] at this
    exact this
  have H1 := hide (((Post1.refl h1).alloc (Obj.cells (setA f) 109)).alloc (Obj.cells (setA f) 109))
  have HI := hide (And.intro i0 (And.intro i1 (And.intro i2 i3)))
  have HN := hide hn
  have HN' := hide hn'
  have HO := hide (own_ne h3)
  have hL : (fs.length : Int) ≤ 1000 := by omega
  clear i0 i1 i2 i3 h1 h2 h3 hn hn'
  go_enter Try.func151, Try.ntmps151
  go_wp2
  go_region_law (refine step_append_own rfl (.tmp 10) (.tmp 12) 68 rfl (b + 1) 109 i (.agg (setA fun _ => false)) 256 256 Try.underlying68 (unhide HI).1 (unhide HI).2.1 (unhide HI).2.2.1 (unhide HI).2.2.2 zsz pos256 sv fs.length (setsCells fs) (by simp [Act.eval]) (by exact unhide H3) ⟨w.heap.size + 1, 0, none⟩ 1 1 (setA f).toList (by simp [Act.eval]) (len_setA f) (by exact unhide HC) (setA_toList_one f) (by have := unhide HN'; unfold maxLen; omega) (by have := unhide HN'; omega) (by simp; omega) ?_; intro v' w' ho hg'; have hr' := Rd1.kept (h := by exact (unhide H1).2) hg' (unhide HO); obtain ⟨d0, d1, d2, d3, d4⟩ := hr'.cells; obtain ⟨g1, g2, g3, g4⟩ := hr'.unfrozen; obtain ⟨g, cap, hv⟩ := own_form ho; subst hv; have HG := hide hg'; have HO' := hide ho; have HR' := hide hr'; clear hg' ho hr')
  all_goals
    have P3 := addSet_fin hbl (by exact (((Below.refl b w).alloc (by omega) _).alloc (by simp; omega) _).drew) (by exact (unhide H1).2) (by exact unhide H2) (by exact unhide H3) (unhide HG) (unhide HO')
    have HP3 := hide P3
    clear P3
    go_wp2_with fail
    refine (add_any _ b t s ns (fs ++ [f]) ⟨1, 0, 0, 0, 0, (fs.length : Int)⟩ (unhide HP3).2 (unhide HN)).mono ?_
    rintro e w5 ⟨rfl, hw5⟩
    go_wp2
    go_ret
    exact ⟨rfl, (unhide HP3).1.trans hw5.1, hw5.2⟩

end Go.Proofs.Ytohefinejdfhaab
