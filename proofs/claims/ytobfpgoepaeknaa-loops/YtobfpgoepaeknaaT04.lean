/-
  The reader of patterns: a set is laid behind the others, and a node for it.
  The reader of patterns: addSet.
-/
import Derived.Test.YtobfpgoepaeknaaT03
namespace Go.Proofs.Ytobfpgoepaeknaa
open Go.RowKit

theorem info84 : (Try.prog.info? 85).map (fun i => (i.zero, i.size, i.bytes)) = some (some (.agg (setA fun _ => false)), 256, 256) := by kernel_rfl

theorem load_set (w : World) (f : Nat → Bool) :
    (Instr.loadAt 85 (.pointer (some ⟨w.heap.size, 0, none⟩))).run Try.prog (w.alloc (Obj.cells (setA f) 85)).drew = .ok (.agg (setA f)) (w.alloc (Obj.cells (setA f) 85)).drew := by
  have := run_loadVar_row (P := Try.prog) (w.alloc (Obj.cells (setA f) 85)).drew w.heap.size 85 85 (setA f) (0, 0) _ (heap_alloc_new w _) Try.underlying85 rfl (by rw [size_setA]; kernel_rfl)
  simp only [Instr.loadAt, Instr.sureAddr, Sem.run_bind, Sem.run_pure, Result.andThen_ok]
  exact this

theorem lay_from : ∀ (l : List Value) (k : Nat) (a : Array Value), k + l.length ≤ a.size →
    ((l.zipIdx k).foldl (fun (acc : Array Value) (x : Value × Nat) => acc.setIfInBounds (0 + x.2) x.1) a) = (a.toList.take k ++ l ++ a.toList.drop (k + l.length)).toArray
  | [], k, a, _ => by simp
  | v :: l, k, a, h => by
    have hlt : k < a.size := by simp at h; omega
    rw [List.zipIdx_cons, List.foldl_cons, lay_from l (k + 1) _ (by simp at h ⊢; omega)]
    apply Array.toList_inj.1
    simp only [Array.toList_setIfInBounds, Nat.zero_add]
    apply List.ext_getElem?
    intro j
    simp only [List.getElem?_append, List.length_take, List.length_set, Array.length_toList, List.length_append, List.length_cons, List.getElem?_take, List.getElem?_set, List.getElem?_drop, List.getElem?_cons]
    by_cases h1 : j < k
    · simp [h1, show j < k + 1 by omega, show min (k + 1) a.size = k + 1 by omega, show min k a.size = k by omega, show ¬ k = j by omega, show j < k + 1 + l.length by omega, show j < k + (l.length + 1) by omega]
    · by_cases h2 : j = k
      · subst h2
        simp [show min (j + 1) a.size = j + 1 by omega, show min j a.size = j by omega, hlt, show j < j + 1 + l.length by omega]
      · by_cases h3 : j < k + (l.length + 1)
        · simp [h1, h3, show ¬ j < k + 1 by omega, show min (k + 1) a.size = k + 1 by omega, show min k a.size = k by omega, show j < k + 1 + l.length by omega, show ¬ j - k = 0 by omega, show j - (k + 1) = j - k - 1 by omega]
        · simp [h3, show min (k + 1) a.size = k + 1 by omega, show min k a.size = k by omega, show ¬ j < k + 1 + l.length by omega]
          rw [if_neg (by omega)]
          congr 1
          omega

theorem lay_all (cs a : Array Value) (h : cs.size = a.size) :
    (cs.zipIdx.foldl (fun (acc : Array Value) (x : Value × Nat) => acc.setIfInBounds (0 + x.2) x.1) a) = cs := by
  rw [← Array.foldl_toList, Array.toList_zipIdx, lay_from cs.toList 0 a (by simp; omega)]
  have e : List.drop (0 + cs.toList.length) a.toList = [] := List.drop_eq_nil_of_le (by simp; omega)
  rw [e]
  simp

theorem fill_one (c cs : Array Value) (n : Nat) (hc : c.size = n) (hs : cs.size = n) : Instr.fill (fun i => some (i * n, n)) c [(0, Value.agg cs)] = some cs := by
  subst hc
  simp only [Instr.fill, Value.cells, Nat.zero_mul]
  rw [lay_all cs c hs]
  simp [hs]

theorem build_one {P : Program} (w : World) (t e : TypeId) (ie : TypeInfo) (z : Value) (cs : Array Value) (hu : P.underlying t = some (.slice e)) (hie : P.info? e = some ie) (hz : ie.zero = some z)
    (hs : cs.size = ie.size) (hsmall : ¬ 1 * ie.size > 2 ^ 24) (hpos : ¬ 1 * ie.size = 0) :
    (Instr.buildSlice t 1 #[(0, .agg cs)]).run P w = .ok (.slice (some ⟨w.heap.size, 0, none⟩) 1 1) (w.alloc (Obj.cells cs e)) := by
  have hf := fill_one ((Array.range (1 * ie.size)).map (z.cells[· % z.cells.size]!)) cs ie.size (by simp) hs
  simp [Instr.buildSlice, run_underlying hu, sizeOf, typeInfo, zeroValue, hie, hz, newRow] at hf ⊢
  rw [if_neg (by omega), if_neg (by omega)]
  simp [hf]

theorem build_set (w : World) (f : Nat → Bool) :
    (Instr.buildSlice 48 1 #[(0, .agg (setA f))]).run Try.prog w = .ok (.slice (some ⟨w.heap.size, 0, none⟩) 1 1) (w.alloc (Obj.cells (setA f) 85)) := by
  obtain ⟨i, i0, i1, i2, i3⟩ := info_of info84
  exact build_one w _ _ i _ (setA f) Try.underlying48 i0 i1 (by rw [size_setA, i2]) (by rw [i2]; decide) (by rw [i2]; decide)

end Go.Proofs.Ytobfpgoepaeknaa
namespace Go.Proofs.Ytobfpgoepaeknaa
open Go.RowKit

theorem wp_load_set (w : World) (f : Nat → Bool) (d : Option Tmp) (x : Operand) (ty : TypeId) (pos : String) (af : Array Edge) (gd : Option (Nat × Bool)) (a : Act) (K : Act → World → Prop) (Q : Exit → Act → World → Prop)
    (hx : a.eval x = .pointer (some ⟨w.heap.size, 0, none⟩)) :
    Oper.wp Try.prog { dst := d, op := .load 85 x, type := ty, pos := pos, after := af, guard := gd } a (w.alloc (Obj.cells (setA f) 85)).drew K Q = K (a.put d (.agg (setA f))) (w.alloc (Obj.cells (setA f) 85)).drew := by
  unfold Oper.wp execOp
  simp only [hx, Sem.run_bind, Sem.run_pure, Result.andThen_ok, load_set]
  rfl

theorem wp_build_set (w : World) (f : Nat → Bool) (d : Option Tmp) (x : Operand) (ty : TypeId) (pos : String) (af : Array Edge) (gd : Option (Nat × Bool)) (a : Act) (K : Act → World → Prop) (Q : Exit → Act → World → Prop)
    (hx : a.eval x = .agg (setA f)) :
    Oper.wp Try.prog { dst := d, op := .buildSlice 48 1 #[(0, x)], type := ty, pos := pos, after := af, guard := gd } a (w.alloc (Obj.cells (setA f) 85)).drew K Q = K (a.put d (.slice (some ⟨w.heap.size + 1, 0, none⟩) 1 1)) (((w.alloc (Obj.cells (setA f) 85)).alloc (Obj.cells (setA f) 85)).drew) := by
  have hb := build_set (w.alloc (Obj.cells (setA f) 85)).drew f
  have hz : (w.alloc (Obj.cells (setA f) 85)).drew.heap.size = w.heap.size + 1 := by simp
  rw [hz] at hb
  unfold Oper.wp execOp
  simp only [List.map_toArray, List.map_cons, List.map_nil, hx, Sem.run_bind, Sem.run_pure, Result.andThen_ok, hb]
  rfl

attribute [local go_sem ↓] wp_load_set wp_build_set

theorem cells_agg (cs : Array Value) : (Value.agg cs).cells = cs := rfl
theorem zsz : (Value.agg (setA fun _ => false)).cells.size = 256 := by rw [cells_agg, size_setA]
theorem pos256 : 0 < 256 := by omega
theorem len_setA (f : Nat → Bool) : (setA f).toList.length = 1 * 256 := by rw [Array.length_toList, size_setA]

theorem setA_toList_one (f : Nat → Bool) : ∀ u ∈ (setA f).toList, u.oneCell' = true := by
  intro u hu
  have := Array.all_eq_true_iff_forall_mem.1 (setA_one f) u (by simpa using hu)
  exact this

theorem addSet_fin {w W w' : World} {b : Nat} {t : ByteArray} {s : S1} {nv sv v' : Value} {ns : List Nd} {fs : List (Nat → Bool)} {f : Nat → Bool} (hb : b < w.heap.size) (hW : Below b w W)
    (h1 : Rd1 W b t s nv sv) (h2 : W.ownsRow (b + 1) 109 6 nv ns.length (nodeCells ns)) (h3 : W.ownsRow (b + 1) 85 256 sv fs.length (setsCells fs))
    (hg : W.grownBy w' sv.ownBlock) (ho : w'.ownsRow (b + 1) 85 256 v' (fs.length + 1) (setsCells fs ++ (setA f).toList)) :
    Post2 w (w'.setCell ⟨b, 4, none⟩ v') b t s ns (fs ++ [f]) := by
  have hsz := hW.size
  refine ⟨(hW.trans (below_grown hg (by omega) (fun k hk => by have := (h3.lt k hk).1; omega))).setCell (Nat.le_refl _) _, nv, v', setSets (h1.kept hg (own_ne h3)), ?_, ?_⟩
  · exact ownsRow_setCell_below (h2.kept hg (rows_apart (by decide) h2 h3)) (by simp) _
  · refine ownsRow_setCell_below ?_ (by simp) _
    rw [setsCells_snoc]
    simpa using ho

set_option maxHeartbeats 400000 in
theorem addSet_any (w : World) (b : Nat) (t : ByteArray) (s : S1) (ns : List Nd) (fs : List (Nat → Bool)) (f : Nat → Bool) (h : Rd2 w b t s ns fs) (hn : ns.length ≤ 1000) (hn' : fs.length ≤ 1000) :
    Calls Try.prog 104 #[.pointer (some ⟨b, 0, none⟩), .agg (setA f)] w fun e w' =>
      e = .returned (.int .i64 (ns.length : Int)) ∧ Post2 w w' b t s (ns ++ [⟨1, 0, 0, 0, 0, (fs.length : Int)⟩]) (fs ++ [f]) := by
  obtain ⟨nv, sv, h1, h2, h3⟩ := h
  obtain ⟨c0, c1, c2, c3, c4⟩ := h1.cells
  obtain ⟨f1, f2, f3, f4⟩ := h1.unfrozen
  obtain ⟨i, i0, i1, i2, i3⟩ := info_of info84
  have hbl := h1.lt
  have H2 := hide ((h2.alloc (Obj.cells (setA f) 85)).alloc (Obj.cells (setA f) 85))
  have H3 := hide ((h3.alloc (Obj.cells (setA f) 85)).alloc (Obj.cells (setA f) 85))
  have HC : Hid (∀ j u, (setA f).toList[j]? = some u → ((w.alloc (Obj.cells (setA f) 85)).alloc (Obj.cells (setA f) 85)).cell? ((⟨w.heap.size + 1, 0, none⟩ : Addr).add j) = some u) := by
    have := cells_new (w.alloc (Obj.cells (setA f) 85)) (setA f).toList 85
    simp only [Array.toArray_toList, World.size_alloc] at this
    exact this
  have H1 := hide (((Post1.refl h1).alloc (Obj.cells (setA f) 85)).alloc (Obj.cells (setA f) 85))
  have HI := hide (And.intro i0 (And.intro i1 (And.intro i2 i3)))
  have HN := hide hn
  have HN' := hide hn'
  have HO := hide (own_ne h3)
  have hL : (fs.length : Int) ≤ 1000 := by omega
  clear i0 i1 i2 i3 h1 h2 h3 hn hn'
  go_enter Try.func104, Try.ntmps104
  go_wp2
  go_region_law (refine step_append_own rfl (.tmp 10) (.tmp 12) 48 rfl (b + 1) 85 i (.agg (setA fun _ => false)) 256 256 Try.underlying48 (unhide HI).1 (unhide HI).2.1 (unhide HI).2.2.1 (unhide HI).2.2.2 zsz pos256 sv fs.length (setsCells fs) (by simp [Act.eval]) (by exact unhide H3) ⟨w.heap.size + 1, 0, none⟩ 1 1 (setA f).toList (by simp [Act.eval]) (len_setA f) (by exact unhide HC) (setA_toList_one f) (by have := unhide HN'; unfold maxLen; omega) (by have := unhide HN'; omega) (by simp; omega) ?_; intro v' w' ho hg'; have hr' := Rd1.kept (h := by exact (unhide H1).2) hg' (unhide HO); obtain ⟨d0, d1, d2, d3, d4⟩ := hr'.cells; obtain ⟨g1, g2, g3, g4⟩ := hr'.unfrozen; obtain ⟨g, cap, hv⟩ := own_form ho; subst hv; have HG := hide hg'; have HO' := hide ho; have HR' := hide hr'; clear hg' ho hr')
  all_goals
    have P3 := addSet_fin hbl (by exact (((Below.refl b w).alloc (by omega) _).alloc (by simp; omega) _).drew) (by exact (unhide H1).2) (by exact unhide H2) (by exact unhide H3) (unhide HG) (unhide HO')
    have HP3 := hide P3
    clear P3
    go_wp2_with fail
    refine (add_any _ b t s ns (fs ++ [f]) ⟨1, 0, 0, 0, 0, (fs.length : Int)⟩ (unhide HP3).2 (unhide HN)).mono ?_
    rintro e w5 ⟨rfl, hw5⟩
    go_wp2
    go_ret
    exact ⟨rfl, (unhide HP3).1.trans hw5.1, hw5.2⟩

end Go.Proofs.Ytobfpgoepaeknaa
