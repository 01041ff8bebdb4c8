/-
  The reader of patterns: a node is laid behind the others.
  The reader of patterns: a set is laid behind the others, and a node for it.
  The reader of patterns: addSet.
-/
import Derived.Test.YtfooclcjehpcfaaGreatC2
import Derived.Deep.RegionLaw
namespace Go.Proofs.YtfooclcjehpcfaaGreat
open Go.RowKit

theorem step_append_own {P : Program} {ops : Array Oper} {o : Oper} {a : Act} {w : World} {K : Act → World → Prop} {Q : Exit → Act → World → Prop} {E : Prop}
    (hg : o.guard = none) (s x : Operand) (t : TypeId) (hop : o.op = Op.call { callee := Callee.builtin Builtin.append, args := #[s, x], argTypes := #[t, t] })
    (base : Nat) (e : TypeId) (i : TypeInfo) (z : Value) (size bytes : Nat) (h1 : P.underlying t = some (.slice e)) (h2 : P.info? e = some i) (h3 : i.zero = some z) (h4 : i.size = size) (h5 : i.bytes = bytes) (h6 : z.cells.size = size) (h7 : 0 < size)
    (v : Value) (n : Nat) (xs : List Value) (hs : a.eval s = v) (hown : w.ownsRow base e size v n xs)
    (ad : Addr) (m c : Nat) (news : List Value) (hx : a.eval x = .slice (some ad) m c) (hn : news.length = m * size) (hc : ∀ j u, news[j]? = some u → w.cell? (ad.add j) = some u) (h1c : ∀ u ∈ news, u.oneCell' = true)
    (b1 : n + m ≤ maxLen) (b2 : (n + m) * bytes ≤ 140737488355328) (hbase : base ≤ w.heap.size)
    (hK : ∀ v' w', w'.ownsRow base e size v' (n + m) (xs ++ news) → w.grownBy w' v.ownBlock → K (a.put o.dst v') w') :
    if Region.wanted o (yielded ops a.tmps) = true then Oper.wp P o a w K Q else E := by
  have hw : Region.wanted o (yielded ops a.tmps) = true := by simp [Region.wanted, hg]
  rw [if_pos hw]
  obtain ⟨v', w', hrun, r1, r2, _⟩ := run_append_own (P := P) w base t o.type e i z size bytes h1 h2 h3 h4 h5 h6 h7 v n xs hown ad m c news hn hc h1c b1 b2 hbase
  unfold Oper.wp
  simp [execOp, hop, resolve, invoke, builtin, hs, hx, hrun, Result.andThen]
  exact hK v' w' r1 r2

def ndCells (n : Nd) : List Value := [.int .i64 n.kind, .int .i64 n.left, .int .i64 n.right, .int .i64 n.low, .int .i64 n.high, .int .i64 n.set]
def nodeCells (l : List Nd) : List Value := l.flatMap ndCells
def setsCells (l : List (Nat → Bool)) : List Value := l.flatMap fun f => (setA f).toList

/-- Block b of w is a reader that has read these nodes and these sets. -/
def Rd2 (w : World) (b : Nat) (t : ByteArray) (s : S1) (ns : List Nd) (fs : List (Nat → Bool)) : Prop :=
  ∃ nv sv, Rd1 w b t s nv sv ∧ w.ownsRow (b + 1) 121 6 nv ns.length (nodeCells ns) ∧ w.ownsRow (b + 1) 90 256 sv fs.length (setsCells fs)
def Post2 (w w' : World) (b : Nat) (t : ByteArray) (s : S1) (ns : List Nd) (fs : List (Nat → Bool)) : Prop := Below b w w' ∧ Rd2 w' b t s ns fs

theorem info_of {P : Program} {t : TypeId} {z : Value} {n m : Nat} (h : (P.info? t).map (fun i => (i.zero, i.size, i.bytes)) = some (some z, n, m)) :
    ∃ i, P.info? t = some i ∧ i.zero = some z ∧ i.size = n ∧ i.bytes = m := by
  cases hi : P.info? t with
  | none => rw [hi] at h; cases h
  | some i =>
    rw [hi] at h
    simp only [Option.map_some, Option.some.injEq, Prod.mk.injEq] at h
    exact ⟨i, rfl, h.1, h.2.1, h.2.2⟩

theorem info95 : (Tryz.prog.info? 121).map (fun i => (i.zero, i.size, i.bytes)) = some (some (.agg #[.int .i64 0, .int .i64 0, .int .i64 0, .int .i64 0, .int .i64 0, .int .i64 0]), 6, 48) := by kernel_rfl

theorem rows_apart {w : World} {B B' e e' z z' : Nat} {v v' : Value} {n n' : Nat} {xs xs' : List Value} (hne : e ≠ e') (h : w.ownsRow B e z v n xs) (h' : w.ownsRow B' e' z' v' n' xs') :
    v.ownBlock = none ∨ v.ownBlock ≠ v'.ownBlock := by
  rcases h.2 with ⟨rfl, _⟩ | ⟨g, cap, cur, rfl, _, hg, _⟩
  · exact Or.inl rfl
  · rcases h'.2 with ⟨rfl, _⟩ | ⟨g', cap', cur', rfl, _, hg', _⟩
    · exact Or.inr (by simp [Value.ownBlock])
    · refine Or.inr ?_
      simp only [Value.ownBlock, ne_eq, Option.some.injEq]
      intro e1
      subst e1
      rw [hg] at hg'
      simp at hg'
      exact hne hg'.2

theorem ownsRow_drewN {w : World} {B e z : Nat} {v : Value} {n : Nat} {xs : List Value} (h : w.ownsRow B e z v n xs) (k : Nat) : (w.drewN k).ownsRow B e z v n xs := h

theorem own_ne {w : World} {b e z : Nat} {v : Value} {n : Nat} {xs : List Value} (h : w.ownsRow (b + 1) e z v n xs) : some b ≠ v.ownBlock := by
  intro e1
  have := (h.lt b e1.symm).1
  omega

theorem below_grown {b : Nat} {w w' : World} {row : Option Nat} (hg : w.grownBy w' row) (hB : b ≤ w.heap.size) (hr : ∀ k, row = some k → b ≤ k) : Below b w w' :=
  (Below.refl b w).grown hg hB hr

theorem setNodes {w : World} {b : Nat} {t : ByteArray} {s : S1} {nv nv' sv : Value} (h : Rd1 w b t s nv sv) : Rd1 (w.setCell ⟨b, 3, none⟩ nv') b t s nv' sv := by
  unfold Rd1 at h ⊢
  simp only [World.setCell, Array.getElem?_modify, if_pos, h]
  simp
theorem setSets {w : World} {b : Nat} {t : ByteArray} {s : S1} {nv sv sv' : Value} (h : Rd1 w b t s nv sv) : Rd1 (w.setCell ⟨b, 4, none⟩ sv') b t s nv sv' := by
  unfold Rd1 at h ⊢
  simp only [World.setCell, Array.getElem?_modify, if_pos, h]
  simp

theorem Rd1.kept {w w' : World} {b : Nat} {t : ByteArray} {s : S1} {nv sv : Value} {row : Option Nat} (h : Rd1 w b t s nv sv) (hg : w.grownBy w' row) (hne : some b ≠ row) : Rd1 w' b t s nv sv := by
  unfold Rd1; rw [hg.block b h.lt hne]; exact h

theorem ndCells_one (n : Nd) : ∀ u ∈ ndCells n, u.oneCell' = true := by
  intro u hu
  simp only [ndCells, List.mem_cons, List.not_mem_nil, or_false] at hu
  rcases hu with rfl | rfl | rfl | rfl | rfl | rfl <;> rfl

theorem cells_new (w : World) (cs : List Value) (e : TypeId) : ∀ j u, cs[j]? = some u → (w.alloc (.cells cs.toArray e)).cell? ((⟨w.heap.size, 0, none⟩ : Addr).add j) = some u := by
  intro j u hu
  have hadd : (⟨w.heap.size, 0, none⟩ : Addr).add j = ⟨w.heap.size, j, none⟩ := by unfold Addr.add; split <;> simp_all
  rw [hadd, cell_of_row _ _ _ _ _ _ (heap_alloc_new w _)]
  simpa using hu

theorem own_form {w : World} {B e z : Nat} {v : Value} {n : Nat} {xs : List Value} (h : w.ownsRow B e z v (n + 1) xs) : ∃ g cap, v = .slice (some ⟨g, 0, none⟩) (n + 1) cap := by
  rcases h.2 with ⟨_, h0⟩ | ⟨g, cap, cur, hv, _⟩
  · omega
  · exact ⟨g, cap, hv⟩

theorem nodeCells_snoc (ns : List Nd) (n : Nd) : nodeCells (ns ++ [n]) = nodeCells ns ++ ndCells n := by simp [nodeCells]
theorem setsCells_snoc (fs : List (Nat → Bool)) (f : Nat → Bool) : setsCells (fs ++ [f]) = setsCells fs ++ (setA f).toList := by simp [setsCells]

theorem add_fin {w W w' : World} {b : Nat} {t : ByteArray} {s : S1} {nv sv v' : Value} {ns : List Nd} {fs : List (Nat → Bool)} {n : Nd} (hb : b < w.heap.size) (hW : Below b w W)
    (h1 : Rd1 W b t s nv sv) (h2 : W.ownsRow (b + 1) 121 6 nv ns.length (nodeCells ns)) (h3 : W.ownsRow (b + 1) 90 256 sv fs.length (setsCells fs))
    (hg : W.grownBy w' nv.ownBlock) (ho : w'.ownsRow (b + 1) 121 6 v' (ns.length + 1) (nodeCells ns ++ ndCells n)) :
    Post2 w (w'.setCell ⟨b, 3, none⟩ v') b t s (ns ++ [n]) fs := by
  have hsz := hW.size
  refine ⟨(hW.trans (below_grown hg (by omega) (fun k hk => by have := (h2.lt k hk).1; omega))).setCell (Nat.le_refl _) _, v', sv, setNodes (h1.kept hg (own_ne h2)), ?_, ?_⟩
  · refine ownsRow_setCell_below ?_ (by simp) _
    rw [nodeCells_snoc]
    simpa using ho
  · exact ownsRow_setCell_below (h3.kept hg (rows_apart (by decide) h3 h2)) (by simp) _

set_option maxHeartbeats 400000 in
theorem add_any (w : World) (b : Nat) (t : ByteArray) (s : S1) (ns : List Nd) (fs : List (Nat → Bool)) (n : Nd) (h : Rd2 w b t s ns fs) (hn : ns.length ≤ 1000) :
    Calls Tryz.prog 54 #[.pointer (some ⟨b, 0, none⟩), .agg #[.int .i64 n.kind, .int .i64 n.left, .int .i64 n.right, .int .i64 n.low, .int .i64 n.high, .int .i64 n.set]] w fun e w' =>
      e = .returned (.int .i64 (ns.length : Int)) ∧ Post2 w w' b t s (ns ++ [n]) fs := by
  obtain ⟨nv, sv, h1, h2, h3⟩ := h
  obtain ⟨c0, c1, c2, c3, c4⟩ := h1.cells
  obtain ⟨f1, f2, f3, f4⟩ := h1.unfrozen
  obtain ⟨i, i0, i1, i2, i3⟩ := info_of info95
  have hbl := h1.lt
  have H2 := hide ((h2.alloc (Obj.cells (ndCells n).toArray 121)).alloc (Obj.cells (ndCells n).toArray 121))
  have H3 := hide ((h3.alloc (Obj.cells (ndCells n).toArray 121)).alloc (Obj.cells (ndCells n).toArray 121))
  have HC : Hid (∀ j u, (ndCells n)[j]? = some u → ((w.alloc (Obj.cells (ndCells n).toArray 121)).alloc (Obj.cells (ndCells n).toArray 121)).cell? ((⟨w.heap.size + 1, 0, none⟩ : Addr).add j) = some u) := by
    have := cells_new (w.alloc (Obj.cells (ndCells n).toArray 121)) (ndCells n) 121
    exact (by simpa using this : ∀ j u, (ndCells n)[j]? = some u → ((w.alloc (Obj.cells (ndCells n).toArray 121)).alloc (Obj.cells (ndCells n).toArray 121)).cell? ((⟨w.heap.size + 1, 0, none⟩ : Addr).add j) = some u)
  have H1 := hide (((Post1.refl h1).alloc (Obj.cells (ndCells n).toArray 121)).alloc (Obj.cells (ndCells n).toArray 121))
  have HI := hide (And.intro i0 (And.intro i1 (And.intro i2 i3)))
  have HN := hide hn
  have HO := hide (own_ne h2)
  have hL : (ns.length : Int) ≤ 1000 := by omega
  clear i0 i1 i2 i3 h1 h2 h3 hn
  go_enter Tryz.func54, Tryz.ntmps54
  go_wp2
  go_region_law (refine step_append_own rfl (.tmp 10) (.tmp 12) 55 rfl (b + 1) 121 i _ 6 48 Tryz.underlying55 (unhide HI).1 (unhide HI).2.1 (unhide HI).2.2.1 (unhide HI).2.2.2 rfl (by decide) nv ns.length (nodeCells ns) (by simp [Act.eval]) (by exact unhide H2) ⟨w.heap.size + 1, 0, none⟩ 1 1 (ndCells n) (by simp [Act.eval]) rfl (by exact unhide HC) (ndCells_one n) (by have := unhide HN; unfold maxLen; omega) (by have := unhide HN; omega) (by simp; omega) ?_; intro v' w' ho hg'; have hr' := Rd1.kept (h := by exact (unhide H1).2) hg' (unhide HO); obtain ⟨d0, d1, d2, d3, d4⟩ := hr'.cells; obtain ⟨g1, g2, g3, g4⟩ := hr'.unfrozen; obtain ⟨g, cap, hv⟩ := own_form ho; subst hv; have HG := hide hg'; have HO' := hide ho; have HR' := hide hr'; clear hg' ho hr')
  all_goals
    go_wp2
    go_ret
    exact ⟨rfl, add_fin hbl (by exact (((Below.refl b w).alloc (by omega) _).alloc (by simp; omega) _).drew) (by exact (unhide H1).2) (by exact unhide H2) (by exact unhide H3) (unhide HG) (unhide HO')⟩

end Go.Proofs.YtfooclcjehpcfaaGreat
namespace Go.Proofs.YtfooclcjehpcfaaGreat
open Go.RowKit

theorem info84 : (Tryz.prog.info? 90).map (fun i => (i.zero, i.size, i.bytes)) = some (some (.agg (setA fun _ => false)), 256, 256) := by kernel_rfl

theorem load_set (w : World) (f : Nat → Bool) :
    (Instr.loadAt 90 (.pointer (some ⟨w.heap.size, 0, none⟩))).run Tryz.prog (w.alloc (Obj.cells (setA f) 90)).drew = .ok (.agg (setA f)) (w.alloc (Obj.cells (setA f) 90)).drew := by
  have := run_loadVar_row (P := Tryz.prog) (w.alloc (Obj.cells (setA f) 90)).drew w.heap.size 90 90 (setA f) (0, 0) _ (heap_alloc_new w _) Tryz.underlying90 rfl (by rw [size_setA]; kernel_rfl)
  simp only [Instr.loadAt, Instr.sureAddr, Sem.run_bind, Sem.run_pure, Result.andThen_ok]
  exact this

theorem lay_from : ∀ (l : List Value) (k : Nat) (a : Array Value), k + l.length ≤ a.size →
    ((l.zipIdx k).foldl (fun (acc : Array Value) (x : Value × Nat) => acc.setIfInBounds (0 + x.2) x.1) a) = (a.toList.take k ++ l ++ a.toList.drop (k + l.length)).toArray
  | [], k, a, _ => by simp
  | v :: l, k, a, h => by
    have hlt : k < a.size := by simp at h; omega
    rw [List.zipIdx_cons, List.foldl_cons, lay_from l (k + 1) _ (by simp at h ⊢; omega)]
    apply Array.toList_inj.1
    simp only [Array.toList_setIfInBounds, Nat.zero_add]
    apply List.ext_getElem?
    intro j
    simp only [List.getElem?_append, List.length_take, List.length_set, Array.length_toList, List.length_append, List.length_cons, List.getElem?_take, List.getElem?_set, List.getElem?_drop, List.getElem?_cons]
    by_cases h1 : j < k
    · simp [h1, show j < k + 1 by omega, show min (k + 1) a.size = k + 1 by omega, show min k a.size = k by omega, show ¬ k = j by omega, show j < k + 1 + l.length by omega, show j < k + (l.length + 1) by omega]
    · by_cases h2 : j = k
      · subst h2
        simp [show min (j + 1) a.size = j + 1 by omega, show min j a.size = j by omega, hlt, show j < j + 1 + l.length by omega]
      · by_cases h3 : j < k + (l.length + 1)
        · simp [h1, h3, show ¬ j < k + 1 by omega, show min (k + 1) a.size = k + 1 by omega, show min k a.size = k by omega, show j < k + 1 + l.length by omega, show ¬ j - k = 0 by omega, show j - (k + 1) = j - k - 1 by omega]
        · simp [h3, show min (k + 1) a.size = k + 1 by omega, show min k a.size = k by omega, show ¬ j < k + 1 + l.length by omega]
          rw [if_neg (by omega)]
          congr 1
          omega

theorem lay_all (cs a : Array Value) (h : cs.size = a.size) :
    (cs.zipIdx.foldl (fun (acc : Array Value) (x : Value × Nat) => acc.setIfInBounds (0 + x.2) x.1) a) = cs := by
  rw [← Array.foldl_toList, Array.toList_zipIdx, lay_from cs.toList 0 a (by simp; omega)]
  have e : List.drop (0 + cs.toList.length) a.toList = [] := List.drop_eq_nil_of_le (by simp; omega)
  rw [e]
  simp

theorem fill_one (c cs : Array Value) (n : Nat) (hc : c.size = n) (hs : cs.size = n) : Instr.fill (fun i => some (i * n, n)) c [(0, Value.agg cs)] = some cs := by
  subst hc
  simp only [Instr.fill, Value.cells, Nat.zero_mul]
  rw [lay_all cs c hs]
  simp [hs]

theorem build_one {P : Program} (w : World) (t e : TypeId) (ie : TypeInfo) (z : Value) (cs : Array Value) (hu : P.underlying t = some (.slice e)) (hie : P.info? e = some ie) (hz : ie.zero = some z)
    (hs : cs.size = ie.size) (hsmall : ¬ 1 * ie.size > 2 ^ 24) (hpos : ¬ 1 * ie.size = 0) :
    (Instr.buildSlice t 1 #[(0, .agg cs)]).run P w = .ok (.slice (some ⟨w.heap.size, 0, none⟩) 1 1) (w.alloc (Obj.cells cs e)) := by
  have hf := fill_one ((Array.range (1 * ie.size)).map (z.cells[· % z.cells.size]!)) cs ie.size (by simp) hs
  simp [Instr.buildSlice, run_underlying hu, sizeOf, typeInfo, zeroValue, hie, hz, newRow] at hf ⊢
  rw [if_neg (by omega), if_neg (by omega)]
  simp [hf]

theorem build_set (w : World) (f : Nat → Bool) :
    (Instr.buildSlice 56 1 #[(0, .agg (setA f))]).run Tryz.prog w = .ok (.slice (some ⟨w.heap.size, 0, none⟩) 1 1) (w.alloc (Obj.cells (setA f) 90)) := by
  obtain ⟨i, i0, i1, i2, i3⟩ := info_of info84
  exact build_one w _ _ i _ (setA f) Tryz.underlying56 i0 i1 (by rw [size_setA, i2]) (by rw [i2]; decide) (by rw [i2]; decide)

end Go.Proofs.YtfooclcjehpcfaaGreat
namespace Go.Proofs.YtfooclcjehpcfaaGreat
open Go.RowKit

theorem wp_load_set (w : World) (f : Nat → Bool) (d : Option Tmp) (x : Operand) (ty : TypeId) (pos : String) (af : Array Edge) (gd : Option (Nat × Bool)) (a : Act) (K : Act → World → Prop) (Q : Exit → Act → World → Prop)
    (hx : a.eval x = .pointer (some ⟨w.heap.size, 0, none⟩)) :
    Oper.wp Tryz.prog { dst := d, op := .load 90 x, type := ty, pos := pos, after := af, guard := gd } a (w.alloc (Obj.cells (setA f) 90)).drew K Q = K (a.put d (.agg (setA f))) (w.alloc (Obj.cells (setA f) 90)).drew := by
  unfold Oper.wp execOp
  simp only [hx, Sem.run_bind, Sem.run_pure, Result.andThen_ok, load_set]
  rfl

theorem wp_build_set (w : World) (f : Nat → Bool) (d : Option Tmp) (x : Operand) (ty : TypeId) (pos : String) (af : Array Edge) (gd : Option (Nat × Bool)) (a : Act) (K : Act → World → Prop) (Q : Exit → Act → World → Prop)
    (hx : a.eval x = .agg (setA f)) :
    Oper.wp Tryz.prog { dst := d, op := .buildSlice 56 1 #[(0, x)], type := ty, pos := pos, after := af, guard := gd } a (w.alloc (Obj.cells (setA f) 90)).drew K Q = K (a.put d (.slice (some ⟨w.heap.size + 1, 0, none⟩) 1 1)) (((w.alloc (Obj.cells (setA f) 90)).alloc (Obj.cells (setA f) 90)).drew) := by
  have hb := build_set (w.alloc (Obj.cells (setA f) 90)).drew f
  have hz : (w.alloc (Obj.cells (setA f) 90)).drew.heap.size = w.heap.size + 1 := by simp
  rw [hz] at hb
  unfold Oper.wp execOp
  simp only [List.map_toArray, List.map_cons, List.map_nil, hx, Sem.run_bind, Sem.run_pure, Result.andThen_ok, hb]
  rfl

attribute [local go_sem ↓] wp_load_set wp_build_set

theorem cells_agg (cs : Array Value) : (Value.agg cs).cells = cs := rfl
theorem zsz : (Value.agg (setA fun _ => false)).cells.size = 256 := by rw [cells_agg, size_setA]
theorem pos256 : 0 < 256 := by omega
theorem len_setA (f : Nat → Bool) : (setA f).toList.length = 1 * 256 := by rw [Array.length_toList, size_setA]

theorem setA_toList_one (f : Nat → Bool) : ∀ u ∈ (setA f).toList, u.oneCell' = true := by
  intro u hu
  have := Array.all_eq_true_iff_forall_mem.1 (setA_one f) u (by simpa using hu)
  exact this

theorem addSet_fin {w W w' : World} {b : Nat} {t : ByteArray} {s : S1} {nv sv v' : Value} {ns : List Nd} {fs : List (Nat → Bool)} {f : Nat → Bool} (hb : b < w.heap.size) (hW : Below b w W)
    (h1 : Rd1 W b t s nv sv) (h2 : W.ownsRow (b + 1) 121 6 nv ns.length (nodeCells ns)) (h3 : W.ownsRow (b + 1) 90 256 sv fs.length (setsCells fs))
    (hg : W.grownBy w' sv.ownBlock) (ho : w'.ownsRow (b + 1) 90 256 v' (fs.length + 1) (setsCells fs ++ (setA f).toList)) :
    Post2 w (w'.setCell ⟨b, 4, none⟩ v') b t s ns (fs ++ [f]) := by
  have hsz := hW.size
  refine ⟨(hW.trans (below_grown hg (by omega) (fun k hk => by have := (h3.lt k hk).1; omega))).setCell (Nat.le_refl _) _, nv, v', setSets (h1.kept hg (own_ne h3)), ?_, ?_⟩
  · exact ownsRow_setCell_below (h2.kept hg (rows_apart (by decide) h2 h3)) (by simp) _
  · refine ownsRow_setCell_below ?_ (by simp) _
    rw [setsCells_snoc]
    simpa using ho

set_option maxHeartbeats 400000 in
theorem addSet_any (w : World) (b : Nat) (t : ByteArray) (s : S1) (ns : List Nd) (fs : List (Nat → Bool)) (f : Nat → Bool) (h : Rd2 w b t s ns fs) (hn : ns.length ≤ 1000) (hn' : fs.length ≤ 1000) :
    Calls Tryz.prog 95 #[.pointer (some ⟨b, 0, none⟩), .agg (setA f)] w fun e w' =>
      e = .returned (.int .i64 (ns.length : Int)) ∧ Post2 w w' b t s (ns ++ [⟨1, 0, 0, 0, 0, (fs.length : Int)⟩]) (fs ++ [f]) := by
  obtain ⟨nv, sv, h1, h2, h3⟩ := h
  obtain ⟨c0, c1, c2, c3, c4⟩ := h1.cells
  obtain ⟨f1, f2, f3, f4⟩ := h1.unfrozen
  obtain ⟨i, i0, i1, i2, i3⟩ := info_of info84
  have hbl := h1.lt
  have H2 := hide ((h2.alloc (Obj.cells (setA f) 90)).alloc (Obj.cells (setA f) 90))
  have H3 := hide ((h3.alloc (Obj.cells (setA f) 90)).alloc (Obj.cells (setA f) 90))
  have HC : Hid (∀ j u, (setA f).toList[j]? = some u → ((w.alloc (Obj.cells (setA f) 90)).alloc (Obj.cells (setA f) 90)).cell? ((⟨w.heap.size + 1, 0, none⟩ : Addr).add j) = some u) := by
    have := cells_new (w.alloc (Obj.cells (setA f) 90)) (setA f).toList 90
    simp only [Array.toArray_toList, World.size_alloc] at this
    exact this
  have H1 := hide (((Post1.refl h1).alloc (Obj.cells (setA f) 90)).alloc (Obj.cells (setA f) 90))
  have HI := hide (And.intro i0 (And.intro i1 (And.intro i2 i3)))
  have HN := hide hn
  have HN' := hide hn'
  have HO := hide (own_ne h3)
  have hL : (fs.length : Int) ≤ 1000 := by omega
  clear i0 i1 i2 i3 h1 h2 h3 hn hn'
  go_enter Tryz.func95, Tryz.ntmps95
  go_wp2
  go_region_law (refine step_append_own rfl (.tmp 10) (.tmp 12) 56 rfl (b + 1) 90 i (.agg (setA fun _ => false)) 256 256 Tryz.underlying56 (unhide HI).1 (unhide HI).2.1 (unhide HI).2.2.1 (unhide HI).2.2.2 zsz pos256 sv fs.length (setsCells fs) (by simp [Act.eval]) (by exact unhide H3) ⟨w.heap.size + 1, 0, none⟩ 1 1 (setA f).toList (by simp [Act.eval]) (len_setA f) (by exact unhide HC) (setA_toList_one f) (by have := unhide HN'; unfold maxLen; omega) (by have := unhide HN'; omega) (by simp; omega) ?_; intro v' w' ho hg'; have hr' := Rd1.kept (h := by exact (unhide H1).2) hg' (unhide HO); obtain ⟨d0, d1, d2, d3, d4⟩ := hr'.cells; obtain ⟨g1, g2, g3, g4⟩ := hr'.unfrozen; obtain ⟨g, cap, hv⟩ := own_form ho; subst hv; have HG := hide hg'; have HO' := hide ho; have HR' := hide hr'; clear hg' ho hr')
  all_goals
    have P3 := addSet_fin hbl (by exact (((Below.refl b w).alloc (by omega) _).alloc (by simp; omega) _).drew) (by exact (unhide H1).2) (by exact unhide H2) (by exact unhide H3) (unhide HG) (unhide HO')
    have HP3 := hide P3
    clear P3
    go_wp2_with fail
    refine (add_any _ b t s ns (fs ++ [f]) ⟨1, 0, 0, 0, 0, (fs.length : Int)⟩ (unhide HP3).2 (unhide HN)).mono ?_
    rintro e w5 ⟨rfl, hw5⟩
    go_wp2
    go_ret
    exact ⟨rfl, (unhide HP3).1.trans hw5.1, hw5.2⟩

end Go.Proofs.YtfooclcjehpcfaaGreat
