/-
  A table is appended to a row of tables: what the walk wants.
  policies.Image.readTables.
-/
import Derived.Test.YtnkdbcicphnmiaaPx
import Derived.Great.BuildSlice
namespace Go.Proofs.Ytnkdbcicphnmiaa
namespace Mc
open Go.RowKit

theorem infoTb : (Try.prog.info? 142).map (fun i => (i.zero, i.size, i.bytes)) = some (some (.agg zcTb), 259, 2104) := by kernel_rfl
/-- There is a table's row of cells at a pointer. -/
def IsTb (w : World) (v : Value) (cs : Array Value) : Prop := ∃ g, v = .pointer (some ⟨g, 0, none⟩) ∧ w.heap[g]? = some (.cells cs 142 (0, 0)) ∧ cs.size = 259
def HasTb (w : World) (v : Value) : Prop := ∃ cs, IsTb w v cs
/-- The cells of the block that a pointer leads to. -/
def tbOf (w : World) (v : Value) : Array Value := match v with
  | .pointer (some a) => match w.heap[a.block]? with
    | some (.cells cs _ _) => cs
    | _ => #[]
  | _ => #[]
theorem IsTb.has {w : World} {v : Value} {cs : Array Value} (h : IsTb w v cs) : HasTb w v := ⟨cs, h⟩
theorem IsTb.of {w : World} {v : Value} {cs : Array Value} (h : IsTb w v cs) : tbOf w v = cs := by
  obtain ⟨g, rfl, h1, -⟩ := h
  simp only [tbOf, h1]
theorem wp_ldT {d : Option Tmp} {x : Operand} {ty : TypeId} {p : String} {af : Array Edge} {gd : Option (Nat × Bool)} {a : Act} {w : World} {K : Act → World → Prop} {Q : Exit → Act → World → Prop} (h : HasTb w (a.eval x)) :
    Oper.wp Try.prog { dst := d, op := .load 142 x, type := ty, pos := p, after := af, guard := gd } a w K Q = K (a.put d (.agg (tbOf w (a.eval x)))) w := by
  obtain ⟨cs, hcs⟩ := h
  rw [hcs.of]
  obtain ⟨g, hv, hg, hs⟩ := hcs
  unfold Oper.wp execOp
  simp only [hv, Instr.loadAt, Instr.sureAddr, Sem.run_bind, Sem.run_pure, Result.andThen_ok, run_loadVar_row w g _ _ cs _ _ hg Try.underlying142 rfl (by rw [hs]; exact infoT)]
  rfl
/-- A value is a table's cells. -/
def IsTv (v : Value) : Prop := ∃ cs, v = .agg cs ∧ cs.size = 259
theorem wp_bsT {d : Option Tmp} {x : Operand} {ty : TypeId} {p : String} {af : Array Edge} {gd : Option (Nat × Bool)} {a : Act} {w : World} {K : Act → World → Prop} {Q : Exit → Act → World → Prop} (h : IsTv (a.eval x)) :
    Oper.wp Try.prog { dst := d, op := .buildSlice 81 1 #[(0, x)], type := ty, pos := p, after := af, guard := gd } a w K Q = K (a.put d (.slice (some ⟨w.heap.size, 0, none⟩) 1 1)) (w.alloc (.cells (a.eval x).cells 142)) := by
  obtain ⟨cs, hv, hs⟩ := h
  obtain ⟨i, i0, i1, i2, i3⟩ := info_of infoTb
  unfold Oper.wp execOp
  have hf : Instr.fill (fun k => some (k * i.size, i.size)) ((Array.range (1 * i.size)).map (zcTb[· % zcTb.size]!)) (#[(0, x)].map fun (k, y) => (k, a.eval y)).toList = some cs := by
    have := Great.fill_whole (s := 259) (by decide) [.agg cs] ((Array.range (1 * i.size)).map (zcTb[· % zcTb.size]!)) (fun v hv => by rw [List.mem_singleton.1 hv]; exact hs) (by rw [Array.size_map, Array.size_range, i2]; rfl)
    rw [i2] at this ⊢
    simp only [List.map_toArray, List.map_cons, List.map_nil, hv]
    simpa [Value.cells] using this
  simp only [Sem.run_bind, run_buildSlice w 81 142 1 _ cs i _ Try.underlying81 i0 i1 (by rw [i2]; decide) (by rw [i2]; decide) hf, Result.andThen_ok]
  rw [hv]
  rfl
/-- A table is appended to a row of tables, in a region that draws its order. -/
theorem appT {ops : Array Oper} {o : Oper} {a : Act} {W : World} {K : Act → World → Prop} {Q : Exit → Act → World → Prop} {E : Prop} (hgd : o.guard = none) (s x : Operand)
    (ho : o.op = .call { callee := .builtin .append, args := #[s, x], argTypes := #[81, 81] }) (B : Nat) (v : Value) (n : Nat) (xs : List Value) (hs : a.eval s = v) (hown : W.ownsRow B 142 259 v n xs) (g0 : Nat) (cs : Array Value)
    (hx : a.eval x = .slice (some ⟨g0, 0, none⟩) 1 1) (hc : W.heap[g0]? = some (.cells cs 142 (0, 0))) (hsz : cs.size = 259) (h1 : cs.all (·.oneCell') = true) (hlen : n ≤ 1000) (hB : B ≤ W.heap.size) (H : Nat) (hH : W.heap.size = H)
    (h : ∀ g cap w', w'.ownsRow B 142 259 (.slice (some ⟨g, 0, none⟩) (n + 1) cap) (n + 1) (xs ++ cs.toList) → W.grownBy w' v.ownBlock → (v.ownBlock = some g ∨ g = H) → g < w'.heap.size → K (a.put o.dst (.slice (some ⟨g, 0, none⟩) (n + 1) cap)) w') :
    if Region.wanted o (yielded ops a.tmps) = true then Oper.wp Try.prog o a W K Q else E := by
  obtain ⟨i, i0, i1, i2, i3⟩ := info_of infoTb
  refine step_append_lies W hgd s x 81 ho B 142 i (.agg zcTb) 259 2104 Try.underlying81 i0 i1 i2 i3 zcTb_size (by decide) v n xs hs hown ⟨g0, 0, none⟩ 1 1 cs.toList hx (by simp [hsz]) (World.news_of_block hc) (fun u hu => ?_) (by decide) (by unfold maxLen; omega) (by omega) hB H hH h
  rw [← Array.all_toList] at h1
  exact List.all_eq_true.1 h1 u hu

end Mc
end Go.Proofs.Ytnkdbcicphnmiaa
namespace Go.Proofs.Ytnkdbcicphnmiaa
namespace Mc
open Go.RowKit

theorem own_ty {w : World} {B e z : Nat} {v : Value} {n : Nat} {xs : List Value} (h : w.ownsRow B e z v n xs) {q : Nat} (hq : v.ownBlock = some q) : ∃ cs, w.heap[q]? = some (.cells cs e (0, 0)) := by
  rcases h.2 with ⟨rfl, _⟩ | ⟨g, cap, cur, rfl, _, hg, _⟩
  · simp [Value.ownBlock] at hq
  · have : g = q := by simpa [Value.ownBlock] using hq
    subst this
    exact ⟨_, hg⟩
/-- The blocks hold no rows of truths or of numbers. -/
def NoRows (w : World) (S : List Nat) : Prop := ∀ q ∈ S, ∀ cs ty fr, w.heap[q]? = some (.cells cs ty fr) → ty ≠ 4 ∧ ty ≠ 3
theorem TRws.fr {w w' : World} {B B' : Nat} {t : TabN} {gv nv : Value} {S : List Nat} (h : TRws w B t gv nv) (f : Fr S w w') (hS : NoRows w S) (hB : B ≤ B') : TRws w' B' t gv nv := by
  obtain ⟨bs, ns, h1, h2, q1, q2, r⟩ := h.ex
  refine ⟨h.ok, bs, ns, f.own h1 (fun q hq hm => ?_), f.own h2 (fun q hq hm => ?_), fun q hq => Nat.lt_of_lt_of_le (q1 q hq) hB, fun q hq => Nat.lt_of_lt_of_le (q2 q hq) hB, r⟩
  · obtain ⟨cs, hc⟩ := own_ty h1 hq
    exact (hS q hm _ _ _ hc).1 rfl
  · obtain ⟨cs, hc⟩ := own_ty h2 hq
    exact (hS q hm _ _ _ hc).2 rfl
theorem NoRows.nil (w : World) : NoRows w [] := fun q hq => by cases hq
/-- Tables in the making: the image, its row of tables. -/
structure RtI (w wr : World) (gi N : Nat) (f : ByteArray) (ta : Option Addr) (tc : Nat) (ts : Nat → TabN) (cs : List Value) (i : Nat) : Prop where
  fr : Fr [gi] w wr
  im : wr.heap[gi]? = some (.cells #[.int .i64 (N : Int), .string f, .slice ta i tc] 83 (0, 0))
  hgi : gi < w.heap.size
  own : wr.ownsRow w.heap.size 142 259 (.slice ta i tc) i cs
  rows : ∀ j, j < i → ∃ gv nv, (∀ k, k < 259 → cs[j * 259 + k]? = (tbC (ts j).cl (ts j).C gv nv)[k]?) ∧ TRws wr wr.heap.size (ts j) gv nv
section
variable {w wr w2 : World} {gi N : Nat} {f : ByteArray} {ta : Option Addr} {tc : Nat} {ts : Nat → TabN} {cs : List Value} {i : Nat}
theorem RtI.start (hi : w.heap[gi]? = some (.cells #[.int .i64 (N : Int), .string f, .slice none 0 0] 83 (0, 0))) : RtI w w gi N f none 0 ts [] 0 :=
  ⟨Fr.refl _ _, hi, (Array.getElem?_eq_some_iff.1 hi).1, World.ownsRow_nil _ _ _ _, fun j hj => by omega⟩
theorem RtI.below (h : RtI w wr gi N f ta tc ts cs i) (hb : Below wr.heap.size wr w2) : RtI w w2 gi N f ta tc ts cs i :=
  ⟨h.fr.next hb, (Fr.ofBelow hb).at h.im (by simp), h.hgi, (Fr.ofBelow hb).own h.own (by simp), fun j hj => by
    obtain ⟨gv, nv, h1, h2⟩ := h.rows j hj
    exact ⟨gv, nv, h1, h2.fr (Fr.ofBelow hb) (NoRows.nil _) hb.size⟩⟩
theorem RtI.alloc (h : RtI w wr gi N f ta tc ts cs i) (o : Obj) : RtI w (wr.alloc o) gi N f ta tc ts cs i := h.below ((Below.refl _ _).alloc (Nat.le_refl _) _)
theorem RtI.drew (h : RtI w wr gi N f ta tc ts cs i) : RtI w wr.drew gi N f ta tc ts cs i := ⟨h.fr.drew, h.im, h.hgi, h.own, fun j hj => by
  obtain ⟨gv, nv, h1, h2⟩ := h.rows j hj
  exact ⟨gv, nv, h1, h2.ok, h2.ex⟩⟩
theorem RtI.le (h : RtI w wr gi N f ta tc ts cs i) : w.heap.size ≤ wr.heap.size := h.fr.size
theorem RtI.push (h : RtI w wr gi N f ta tc ts cs i) {g cap : Nat} {gv nv : Value} (hr : TRws wr wr.heap.size (ts i) gv nv) (hgrow : wr.grownBy w2 (.slice ta i tc : Value).ownBlock) (ho : w2.ownsRow w.heap.size 142 259 (.slice (some ⟨g, 0, none⟩) (i + 1) cap) (i + 1) (cs ++ (tbC (ts i).cl (ts i).C gv nv).toList)) :
    w2.cell? ⟨gi, 2, none⟩ = some (.slice ta i tc) ∧ w2.frozen? ⟨gi, 2, none⟩ = false ∧ RtI w (w2.setCell ⟨gi, 2, none⟩ (.slice (some ⟨g, 0, none⟩) (i + 1) cap)) gi N f (some ⟨g, 0, none⟩) cap ts (cs ++ (tbC (ts i).cl (ts i).C gv nv).toList) (i + 1) := by
  have e2 := own_off h.own h.im (by decide)
  have g2 : w2.heap[gi]? = _ := (Fr.ofGrown hgrow).at h.im (fun hm => e2 _ (Option.mem_toList.1 hm) rfl)
  have hN : NoRows wr (.slice ta i tc : Value).ownBlock.toList := fun q hq cs' ty fr hc => by
    obtain ⟨cs2, hc2⟩ := own_ty h.own (Option.mem_toList.1 hq)
    rw [hc] at hc2
    simp at hc2
    rw [hc2.2.1]; decide
  have hN2 : NoRows w2 [gi] := fun q hq cs' ty fr hc => by
    rw [List.mem_singleton.1 hq, g2] at hc
    simp at hc
    rw [← hc.2.1]; decide
  have hsz : (w2.setCell ⟨gi, 2, none⟩ (.slice (some ⟨g, 0, none⟩) (i + 1) cap)).heap.size = w2.heap.size := by simp [World.setCell]
  have hmv : ∀ {t : TabN} {a b : Value}, TRws wr wr.heap.size t a b → TRws (w2.setCell ⟨gi, 2, none⟩ (.slice (some ⟨g, 0, none⟩) (i + 1) cap)) (w2.setCell ⟨gi, 2, none⟩ (.slice (some ⟨g, 0, none⟩) (i + 1) cap)).heap.size t a b := fun ht =>
    (ht.fr (Fr.ofGrown hgrow) hN (Nat.le_refl _)).fr (Fr.ofSet _ _ _ _) hN2 (by rw [hsz]; exact hgrow.size)
  refine ⟨by rw [cell_of_row _ _ _ _ _ _ g2]; rfl, frozen_of_row _ _ _ _ _ g2, (h.fr.grown hgrow (fun k hk => Or.inr (h.own.lt k hk).1)).set (Or.inl (by simp)) _ _, by rw [heap_setCell_same _ _ _ _ _ _ g2]; rfl, h.hgi, ?_, fun j hj => ?_⟩
  · exact (Fr.ofSet _ _ _ _).own ho (fun q hq => by simpa using own_off ho g2 (by decide) q hq)
  · have hcl : cs.length = i * 259 := h.own.1
    by_cases hji : j < i
    · obtain ⟨gv', nv', h1, h2⟩ := h.rows j hji
      refine ⟨gv', nv', fun k hk => ?_, hmv h2⟩
      rw [List.getElem?_append_left (by rw [hcl]; omega), h1 k hk]
    · have hje : j = i := by omega
      subst hje
      refine ⟨gv, nv, fun k hk => ?_, hmv hr⟩
      rw [List.getElem?_append_right (by rw [hcl]; omega), hcl, Nat.add_sub_cancel_left, Array.getElem?_toList]
theorem RtI.tbs {g0 : Nat} (h : RtI w wr gi N f (some ⟨g0, 0, none⟩) tc ts cs i) : Tbs wr wr.heap.size g0 i ts := by
  have ho := h.own
  refine ⟨fun j hj => ?_, (ho.lt g0 rfl).2⟩
  obtain ⟨gv, nv, h1, h2⟩ := h.rows j hj
  refine ⟨gv, nv, fun k v hv => ?_, h2⟩
  have hk : k < 259 := by
    have := (List.getElem?_eq_some_iff.1 hv).1
    rwa [Array.length_toList, tbC_size] at this
  have h3 := ho.cells (g := g0) rfl (j * 259 + k) v (by rw [h1 k hk]; rwa [Array.getElem?_toList] at hv)
  rwa [add0] at h3
end

end Mc
end Go.Proofs.Ytnkdbcicphnmiaa
