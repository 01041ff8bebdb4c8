/-
  The document's answer: a node is put behind the others.
  The document's answer: read.
-/
import Derived.Test.YtobfpgoepaeknaaT17
import Derived.Test.YtobfpgoepaeknaaT00
namespace Go.Proofs.Ytobfpgoepaeknaa
open Go.RowKit

def rnCells (rs : List Rn) : List Value := rs.flatMap fun r => (rnA r).toList

/-- Block b of w is a tree with these nodes. -/
def RtS (w : World) (b : Nat) (rs : List Rn) : Prop :=
  ∃ v, w.heap[b]? = some (.cells #[v] 93 (0, 0)) ∧ w.ownsRow (b + 1) 95 261 v rs.length (rnCells rs)
def PostT (w w' : World) (b : Nat) (rs : List Rn) : Prop := Below b w w' ∧ RtS w' b rs

theorem infoN : (Try.prog.info? 95).map (fun i => (i.zero, i.size, i.bytes)) = some (some (.agg (rnA ⟨0, 0, 0, 0, 0, noSet⟩)), 261, 296) := by kernel_rfl

theorem load_nd (w : World) (r : Rn) :
    (Instr.loadAt 95 (.pointer (some ⟨w.heap.size, 0, none⟩))).run Try.prog (w.alloc (Obj.cells (rnA r) 95)).drew = .ok (.agg (rnA r)) (w.alloc (Obj.cells (rnA r) 95)).drew := by
  have := run_loadVar_row (P := Try.prog) (w.alloc (Obj.cells (rnA r) 95)).drew w.heap.size 95 95 (rnA r) (0, 0) _ (heap_alloc_new w _) Try.underlying95 rfl (by rw [size_rnA]; exact info78)
  simp only [Instr.loadAt, Instr.sureAddr, Sem.run_bind, Sem.run_pure, Result.andThen_ok]
  exact this
theorem build_nd (w : World) (r : Rn) :
    (Instr.buildSlice 91 1 #[(0, .agg (rnA r))]).run Try.prog w = .ok (.slice (some ⟨w.heap.size, 0, none⟩) 1 1) (w.alloc (Obj.cells (rnA r) 95)) := by
  obtain ⟨i, i0, i1, i2, i3⟩ := info_of infoN
  exact build_one w _ _ i _ (rnA r) Try.underlying91 i0 i1 (by rw [size_rnA, i2]) (by rw [i2]; decide) (by rw [i2]; decide)

theorem wp_load_nd (w : World) (r : Rn) (d : Option Tmp) (x : Operand) (ty : TypeId) (pos : String) (af : Array Edge) (gd : Option (Nat × Bool)) (a : Act) (K : Act → World → Prop) (Q : Exit → Act → World → Prop)
    (hx : a.eval x = .pointer (some ⟨w.heap.size, 0, none⟩)) :
    Oper.wp Try.prog { dst := d, op := .load 95 x, type := ty, pos := pos, after := af, guard := gd } a (w.alloc (Obj.cells (rnA r) 95)).drew K Q = K (a.put d (.agg (rnA r))) (w.alloc (Obj.cells (rnA r) 95)).drew := by
  unfold Oper.wp execOp
  simp only [hx, Sem.run_bind, Sem.run_pure, Result.andThen_ok, load_nd]
  rfl
theorem wp_build_nd (w : World) (r : Rn) (d : Option Tmp) (x : Operand) (ty : TypeId) (pos : String) (af : Array Edge) (gd : Option (Nat × Bool)) (a : Act) (K : Act → World → Prop) (Q : Exit → Act → World → Prop)
    (hx : a.eval x = .agg (rnA r)) :
    Oper.wp Try.prog { dst := d, op := .buildSlice 91 1 #[(0, x)], type := ty, pos := pos, after := af, guard := gd } a (w.alloc (Obj.cells (rnA r) 95)).drew K Q = K (a.put d (.slice (some ⟨w.heap.size + 1, 0, none⟩) 1 1)) (((w.alloc (Obj.cells (rnA r) 95)).alloc (Obj.cells (rnA r) 95)).drew) := by
  have hb := build_nd (w.alloc (Obj.cells (rnA r) 95)).drew r
  have hz : (w.alloc (Obj.cells (rnA r) 95)).drew.heap.size = w.heap.size + 1 := by simp
  rw [hz] at hb
  unfold Oper.wp execOp
  simp only [List.map_toArray, List.map_cons, List.map_nil, hx, Sem.run_bind, Sem.run_pure, Result.andThen_ok, hb]
  rfl

attribute [local go_sem ↓] wp_load_nd wp_build_nd

theorem zszN : (Value.agg (rnA ⟨0, 0, 0, 0, 0, noSet⟩)).cells.size = 261 := by rw [cells_agg, size_rnA]
theorem pos261 : 0 < 261 := by omega
theorem len_rnA (r : Rn) : (rnA r).toList.length = 1 * 261 := by rw [Array.length_toList, size_rnA]
theorem rnA_toList_one (r : Rn) : ∀ u ∈ (rnA r).toList, u.oneCell' = true := by
  intro u hu
  exact Array.all_eq_true_iff_forall_mem.1 (rnA_one r) u (by simpa using hu)
theorem rnCells_snoc (rs : List Rn) (r : Rn) : rnCells (rs ++ [r]) = rnCells rs ++ (rnA r).toList := by simp [rnCells]

theorem setNodesT {w : World} {b : Nat} {v v' : Value} (h : w.heap[b]? = some (.cells #[v] 93 (0, 0))) : (w.setCell ⟨b, 0, none⟩ v').heap[b]? = some (.cells #[v'] 93 (0, 0)) := by
  rw [heap_setCell_same w b 0 #[v] _ _ h]; rfl

theorem put_fin {w W w' : World} {b : Nat} {v v' : Value} {rs : List Rn} {r : Rn} (hb : b < w.heap.size) (hW : Below b w W)
    (h1 : W.heap[b]? = some (.cells #[v] 93 (0, 0))) (h2 : W.ownsRow (b + 1) 95 261 v rs.length (rnCells rs))
    (hg : W.grownBy w' v.ownBlock) (ho : w'.ownsRow (b + 1) 95 261 v' (rs.length + 1) (rnCells rs ++ (rnA r).toList)) :
    PostT w (w'.setCell ⟨b, 0, none⟩ v') b (rs ++ [r]) := by
  have hsz := hW.size
  refine ⟨(hW.trans (below_grown hg (by omega) (fun k hk => by have := (h2.lt k hk).1; omega))).setCell (Nat.le_refl _) _, v', ?_, ?_⟩
  · apply setNodesT (v := v)
    rw [hg.block b (by omega) (own_ne h2)]; exact h1
  · refine ownsRow_setCell_below ?_ (by simp) _
    rw [rnCells_snoc]
    simpa using ho

set_option maxHeartbeats 1000000 in
theorem put_any (w : World) (b : Nat) (rs : List Rn) (r : Rn) (h : RtS w b rs) (hn : rs.length ≤ 1000) :
    Calls Try.prog 68 #[.pointer (some ⟨b, 0, none⟩), .agg (rnA r)] w fun e w' =>
      e = .returned (.int .i64 (rs.length : Int)) ∧ PostT w w' b (rs ++ [r]) := by
  obtain ⟨v, h1, h2⟩ := h
  have c0 : w.cell? ⟨b, 0, none⟩ = some v := by rw [cell_of_row _ _ _ _ _ _ h1]; rfl
  have f0 : w.frozen? ⟨b, 0, none⟩ = false := frozen_of_row _ _ _ _ _ h1
  obtain ⟨i, i0, i1, i2, i3⟩ := info_of infoN
  have hbl : b < w.heap.size := (Array.getElem?_eq_some_iff.1 h1).1
  have H2 := hide ((h2.alloc (Obj.cells (rnA r) 95)).alloc (Obj.cells (rnA r) 95))
  have HC : Hid (∀ j u, (rnA r).toList[j]? = some u → ((w.alloc (Obj.cells (rnA r) 95)).alloc (Obj.cells (rnA r) 95)).cell? ((⟨w.heap.size + 1, 0, none⟩ : Addr).add j) = some u) := by
    have := cells_new (w.alloc (Obj.cells (rnA r) 95)) (rnA r).toList 95
    simp only [Array.toArray_toList, World.size_alloc] at this
    exact this
  have hH1 : ((w.alloc (Obj.cells (rnA r) 95)).alloc (Obj.cells (rnA r) 95)).heap[b]? = some (.cells #[v] 93 (0, 0)) := by
    rw [Below.heap_alloc _ _ _ (by simp; omega), Below.heap_alloc _ _ _ hbl]; exact h1
  have H1 := hide hH1
  have HI := hide (And.intro i0 (And.intro i1 (And.intro i2 i3)))
  have HN := hide hn
  have HO := hide (own_ne h2)
  have hL : (rs.length : Int) ≤ 1000 := by omega
  clear i0 i1 i2 i3 h1 h2 hn hH1
  go_enter Try.func68, Try.ntmps68
  go_wp2
  go_region_law (refine step_append_own rfl (.tmp 9) (.tmp 11) 91 rfl (b + 1) 95 i (.agg (rnA ⟨0, 0, 0, 0, 0, noSet⟩)) 261 296 Try.underlying91 (unhide HI).1 (unhide HI).2.1 (unhide HI).2.2.1 (unhide HI).2.2.2 zszN pos261 v rs.length (rnCells rs) (by simp [Act.eval]) (by exact unhide H2) ⟨w.heap.size + 1, 0, none⟩ 1 1 (rnA r).toList (by simp [Act.eval]) (len_rnA r) (by exact unhide HC) (rnA_toList_one r) (by have := unhide HN; unfold maxLen; omega) (by have := unhide HN; omega) (by simp; omega) ?_; intro v' w' ho hg'; have hr' := (hg'.block b (by simp; omega) (unhide HO)).trans (by exact unhide H1); have d0 : w'.cell? ⟨b, 0, none⟩ = some v := (by rw [cell_of_row _ _ _ _ _ _ hr']; rfl); have g0 : w'.frozen? ⟨b, 0, none⟩ = false := frozen_of_row _ _ _ _ _ hr'; obtain ⟨g, cap, hv⟩ := own_form ho; subst hv; have HG := hide hg'; have HO' := hide ho; clear hg' ho hr')
  all_goals
    go_wp2
    go_ret
    exact ⟨rfl, put_fin hbl (by exact (((Below.refl b w).alloc (by omega) _).alloc (by simp; omega) _).drew) (by exact unhide H1) (by exact unhide H2) (unhide HG) (unhide HO')⟩

end Go.Proofs.Ytobfpgoepaeknaa
namespace Go.Proofs.Ytobfpgoepaeknaa
open Go.RowKit

/-- The function F makes what 'tag' says, with so much fuel. -/
def DoesT (F tag n : Nat) : Prop :=
  ∀ (p : ByteArray) (rs : List Rn) (r : List Rn × Int) (w : World) (b : Nat), p.size ≤ 60 → r.1.length ≤ 1000 → rfF n tag p 0 0 rs = some r → RtS w b rs →
    Calls Try.prog F #[.pointer (some ⟨b, 0, none⟩), .string p] w fun e w' => e = .returned (.int .i64 r.2) ∧ PostT w w' b r.1

theorem PostT.trans {w w1 w2 : World} {b : Nat} {rs rs' : List Rn} (h : PostT w w1 b rs) (k : PostT w1 w2 b rs') : PostT w w2 b rs' := ⟨h.1.trans k.1, k.2⟩

set_option maxHeartbeats 1000000 in
theorem read_of (n : Nat) (ih0 : ∀ m, m < n → DoesT 47 0 m) (ih2 : ∀ m, m < n → DoesT 67 2 m) : DoesT 47 0 n := by
  intro p rs r w b hp hr h hb
  have hp' : (p.size : Int) ≤ 60 := by omega
  obtain ⟨n, rfl⟩ : ∃ n', n = n' + 1 := by cases n with | zero => simp [rfF] at h | succ n => exact ⟨n, rfl⟩
  simp only [rfF] at h
  have I0 := hide ih0
  have I2 := hide ih2
  have H0 := hide h
  have HR := hide hr
  clear ih0 ih2 h hr
  go_enter Try.func47, Try.ntmps47
  go_wp2_with fail
  go_loopg [5] n (fun m s wr => ∃ q : Nat, s = .int .i64 (q : Int) ∧ w = wr ∧ Hid (rfF m 1 p q 0 rs = some r ∧ m ≤ n))
  case atStart => exact ⟨0, rfl, rfl, unhide H0, Nat.le_refl _⟩
  case round =>
    obtain ⟨q, rfl, rfl, H⟩ := hrel
    obtain ⟨h, hm⟩ := unhide H
    clear H H0
    obtain ⟨m, rfl⟩ : ∃ m', gk = m' + 1 := by cases gk with | zero => simp [rfF] at h | succ m => exact ⟨m, rfl⟩
    simp only [rfF] at h
    by_cases hc : q < p.size ∧ (byteAt p q == 124) = false
    · rw [if_pos hc, Option.bind_eq_some_iff] at h
      obtain ⟨j, hj, h⟩ := h
      obtain ⟨hq, hc2⟩ := hc
      rw [byteAt_eq hq] at hc2
      have hc3 : ((p[q].toNat : Int) != 124) = true := by rw [bne, hc2]; rfl
      have hq' : (q : Int) < (p.size : Int) := by omega
      have HC := hide (over_any p hp 200 q j w hj)
      have H2 := hide h
      clear hj h hc2
      go_wp2_with (go_at_call 66; refine (unhide HC).mono ?_; rintro e w' ⟨rfl, rfl⟩)
      go_roundg m
      case measure => omega
      case rel => exact ⟨j, rfl, rfl, unhide H2, by omega⟩
    · rw [if_neg hc] at h
      have hq : q ≤ p.size := by
        by_cases hq : q ≤ p.size
        · exact hq
        · rw [if_neg hq] at h; cases h
      rw [if_pos hq, Option.bind_eq_some_iff] at h
      obtain ⟨x, hx, h⟩ := h
      have hq' : (q : Int) ≤ (p.size : Int) := by omega
      by_cases he : q = p.size
      · rw [if_pos he] at h
        simp only [Option.some.injEq] at h
        subst h
        have he' : ((q : Int) == (p.size : Int)) = true := by simp [he]
        have hge : ¬ (q : Int) < (p.size : Int) := by omega
        have HB := hide (unhide I2 m (by omega) (p.extract 0 q) rs x w b (by simp; omega) (unhide HR) hx hb)
        clear hx hc he
        go_wp2_with fail
        refine (unhide HB).mono ?_
        rintro e w1 ⟨rfl, hw1⟩
        go_wp2
        go_ret
        exact ⟨rfl, hw1⟩
      · rw [if_neg he, Option.bind_eq_some_iff] at h
        obtain ⟨y, hy, h⟩ := h
        simp only [Option.some.injEq] at h
        subst h
        have g1 := rfF_grows _ _ _ _ _ _ _ hy
        have hrl := unhide HR
        simp only [List.length_append, List.length_cons, List.length_nil] at hrl
        have he' : ((q : Int) == (p.size : Int)) = false := by simp; omega
        have hlt : (q : Int) < (p.size : Int) := by omega
        have hqn : q < p.size := by omega
        have h124 : ((p[q].toNat : Int) != 124) = false := by
          have := hc
          rw [not_and, byteAt_eq hqn] at this
          have h3 := this hqn
          rw [bne]
          revert h3
          cases ((p[q].toNat : Int) == 124) <;> simp
        have HB := hide (unhide I2 m (by omega) (p.extract 0 q) rs x w b (by simp; omega) (by omega) hx hb)
        have HB2 := hide (fun w1 hb1 => unhide I0 m (by omega) (p.extract (q + 1) p.size) x.1 y w1 b (by simp; omega) (by omega) hy hb1)
        have hz : ((Try.zeroCells95.setIfInBounds 0 (.int .i64 4)).setIfInBounds 1 (.int .i64 x.2)).setIfInBounds 2 (.int .i64 y.2) = rnA ⟨4, x.2, y.2, 0, 0, noSet⟩ := by rw [zero78, rnA_kind, rnA_l, rnA_r]
        have HZ := hide hz
        have hyl : y.1.length ≤ 1000 := by omega
        clear hx hy hc he g1 hrl hz
        go_wp2_with fail
        refine (unhide HB).mono ?_
        rintro e w1 ⟨rfl, hw1⟩
        go_wp2_with fail
        refine (unhide HB2 w1 hw1.2).mono ?_
        rintro e w2 ⟨rfl, hw2⟩
        go_wp2_with fail
        rw [unhide HZ]
        refine (put_any _ b y.1 _ hw2.2 hyl).mono ?_
        rintro e w3 ⟨rfl, hw3⟩
        go_wp2
        go_ret
        exact ⟨rfl, (hw1.trans hw2).trans hw3⟩

end Go.Proofs.Ytobfpgoepaeknaa
