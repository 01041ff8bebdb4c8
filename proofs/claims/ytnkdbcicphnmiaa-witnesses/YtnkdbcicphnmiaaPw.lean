/-
  table.parsed: a table out of its bytes.
-/
import Derived.Test.YtnkdbcicphnmiaaPw0
import Derived.Test.YtnkdbcicphnmiaaT10
namespace Go.Proofs.Ytnkdbcicphnmiaa
namespace Mc
open Go.RowKit

theorem own_less {w : World} {B B' e z : Nat} {v : Value} {n : Nat} {xs : List Value} (h : w.ownsRow B e z v n xs) (hB : B' ≤ B) : w.ownsRow B' e z v n xs := by
  refine ⟨h.1, ?_⟩
  rcases h.2 with h2 | ⟨g, cap, cur, hv, hg, r⟩
  · exact Or.inl h2
  · exact Or.inr ⟨g, cap, cur, hv, Nat.le_trans hB hg, r⟩
theorem map_snoc {α : Type} (f : Nat → α) (k : Nat) : (List.range (k + 1)).map f = (List.range k).map f ++ [f k] := by rw [List.range_succ, List.map_append]; rfl
theorem PgI.start (w : World) (o : Obj) (C : Nat) : PgI (w.heap.size + 1) (w.heap.size + 1) (w.alloc o) ((w.alloc o).alloc (.cells (tbC (fun _ => 0) C (.slice none 0 0) (.slice none 0 0)) 142)) (fun _ => 0) C (.slice none 0 0) (.slice none 0 0) [] [] := by
  refine ⟨?_, Nat.le_refl _, heap_alloc2_new w _ _, World.ownsRow_nil _ _ _ _, World.ownsRow_nil _ _ _ _⟩
  have h : Below (w.alloc o).heap.size (w.alloc o) _ := (Below.refl _ _).alloc (Nat.le_refl _) (.cells (tbC (fun _ => 0) C (.slice none 0 0) (.slice none 0 0)) 142)
  simpa using h

theorem Fr.belowOf {a w w' : World} {g B : Nat} (h : Fr [g] w w') (hb : Below B a w) (hB : B ≤ w.heap.size) (hg : B ≤ g) : Below B a w' := hb.trans ⟨h.os, h.tape, h.output, h.size, fun k hk => h.block k (Nat.lt_of_lt_of_le hk hB) (by simp; omega)⟩

section
attribute [local go_sem ↓] Go.wp_at_zero Go.wp_at_succ zvTb
attribute [local go_sem] zcTb_size zcTb_ne aggcells
set_option maxRecDepth 20000 in
set_option maxHeartbeats 2000000 in
theorem parsed_any (w : World) (C : Nat) (cs gs ns : ByteArray) (hc : cs.size = 256) (hg : gs.size ≤ 1000) (hn : ns.size ≤ 1000) :
    Calls Try.prog 119 #[.int .i64 (C : Int), .string cs, .string gs, .string ns] w fun e w' => Below w.heap.size w w' ∧ ∃ gv nv, e = .returned (.agg (tbC (bt cs) C gv nv)) ∧ BR w' w.heap.size gv ((List.range gs.size).map fun q => decide (bt gs q = 1)) ∧ NR w' w.heap.size nv ((List.range ns.size).map (bt ns)) := by
  have HR1 : Hid ((w.alloc (.cells zcTb 142)).heap[w.heap.size]? = some (.cells zcTb 142 (0, 0))) := heap_alloc_new _ _
  have HB1 : Hid (Below w.heap.size w (w.alloc (.cells zcTb 142))) := (Below.refl _ _).alloc (Nat.le_refl _) _
  have HO0 := hide (PgI.start w (.cells zcTb 142) C)
  have hcI : (cs.size : Int) = 256 := by omega
  have hgI : (gs.size : Int) ≤ 1000 := by omega
  have hnI : (ns.size : Int) ≤ 1000 := by omega
  have HG := hide hg
  have HN := hide hn
  have HCS := hide hc
  clear hc hg hn
  go_enter Try.func119, Try.ntmps119
  go_wp2_with (refine store_row rfl 142 _ _ rfl rfl (w.heap.size + 1) _ rfl rfl 142 _ (heap_alloc2_new w _ (Obj.cells zcTb 142)) (by rw [tbC_build, tbC_size]; exact infoT) (by rw [tbC_build, tbC_size, zcTb_size]) (by rw [tbC_build]; exact tbC_one _ _ _ _ _ _ _ _) ?_; rw [tbC_build, setRow_alloc2'])
  generalize (w.alloc (.cells zcTb 142)).alloc (.cells (tbC (fun _ => 0) C (.slice none 0 0) (.slice none 0 0)) 142) = w2 at *
  generalize hw1 : w.alloc (.cells zcTb 142) = w1 at *
  clear hw1
  generalize hH1 : w.heap.size + 1 = H1 at *
  have HH1 := hide hH1
  clear hH1
  go_loopw [10] (fun bx wr => ∃ b : Nat, bx = .int .i64 (b : Int) ∧ Hid (b ≤ 256 ∧ PgI H1 H1 w1 wr (fun c => if c < b then bt cs c else 0) C (.slice none 0 0) (.slice none 0 0) [] [])) (fun bx _ => lenLeft 256 bx)
  case atStart => exact ⟨0, rfl, Nat.zero_le _, (unhide HO0).congr (fun b _ => by rw [if_neg (Nat.not_lt_zero _)])⟩
  case round =>
    clear HO0
    rename World => wr
    obtain ⟨b, rfl, HH⟩ := hrel
    obtain ⟨hb256, hI⟩ := unhide HH
    clear HH
    by_cases hlt : b < 256
    · have hbI : (b : Int) < 256 := by omega
      have hbS : (b : Int) < (cs.size : Int) := by omega
      have hbN : b < cs.size := by omega
      have HLT := hide hlt
      have hbt := bt_at cs b
      have hbt2 : ((bt cs b : Nat) : Int) < 256 := by have := bt_le cs b; omega
      have h0 : (0 : Int) ≤ (b : Int) := by omega
      have h1 : ((b : Int)).toNat = b := by omega
      have y0 : wr.cell? ⟨H1, b, none⟩ = some (.int .i64 ((0 : Nat) : Int)) := by rw [cell_of_row _ _ _ _ _ _ hI.bT, tbC_cl _ _ _ _ hlt, if_neg (Nat.lt_irrefl _)]
      have z0 : wr.frozen? ⟨H1, b, none⟩ = false := frozen_of_row _ _ _ _ _ hI.bT
      have HN1 : Hid (PgI H1 H1 w1 (wr.setCell ⟨H1, b, none⟩ (.int .i64 ((bt cs b : Nat) : Int))) (fun c => if c < b + 1 then bt cs c else 0) C (.slice none 0 0) (.slice none 0 0) [] []) := (hI.cls hlt (bt cs b)).congr (fun c _ => by
        by_cases e : c = b
        · subst e; rw [if_pos rfl, if_pos (by omega)]
        · rw [if_neg e]
          by_cases e2 : c < b
          · rw [if_pos e2, if_pos (by omega)]
          · rw [if_neg e2, if_neg (by omega)])
      clear hI hb256 hlt
      go_wp2_with fail
      go_roundw
      case rel => exact ⟨b + 1, by go_num, unhide HLT, unhide HN1⟩
      case measure => have := unhide HLT; simp [lenLeft, intOf]; omega
    · have hb2 : ¬ (b : Int) < 256 := by omega
      have HI2 : Hid (PgI H1 H1 w1 wr (bt cs) C (.slice none 0 0) (.slice none 0 0) [] []) := hI.congr (fun c hc => by rw [if_pos (by omega)])
      clear hI hb256 hlt
      go_wp2_with fail
      go_loopw [11] (fun ix wq => ∃ (i : Nat) (ga : Option Addr) (gc : Nat) (bs : List Bool), ix = .int .i64 (i : Int) ∧ Hid (i ≤ gs.size ∧ bs = (List.range i).map (fun q => decide (bt gs q = 1)) ∧ PgI H1 H1 w1 wq (bt cs) C (.slice ga bs.length gc) (.slice none 0 0) bs [])) (fun ix _ => lenLeft gs.size ix)
      case atStart => exact ⟨0, none, 0, [], rfl, Nat.zero_le _, rfl, unhide HI2⟩
      case round =>
        clear HI2
        rename World => wq
        obtain ⟨i, ga, gc, bs, rfl, HH⟩ := hrel
        obtain ⟨hi, hbs, hI⟩ := unhide HH
        clear HH
        by_cases hlt : i < gs.size
        · have hiI : (i : Int) < (gs.size : Int) := by omega
          have HLT := hide hlt
          have hbt := bt_at gs i
          have hbt2 : ((bt gs i : Nat) : Int) < 256 := by have := bt_le gs i; omega
          have h0 : (0 : Int) ≤ (i : Int) := by omega
          have h1 : ((i : Int)).toNat = i := by omega
          have HSN : Hid (bs ++ [decide (bt gs i = 1)] = (List.range (i + 1)).map (fun q => decide (bt gs q = 1))) := by show _ = _; rw [map_snoc, hbs]
          have c7 : wq.cell? ⟨H1, 257, none⟩ = some (.slice ga bs.length gc) := by rw [cell_of_row _ _ _ _ _ _ hI.bT, tbC_257]
          have hlH : H1 < wq.heap.size := hI.lt
          have HXA := hide (fun y : Bool => (hI.alloc (Obj.cells #[.bool y] 4)).drew)
          have HCE : Hid (∀ y : Bool, ((wq.alloc (Obj.cells #[.bool y] 4)).drew).cell? ⟨wq.heap.size, 0, none⟩ = some (.bool y)) := fun y => by rw [cell_drew]; exact new_cell rfl
          have HLEN : Hid (bs.length ≤ 3000000) := by show _ ≤ _; rw [hbs]; have := unhide HG; simp; omega
          have hyd : (((bt gs i : Nat) : Int) == 1) = decide (bt gs i = 1) := by
            by_cases h : bt gs i = 1
            · rw [h]; rfl
            · rw [decide_eq_false h]; exact beq_eq_false_iff_ne.2 (by omega)
          rw [← hyd] at HSN
          clear hI hi hbs hlt hyd
          go_upto_region 9 with fail
          go_region_law (refine appBs (by rfl) _ _ (by rfl) H1 _ bs (by rfl) (by exact (unhide HXA _).rg) wq.heap.size _ (by rfl) (by exact unhide HCE _) (unhide HLEN) (by simp; omega) (wq.heap.size + 1) (by simp) ?_; intro g5 cap5 w8 ho hgrow hlies hlt5; obtain ⟨c9, f9, hP9⟩ := (unhide HXA _).grant hgrow ho; have HP9 := hide hP9; clear ho hgrow hlies hP9)
          all_goals
            go_wp2_with fail
            go_roundw
            case rel =>
              exact ⟨i + 1, _, _, bs ++ [_], by go_num, unhide HLT, unhide HSN, by rw [List.length_append]; exact unhide HP9⟩
            case measure => have := unhide HLT; simp [lenLeft, intOf]; omega
        · have hi2 : i = gs.size := by omega
          subst hi2
          have HI3 := hide hI
          have HBS := hide hbs
          clear hI hi hbs hlt
          go_wp2_with fail
          go_loopw [12] (fun jx wy => ∃ (j : Nat) (na : Option Addr) (nc : Nat) (xs : List Nat), jx = .int .i64 (j : Int) ∧ Hid (j ≤ ns.size ∧ xs = (List.range j).map (bt ns) ∧ PgI H1 H1 w1 wy (bt cs) C (.slice ga bs.length gc) (.slice na xs.length nc) bs xs)) (fun jx _ => lenLeft ns.size jx)
          case atStart => exact ⟨0, none, 0, [], rfl, Nat.zero_le _, rfl, unhide HI3⟩
          case round =>
            clear HI3
            rename World => wy
            obtain ⟨j, na, nc, xs, rfl, HH⟩ := hrel
            obtain ⟨hj, hxs, hI⟩ := unhide HH
            clear HH
            by_cases hlt : j < ns.size
            · have hjI : (j : Int) < (ns.size : Int) := by omega
              have HLT := hide hlt
              have hbt := bt_at ns j
              have hbt2 : ((bt ns j : Nat) : Int) < 256 := by have := bt_le ns j; omega
              have h0 : (0 : Int) ≤ (j : Int) := by omega
              have h1 : ((j : Int)).toNat = j := by omega
              have HSN : Hid (xs ++ [bt ns j] = (List.range (j + 1)).map (bt ns)) := by show _ = _; rw [map_snoc, hxs]
              have c8 : wy.cell? ⟨H1, 258, none⟩ = some (.slice na xs.length nc) := by rw [cell_of_row _ _ _ _ _ _ hI.bT, tbC_258]
              have hlH : H1 < wy.heap.size := hI.lt
              have hyw : IntKind.i64.wrap ((bt ns j : Nat) : Int) = ((bt ns j : Nat) : Int) := wrap_i64 _ (by have := bt_le ns j; omega)
              generalize bt ns j = y at *
              have HXA := hide (hI.alloc (Obj.cells #[.int .i64 (y : Int)] 3)).drew
              have HCE : Hid (((wy.alloc (Obj.cells #[.int .i64 (y : Int)] 3)).drew).cell? ⟨wy.heap.size, 0, none⟩ = some (.int .i64 (y : Int))) := by show _ = _; rw [cell_drew]; exact new_cell rfl
              have HLEN : Hid (xs.length ≤ 3000000) := by show _ ≤ _; rw [hxs]; have := unhide HN; simp; omega
              clear hI hj hxs hlt
              go_upto_region 13 with fail
              go_region_law (refine app1s (by rfl) _ _ (by rfl) H1 _ xs (by rfl) (by exact (unhide HXA).rn) wy.heap.size y (by rfl) (by exact unhide HCE) (unhide HLEN) (by simp; omega) (wy.heap.size + 1) (by simp) ?_; intro g5 cap5 w8 ho hgrow hlies hlt5; obtain ⟨c9, f9, hP9⟩ := (unhide HXA).edge hgrow ho; have HP9 := hide hP9; clear ho hgrow hlies hP9)
              all_goals
                go_wp2_with fail
                go_roundw
                case rel => exact ⟨j + 1, _, _, xs ++ [y], by go_num, unhide HLT, unhide HSN, by rw [List.length_append]; exact unhide HP9⟩
                case measure => have := unhide HLT; simp [lenLeft, intOf]; omega
            · have hj2 : j = ns.size := by omega
              subst hj2
              have HI4 := hide hI
              have HXS := hide hxs
              have HRQ : Hid (wy.heap[w.heap.size]? = some (.cells zcTb 142 (0, 0))) := (hI.below.block _ (by have := unhide HH1; omega)).trans (unhide HR1)
              have HBQ : Hid (Below w.heap.size w wy) := (unhide HB1).trans (hI.below.mono (by have := unhide HH1; omega))
              clear hI hj hxs hlt
              go_wp2_with (first
                | refine wpList_load_row rfl 142 _ rfl H1 rfl 142 _ (0, 0) _ (unhide HI4).bT Try.underlying142 rfl (by rw [tbC_size]; exact infoT) ?_
                | refine store_row rfl 142 _ _ rfl rfl w.heap.size _ rfl rfl 142 _ (unhide HRQ) (by rw [tbC_size]; exact infoT) (by rw [tbC_size, zcTb_size]) (tbC_one _ _ _ _ _ _ _ _) ?_)
              refine bodyPost_ret (results_cell_row (p := 8) (ty := 142) rfl _ _ w.heap.size 142 _ (0, 0) _ rfl (setRow_heap _ _ _ _ _ _ (unhide HRQ)) Try.underlying142 rfl (by rw [tbC_size]; exact infoT)) rfl ?_
              have hle : w.heap.size ≤ H1 := by have := unhide HH1; omega
              refine ⟨((Fr.ofRow _ w.heap.size _).belowOf (unhide HBQ) (unhide HBQ).size (Nat.le_refl _)), _, _, rfl, ?_, ?_⟩
              · rw [← unhide HBS]; exact own_less ((Fr.ofRow _ _ _).own (unhide HI4).rg (fun q hq => by simpa using own_off (unhide HI4).rg (unhide HRQ) (by decide) q hq)) hle
              · rw [← unhide HXS]; exact own_less ((Fr.ofRow _ _ _).own (unhide HI4).rn (fun q hq => by simpa using own_off (unhide HI4).rn (unhide HRQ) (by decide) q hq)) hle
end

end Mc
end Go.Proofs.Ytnkdbcicphnmiaa
