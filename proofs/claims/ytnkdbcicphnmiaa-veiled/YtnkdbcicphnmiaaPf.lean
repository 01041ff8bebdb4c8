/-
  judge.layer.rows: the rows of a table's states.
-/
import Derived.Test.YtnkdbcicphnmiaaPe
namespace Go.Proofs.Ytnkdbcicphnmiaa
namespace Mc
open Go.RowKit
attribute [local go_sem ↓] Go.wp_at_zero Go.wp_at_succ

/-- The words of a state, up to a class. -/
def rowW (t : TabN) (b mark q c : Nat) : List Nat := [if t.gr q then mark else 0] ++ (List.range c).map fun k => b + t.nx q k * (1 + t.C)
def rowsW (t : TabN) (b mark : Nat) : Nat → List Nat
  | 0 => []
  | n + 1 => rowsW t b mark n ++ rowW t b mark n t.C
theorem rowW_len (t : TabN) (b mark q c : Nat) : (rowW t b mark q c).length = 1 + c := by simp [rowW]; omega
theorem rowsW_len (t : TabN) (b mark : Nat) : ∀ n, (rowsW t b mark n).length = n * (1 + t.C)
  | 0 => by simp [rowsW]
  | n + 1 => by rw [rowsW, List.length_append, rowsW_len t b mark n, rowW_len, Nat.add_mul, Nat.one_mul]
theorem rowW_succ (t : TabN) (b mark q c : Nat) : rowW t b mark q (c + 1) = rowW t b mark q c ++ [b + t.nx q c * (1 + t.C)] := by
  unfold rowW; rw [List.range_succ, List.map_append, List.append_assoc]; rfl
theorem PresL.drewN {B : Nat} {w w' : World} (h : PresL B w w') (n : Nat) : PresL B w (w'.drewN n) := ⟨⟨h.below.os, h.below.tape, h.below.output, h.below.size, h.below.block⟩, h.keep⟩
theorem LBx.drewN {w : World} {B gl : Nat} {v : Value} {ds : List Nat} (h : LBx w B gl v ds) (n : Nat) : LBx (w.drewN n) B gl v ds := ⟨h.hB, h.heap, h.row⟩

set_option maxRecDepth 20000 in
set_option maxHeartbeats 2000000 in
theorem rows_any (w : World) (B gl gt : Nat) (t : TabN) (ds : List Nat) (mark : Nat) (h : LB w B gl ds) (ht : TbB w B gt t) (hl : ds.length ≤ 50000) (hmk : mark ≤ 1000) :
    Calls Try.prog 85 #[.pointer (some ⟨gl, 0, none⟩), .pointer (some ⟨gt, 0, none⟩), .int .i64 (mark : Int)] w fun e w' => e = .returned (arV (32 + ds.length) (32 + ds.length + t.S * (1 + t.C))) ∧ PresL B w w' ∧ LB w' B gl (ds ++ rowsW t (32 + ds.length) mark t.S) := by
  obtain ⟨v, hx⟩ := h
  have HSZ : Hid (B ≤ w.heap.size) := by have := hx.hB; have := hx.lt; show _ ≤ _; omega
  have HA0 := hide (address_any _ B gl ds ⟨v, hx.alloc (Obj.cells #[.int .i64 0, .int .i64 0] 138)⟩ (by omega))
  have HP0 : Hid (PresL B w (w.alloc (Obj.cells #[.int .i64 0, .int .i64 0] 138))) := PresL.alloc B w _ (unhide HSZ)
  have HX0 : Hid (LB (w.alloc (Obj.cells #[.int .i64 0, .int .i64 0] 138)) B gl (ds ++ rowsW t (32 + ds.length) mark 0)) := by
    show LB _ _ _ _
    rw [show ds ++ rowsW t (32 + ds.length) mark 0 = ds by simp [rowsW]]
    exact ⟨v, hx.alloc _⟩
  have HBX : Hid ((w.alloc (Obj.cells #[.int .i64 0, .int .i64 0] 138)).heap[w.heap.size]? = some (Obj.cells #[.int .i64 0, .int .i64 0] 138 (0, 0))) := heap_alloc_new _ _
  have HT := hide ht
  have HL := hide hl
  have hs2 := ht.ok.s2
  have hc2 := ht.ok.c2
  have hSI : (t.S : Int) ≤ 24 := by omega
  have hCI : (t.C : Int) ≤ 24 := by omega
  have HSC : Hid (t.S * (1 + t.C) ≤ 600) := Nat.le_trans (Nat.mul_le_mul hs2 (show 1 + t.C ≤ 25 by omega)) (by decide)
  have HS2 := hide hs2
  have HC2 := hide hc2
  have hb0I : ((32 + ds.length : Nat) : Int) ≤ 60000 := by omega
  have HDL : Hid (ds.length ≤ 32 + ds.length) := Nat.le_add_left _ _
  have HBL : Hid (32 + ds.length ≤ 60000) := by show _ ≤ _; omega
  generalize hb0 : 32 + ds.length = b0 at *
  have HB0 := hide hb0
  clear hx ht hl hs2 hc2 hb0
  go_enter Try.func85, Try.ntmps85
  go_wp2_with fail
  refine (unhide HA0).mono ?_
  rintro e w1 ⟨rfl, hww⟩
  rw [hww]
  clear hww
  go_wp2_with fail
  generalize hg4 : w.heap.size = g4 at *
  have HG4 := hide hg4
  clear hg4
  generalize hwa : (w.alloc (Obj.cells #[.int .i64 0, .int .i64 0] 138)) = wa at *
  clear hwa HA0
  go_loopw [8] (fun ix wr => ∃ q : Nat, ix = .int .i64 (q : Int) ∧ Hid (q ≤ t.S ∧ PresL B w wr ∧ LB wr B gl (ds ++ rowsW t b0 mark q) ∧ wr.heap[g4]? = some (Obj.cells #[.int .i64 0, .int .i64 0] 138 (0, 0)))) (fun ix _ => lenLeft t.S ix)
  case atStart => exact ⟨0, rfl, Nat.zero_le _, unhide HP0, unhide HX0, unhide HBX⟩
  case round =>
    clear HP0 HX0 HBX
    rename World => wr
    obtain ⟨q, rfl, HH⟩ := hrel
    obtain ⟨hq, hP, ⟨v, hx⟩, hbx⟩ := unhide HH
    obtain ⟨va, vc, rfl⟩ := hx.row.form
    have hdl : (ds ++ rowsW t b0 mark q).length = ds.length + q * (1 + t.C) := by rw [List.length_append, rowsW_len]
    have HST := hide (States_any wr B gt t ((unhide HT).presL hP))
    by_cases hlt : q < t.S
    · have hqI : (q : Int) < (t.S : Int) := by omega
      have HGR := hide (Granted_any wr B gt t ((unhide HT).presL hP) q hlt)
      have c0 := hx.cell
      have hgl := hx.lt
      obtain ⟨f, hf, hfI⟩ : ∃ f : Nat, (if t.gr q then mark else 0) = f ∧ f ≤ 1000 := ⟨_, rfl, by split <;> omega⟩
      have HXA := hide (hx.alloc (Obj.cells #[.int .i64 (f : Int)] 3))
      have HCE : Hid ((wr.alloc (Obj.cells #[.int .i64 (f : Int)] 3)).cell? ⟨wr.heap.size, 0, none⟩ = some (.int .i64 (f : Int))) := new_cell rfl
      have HPA : Hid (PresL B w (wr.alloc (Obj.cells #[.int .i64 (f : Int)] 3))) := hP.trans (PresL.alloc B wr _ (by have := hx.hB; omega))
      have HBA : Hid ((wr.alloc (Obj.cells #[.int .i64 (f : Int)] 3)).heap[g4]? = some (Obj.cells #[.int .i64 0, .int .i64 0] 138 (0, 0))) := (Fr.ofAlloc _ _).at hbx (by simp)
      have HLT := hide hlt
      have hqc : q * (1 + t.C) ≤ t.S * (1 + t.C) := Nat.mul_le_mul_right _ hq
      have HLEN : Hid ((ds ++ rowsW t b0 mark q).length ≤ 2000000) := by have := unhide HL; have := unhide HSC; rw [hdl]; show _ ≤ _; omega
      have HBS : Hid (B ≤ wr.heap.size) := by have := hx.hB; show _ ≤ _; omega
      have HSN : Hid (ds ++ rowsW t b0 mark q ++ [f] = ds ++ rowsW t b0 mark q ++ rowW t b0 mark q 0) := by show _ = _; rw [← hf]; rfl
      have HSE : Hid (ds ++ rowsW t b0 mark q ++ rowW t b0 mark q t.C = ds ++ rowsW t b0 mark (q + 1)) := by show _ = _; rw [rowsW, List.append_assoc]
      have HGF : Hid ((t.gr q = true → f = mark) ∧ (t.gr q = false → f = 0)) := ⟨fun e => by rw [← hf, if_pos e], fun e => by rw [← hf, e]; rfl⟩
      clear HH hq hP hx hbx hlt hdl hqc hf
      generalize hxs : ds ++ rowsW t b0 mark q = xs at *
      clear hxs
      cases hgr : t.gr q
      all_goals
        rw [hgr] at HGR
        first
          | (have e0 : f = 0 := (by first | exact (unhide HGF).2 hgr | fail); subst e0)
          | (have e0 : mark = f := (by first | exact ((unhide HGF).1 hgr).symm | fail); subst e0)
        clear hgr HGF hfI
        go_wp2_with (first
          | (go_at_call 108; refine (unhide HST).mono ?_; rintro e w' ⟨rfl, hww⟩; obtain rfl : wr = w' := hww.symm; clear hww)
          | (go_at_call 102; refine (unhide HGR).mono ?_; rintro e w' ⟨rfl, hww⟩; obtain rfl : wr = w' := hww.symm; clear hww)
          | (at_builtin; refine app1 rfl (.tmp 28) (.tmp 30) rfl B _ _ rfl (unhide HXA).row wr.heap.size _ rfl (unhide HCE) (by have := unhide HLEN; omega) (by have := unhide HBS; simp; omega) (wr.heap.size + 1) (by simp) ?_; intro g5 cap5 w8 ho hgrow hlies hlt5; obtain ⟨c9, f9, hX9, hP9⟩ := (unhide HXA).push hgrow ho (hlies.elim Or.inl (fun e => Or.inr (by rw [e]; simp))); have HX9 := hide hX9; have HP9 := hide ((unhide HPA).trans hP9); have HB9 := hide (hP9.keep _ _ _ _ (unhide HBA) (by decide) (by decide)); clear ho hgrow hlies hX9 hP9))
        rename World => w8
        have HX10 : Hid (LB (w8.setCell ⟨gl, 0, none⟩ (.slice (some ⟨g5, 0, none⟩) (xs.length + 1) cap5)) B gl (xs ++ rowW t b0 mark q 0)) := ⟨_, by rw [← unhide HSN]; exact unhide HX9⟩
        generalize w8.setCell ⟨gl, 0, none⟩ (.slice (some ⟨g5, 0, none⟩) (xs.length + 1) cap5) = w9 at *
        clear HX9 HXA HCE HPA HBA HGR HST HBS c0 c9 f9 hgl
        go_loopw [10] (fun ix wx => ∃ c : Nat, ix = .int .i64 (c : Int) ∧ Hid (c ≤ t.C ∧ PresL B w wx ∧ LB wx B gl (xs ++ rowW t b0 mark q c) ∧ wx.heap[g4]? = some (Obj.cells #[.int .i64 0, .int .i64 0] 138 (0, 0)))) (fun ix _ => lenLeft t.C ix)
        case atStart => exact ⟨0, rfl, Nat.zero_le _, unhide HP9, unhide HX10, unhide HB9⟩
        case round =>
          clear HP9 HX10 HB9
          rename World => wx
          obtain ⟨c, rfl, HH⟩ := hrel
          obtain ⟨hc, hP, ⟨v, hx⟩, hbx⟩ := unhide HH
          obtain ⟨va2, vc2, rfl⟩ := hx.row.form
          have HCL := hide (Classes_any wx B gt t ((unhide HT).presL hP))
          by_cases hlt : c < t.C
          · have hcI : (c : Int) < (t.C : Int) := by omega
            have HNX := hide (TNext_any wx B gt t ((unhide HT).presL hP) q c (unhide HLT) hlt)
            have hnx := (unhide HT).ok.nx q c (unhide HLT) hlt
            have hnx2 : t.nx q c < 24 := by have := unhide HS2; omega
            have hnI : ((t.nx q c : Nat) : Int) < 24 := by omega
            have hlen : (xs ++ rowW t b0 mark q c).length = xs.length + (1 + c) := by rw [List.length_append, rowW_len]
            have HLEN2 : Hid ((xs ++ rowW t b0 mark q c).length ≤ 3000000) := by have := unhide HLEN; have := unhide HC2; rw [hlen]; show _ ≤ _; omega
            have HSN2 : Hid (xs ++ rowW t b0 mark q c ++ [b0 + t.nx q c * (1 + t.C)] = xs ++ rowW t b0 mark q (c + 1)) := by show _ = _; rw [rowW_succ, List.append_assoc]
            have HPx := hide hP
            have HXx := hide hx
            have HBx := hide hbx
            have HLTc := hide hlt
            have hy1 : t.nx q c * (1 + t.C) ≤ 600 := by
              have : t.nx q c * (1 + t.C) ≤ 24 * 25 := Nat.mul_le_mul (by omega) (by have := unhide HC2; omega)
              omega
            have w1' : IntKind.i64.wrap (1 + (t.C : Int)) = 1 + (t.C : Int) := by
              have := wrap_i64 (1 + t.C) (by have := unhide HC2; omega)
              rw [Int.natCast_add] at this; exact this
            have w2' : IntKind.i64.wrap ((t.nx q c * (1 + t.C) : Nat) : Int) = ((t.nx q c * (1 + t.C) : Nat) : Int) := wrap_i64 (t.nx q c * (1 + t.C)) (by omega)
            have w2'' : ((t.nx q c : Nat) : Int) * (1 + (t.C : Int)) = ((t.nx q c * (1 + t.C) : Nat) : Int) := by rw [Int.natCast_mul, Int.natCast_add]; rfl
            have w3' : IntKind.i64.wrap ((b0 + t.nx q c * (1 + t.C) : Nat) : Int) = ((b0 + t.nx q c * (1 + t.C) : Nat) : Int) := wrap_i64 (b0 + t.nx q c * (1 + t.C)) (by have := unhide HBL; omega)
            have w3'' : (b0 : Int) + ((t.nx q c * (1 + t.C) : Nat) : Int) = ((b0 + t.nx q c * (1 + t.C) : Nat) : Int) := by rw [Int.natCast_add]
            have hyI : ((t.nx q c * (1 + t.C) : Nat) : Int) ≤ 600 := by omega
            generalize xs ++ rowW t b0 mark q c = ys at *
            generalize b0 + t.nx q c * (1 + t.C) = y at *
            generalize t.nx q c * (1 + t.C) = y1 at *
            generalize t.nx q c = x at *
            clear HH hc hP hx hbx hlt hnx hnx2 hlen hy1
            go_wp2_with (first
              | (go_at_call 109; refine (unhide HCL).mono ?_; rintro e w' ⟨rfl, hww⟩; obtain rfl : wx = w' := hww.symm; clear hww)
              | (go_at_call 110; refine (unhide HNX).mono ?_; rintro e w2 ⟨rfl, n, hww⟩; have hx2 : LBx w2 B gl (.slice va2 ys.length vc2) ys := (by rw [hww]; exact (unhide HXx).drewN n); have hp2 : PresL B w w2 := (by rw [hww]; exact (unhide HPx).drewN n); have hb2 : w2.heap[g4]? = some (Obj.cells #[.int .i64 0, .int .i64 0] 138 (0, 0)) := (by rw [hww]; exact unhide HBx); have HX2 := hide hx2; have HP2 := hide hp2; have HB2 := hide hb2; clear hww hx2 hp2 hb2))
            rename World => w2
            have c2 := (unhide HX2).cell
            have hgl2 := (unhide HX2).lt
            have HCL2 := hide (Classes_any w2.drew B gt t ((unhide HT).presL (unhide HP2).drew))
            have HXA2 := hide ((unhide HX2).alloc (Obj.cells #[.int .i64 (y : Int)] 3)).drew
            have HCE2 : Hid (((w2.alloc (Obj.cells #[.int .i64 (y : Int)] 3)).drew).cell? ⟨w2.heap.size, 0, none⟩ = some (.int .i64 (y : Int))) := by show _ = _; rw [cell_drew]; exact new_cell rfl
            have HBS2 : Hid (B ≤ w2.heap.size) := by have := (unhide HX2).hB; show _ ≤ _; omega
            have HPA2 : Hid (PresL B w ((w2.alloc (Obj.cells #[.int .i64 (y : Int)] 3)).drew)) := ((unhide HP2).trans (PresL.alloc B w2 _ (unhide HBS2))).drew
            have HBA2 : Hid (((w2.alloc (Obj.cells #[.int .i64 (y : Int)] 3)).drew).heap[g4]? = some (Obj.cells #[.int .i64 0, .int .i64 0] 138 (0, 0))) := (Fr.ofAlloc _ _).at (unhide HB2) (by simp)
            clear HNX HCL HPx HXx HBx HX2 HP2 HB2
            go_region_law (first
              | (refine app1s (by rfl) _ _ (by rfl) B _ _ (by rfl) (by exact (unhide HXA2).row) w2.heap.size y (by rfl) (by exact unhide HCE2) (unhide HLEN2) (by have := unhide HBS2; simp; omega) (w2.heap.size + 1) (by simp) ?_; intro g6 cap6 w10 ho hgrow hlies hlt6; obtain ⟨c11, f11, hX11, hP11⟩ := (unhide HXA2).push hgrow ho (hlies.elim Or.inl (fun e => Or.inr (by rw [e]; simp))); have HX11 := hide hX11; have HP11 := hide ((unhide HPA2).trans hP11); have HB11 := hide (hP11.keep _ _ _ _ (unhide HBA2) (by decide) (by decide)); clear ho hgrow hlies hX11 hP11)
              | (go_simp; go_at_call 109; refine (unhide HCL2).mono ?_; rintro e w' ⟨rfl, hww⟩; obtain rfl : w2.drew = w' := hww.symm; clear hww))
            all_goals
              go_wp2_with fail
              go_roundw
              case rel => exact ⟨c + 1, by go_num, unhide HLTc, unhide HP11, ⟨_, by rw [← unhide HSN2]; exact unhide HX11⟩, unhide HB11⟩
              case measure => have := unhide HLTc; simp [lenLeft, intOf]; omega
          · have hc3 : c = t.C := by omega
            subst hc3
            have HPx := hide hP
            have HXx : Hid (LB wx B gl (ds ++ rowsW t b0 mark (q + 1))) := ⟨_, by rw [← unhide HSE]; exact hx⟩
            have HBx := hide hbx
            clear HH hc hP hx hbx hlt
            go_wp2_with (go_at_call 109; refine (unhide HCL).mono ?_; rintro e w' ⟨rfl, hww⟩; obtain rfl : wx = w' := hww.symm; clear hww)
            go_roundw
            case rel => exact ⟨q + 1, by go_num, unhide HLT, unhide HPx, unhide HXx, unhide HBx⟩
            case measure => have := unhide HLT; simp [lenLeft, intOf]; omega
    · have hq2 : q = t.S := by omega
      subst hq2
      have hgx := (Array.getElem?_eq_some_iff.1 hbx).1
      have HA := hide (address_any wr B gl _ ⟨_, hx⟩ (by rw [hdl]; have := unhide HL; have := unhide HSC; omega))
      rw [hdl, ← Nat.add_assoc, unhide HB0] at HA
      have hend2 : ((b0 + t.S * (1 + t.C) : Nat) : Int) ≤ 70000 := by have := unhide HSC; have := unhide HBL; omega
      obtain ⟨b1, b2⟩ := boxA hbx
      have f0 : wr.frozen? ⟨g4, 0, none⟩ = false := frozen_of_row _ _ _ _ _ hbx
      have f1 : wr.frozen? ⟨g4, 1, none⟩ = false := frozen_of_row _ _ _ _ _ hbx
      have HP := hide hP
      have HX := hide hx
      have HBX := hide hbx
      clear HH hq hP hx hbx hlt hdl
      generalize he0 : b0 + t.S * (1 + t.C) = e0 at *
      have HE0 := hide he0
      clear he0
      go_wp2_with (go_at_call 108; refine (unhide HST).mono ?_; rintro e w' ⟨rfl, hww⟩; obtain rfl : wr = w' := hww.symm; clear hww)
      refine (unhide HA).mono ?_
      rintro e w9 ⟨rfl, hww⟩
      obtain rfl : wr = w9 := hww.symm
      clear hww
      go_wp2_with fail
      have hend : ((wr.setCell ⟨g4, 0, none⟩ (.int .i64 (b0 : Int))).setCell ⟨g4, 1, none⟩ (.int .i64 (e0 : Int))).heap[g4]? = some (Obj.cells #[.int .i64 (b0 : Int), .int .i64 (e0 : Int)] 138 (0, 0)) := by
        rw [heap_setCell_same _ _ _ _ _ _ (heap_setCell_same _ _ _ _ _ _ (unhide HBX))]; rfl
      refine bodyPost_ret (results_cell_row (p := 6) (ty := 138) rfl _ _ g4 138 _ (0, 0) _ rfl hend Try.underlying138 rfl (by kernel_rfl)) rfl ?_
      exact ⟨by rw [unhide HE0]; rfl, ((unhide HP).res (Nat.le_of_eq (unhide HG4)) (unhide HSZ) _ _).res (Nat.le_of_eq (unhide HG4)) (unhide HSZ) _ _, _, ((unhide HX).res (unhide HBX) _ _).res (heap_setCell_same _ _ _ _ _ _ (unhide HBX)) _ _⟩

end Mc
end Go.Proofs.Ytnkdbcicphnmiaa
