/-
  judge.layer.verdicts.
  policies.Image.Table.
-/
import Derived.Test.YtnkdbcicphnmiaaPi
import Derived.Deep.MidRow
namespace Go.Proofs.Ytnkdbcicphnmiaa
namespace Mc
open Go.RowKit
attribute [local go_sem ↓] Go.wp_at_zero Go.wp_at_succ

theorem PresL.ofBelow {B : Nat} {w w' : World} (h : Below w.heap.size w w') (hB : B ≤ w.heap.size) : PresL B w w' :=
  ⟨⟨h.os, h.tape, h.output, h.size, fun k hk => h.block k (by omega)⟩, fun k cs ty fr hk _ _ => (Fr.ofBelow h).at hk (by simp)⟩
theorem LBx.below {w w' : World} {B gl : Nat} {v : Value} {ds : List Nat} (h : LBx w B gl v ds) (hb : Below w.heap.size w w') : LBx w' B gl v ds := ⟨h.hB, (Fr.ofBelow hb).at h.heap (by simp), (Fr.ofBelow hb).own h.row (by simp)⟩
theorem ImB.presL {w w' : World} {B gi N m tc : Nat} {f : ByteArray} {ta : Option Addr} (h : ImB w gi N f ta m tc) (hp : PresL B w w') : ImB w' gi N f ta m tc := ⟨hp.keep _ _ _ _ h.heap (by decide) (by decide)⟩

/-- The verdicts' words. -/
def verdW (f : ByteArray) (m n : Nat) : List Nat := (List.range n).map fun s => (trueF f (bitsM s m)).toNat
theorem verdW_succ (f : ByteArray) (m n : Nat) : verdW f m (n + 1) = verdW f m n ++ [(trueF f (bitsM n m)).toNat] := by unfold verdW; rw [List.range_succ, List.map_append]; rfl
theorem verdW_len (f : ByteArray) (m n : Nat) : (verdW f m n).length = n := by unfold verdW; simp

set_option maxRecDepth 20000 in
set_option maxHeartbeats 1000000 in
theorem verdicts_any (w : World) (B gl gi N m tc : Nat) (f : ByteArray) (ta : Option Addr) (ds : List Nat) (h : LB w B gl ds) (hi : ImB w gi N f ta m tc) (hm : m ≤ 4) (hf : f.size ≤ 1000) (hl : ds.length ≤ 50000) :
    Calls Try.prog 80 #[.pointer (some ⟨gl, 0, none⟩), .pointer (some ⟨gi, 0, none⟩)] w fun e w' => e = .returned (arV (32 + ds.length) (32 + ds.length + 2 ^ m)) ∧ PresL B w w' ∧ LB w' B gl (ds ++ verdW f m (2 ^ m)) := by
  obtain ⟨v, hx⟩ := h
  have HSZ : Hid (B ≤ w.heap.size) := by have := hx.hB; have := hx.lt; show _ ≤ _; omega
  have HA0 := hide (address_any _ B gl ds ⟨v, hx.alloc (Obj.cells #[.int .i64 0, .int .i64 0] 138)⟩ (by omega))
  have HP0 : Hid (PresL B w (w.alloc (Obj.cells #[.int .i64 0, .int .i64 0] 138))) := PresL.alloc B w _ (unhide HSZ)
  have HX0 : Hid (LB (w.alloc (Obj.cells #[.int .i64 0, .int .i64 0] 138)) B gl (ds ++ verdW f m 0)) := by
    show LB _ _ _ _
    rw [show ds ++ verdW f m 0 = ds by simp [verdW]]
    exact ⟨v, hx.alloc _⟩
  have HBX : Hid ((w.alloc (Obj.cells #[.int .i64 0, .int .i64 0] 138)).heap[w.heap.size]? = some (Obj.cells #[.int .i64 0, .int .i64 0] 138 (0, 0))) := heap_alloc_new _ _
  have HI := hide (fun w' (hp : PresL B w w') => hi.presL hp)
  have HL := hide hl
  have HM := hide hm
  have HF := hide hf
  have hlI : (ds.length : Int) ≤ 50000 := by omega
  have hmI : (m : Int) ≤ 4 := by omega
  clear hx hi hl hm hf
  go_enter Try.func80, Try.ntmps80
  go_wp2_with fail
  refine (unhide HA0).mono ?_
  rintro e w1 ⟨rfl, hww⟩
  rw [hww]
  clear hww
  go_wp2_with fail
  generalize hg4 : w.heap.size = g4 at *
  have HG4 := hide hg4
  clear hg4
  generalize hwa : (w.alloc (Obj.cells #[.int .i64 0, .int .i64 0] 138)) = wa at *
  clear hwa HA0
  go_loop [6, 7] (fun sx ix => ∃ i : Nat, sx = .int .i64 ((2 ^ i : Nat) : Int) ∧ ix = .int .i64 (i : Int) ∧ Hid (i ≤ m)) (fun _ ix => lenLeft m ix)
  case atStart => exact ⟨0, rfl, rfl, Nat.zero_le _⟩
  case round =>
    obtain ⟨i, rfl, rfl, HH⟩ := hrel
    have HR := hide (Rules_any wa gi N m tc f ta (unhide HI wa (unhide HP0)))
    by_cases hlt : i < m
    · have hltI : (i : Int) < (m : Int) := by omega
      have hp16 : 2 ^ i ≤ 16 := by
        have := unhide HM
        exact Nat.le_trans (Nat.pow_le_pow_right (by decide) (show i ≤ 4 by omega)) (by decide)
      have e1 : ((2 ^ i : Nat) : Int) * 2 = ((2 ^ (i + 1) : Nat) : Int) := by rw [Nat.pow_succ, Int.natCast_mul]; rfl
      have ew : IntKind.i64.wrap ((2 ^ (i + 1) : Nat) : Int) = ((2 ^ (i + 1) : Nat) : Int) := wrap_i64 (2 ^ (i + 1)) (by rw [Nat.pow_succ]; omega)
      have HLT := hide hlt
      clear hlt hp16
      generalize 2 ^ i = p at *
      generalize hp2 : 2 ^ (i + 1) = p2 at *
      have HP2 := hide hp2
      clear hp2
      go_wp2_with fail
      refine (unhide HR).mono ?_
      rintro e w2 ⟨rfl, hww⟩
      rw [hww]
      clear hww
      go_wp2_with fail
      go_round
      case rel => exact ⟨i + 1, by rw [unhide HP2], by go_num, unhide HLT⟩
      case measure => have := unhide HLT; simp [lenLeft, intOf]; omega
    · have hi2 : i = m := by have := unhide HH; omega
      subst hi2
      have hp16 : 2 ^ i ≤ 16 := by
        have := unhide HM
        exact Nat.le_trans (Nat.pow_le_pow_right (by decide) this) (by decide)
      clear hlt HH
      generalize hpe : 2 ^ i = p at *
      have HPE := hide hpe
      clear hpe
      have hpI : (p : Int) ≤ 16 := by omega
      go_wp2_with fail
      refine (unhide HR).mono ?_
      rintro e w2 ⟨rfl, hww⟩
      rw [hww]
      clear hww
      go_wp2_with fail
      go_loopw [8] (fun ix wr => ∃ s : Nat, ix = .int .i64 (s : Int) ∧ Hid (s ≤ p ∧ PresL B w wr ∧ LB wr B gl (ds ++ verdW f i s) ∧ wr.heap[g4]? = some (Obj.cells #[.int .i64 0, .int .i64 0] 138 (0, 0)))) (fun ix _ => lenLeft p ix)
      case atStart => exact ⟨0, rfl, Nat.zero_le _, unhide HP0, unhide HX0, unhide HBX⟩
      case round =>
        clear HP0 HX0 HBX HR
        rename World => wr
        obtain ⟨s, rfl, HH⟩ := hrel
        obtain ⟨hs, hP, ⟨v, hx⟩, hbx⟩ := unhide HH
        have hdl : (ds ++ verdW f i s).length = ds.length + s := by rw [List.length_append, verdW_len]
        by_cases hlt : s < p
        · have hltI : (s : Int) < (p : Int) := by omega
          have HR := hide (Rules_any wr gi N i tc f ta (unhide HI wr hP))
          have HMK := hide (marked_any wr s i (by omega) (by have := unhide HM; omega))
          have HLT := hide hlt
          have HLEN : Hid ((ds ++ verdW f i s).length ≤ 3000000) := by have := unhide HL; rw [hdl]; show _ ≤ _; omega
          have HSN : Hid (ds ++ verdW f i (s + 1) = ds ++ verdW f i s ++ [(trueF f (bitsM s i)).toNat]) := by show _ = _; rw [verdW_succ, List.append_assoc]
          have HP := hide hP
          have HX := hide hx
          have HBX := hide hbx
          clear HH hs hP hx hbx hlt hdl
          generalize ds ++ verdW f i s = xs at *
          go_wp2_with fail
          refine (unhide HR).mono ?_
          rintro e w3 ⟨rfl, hww⟩
          obtain rfl : wr = w3 := hww.symm
          clear hww HR
          go_wp2_with fail
          refine (unhide HMK).mono ?_
          rintro e w4 ⟨vb, rfl, hb4, hr4⟩
          have HX4 := hide ((unhide HX).below hb4)
          have HP4' := hide (PresL.ofBelow (B := B) hb4 (by have := (unhide HX).hB; have := (unhide HX).lt; omega))
          have HP4 := hide ((unhide HP).trans (unhide HP4'))
          have HB4 := hide ((unhide HP4').keep _ _ _ _ (unhide HBX) (by decide) (by decide))
          have HGR := hide (Grants_any w4 gi N i tc wr.heap.size f ta _ vb (unhide HI w4 (unhide HP4)) hr4 (unhide HF) (by rw [bitsM_len]; have := unhide HM; omega))
          obtain ⟨ba, bc, rfl⟩ := hr4.form
          clear hb4 hr4 HMK HP HX HBX HP4'
          go_wp2_with fail
          refine (unhide HGR).mono ?_
          rintro e w5 ⟨rfl, hb5⟩
          have hx5 := (unhide HX4).below hb5
          have HP5' := hide (PresL.ofBelow (B := B) hb5 (by have := (unhide HX4).hB; have := (unhide HX4).lt; omega))
          have HP5 := hide ((unhide HP4).trans (unhide HP5'))
          have HB5 := hide ((unhide HP5').keep _ _ _ _ (unhide HB4) (by decide) (by decide))
          obtain ⟨va, vc, rfl⟩ := hx5.row.form
          have c0 := hx5.cell
          have hgl := hx5.lt
          have HBS : Hid (B ≤ w5.heap.size) := by have := hx5.hB; show _ ≤ _; omega
          generalize trueF f (bitsM s i) = y at *
          have HXA := hide (fun (z : Int) => hx5.alloc (Obj.cells #[.int .i64 z] 3))
          have HPA : Hid (∀ z : Int, PresL B w (w5.alloc (Obj.cells #[.int .i64 z] 3))) := fun z => (unhide HP5).trans (PresL.alloc B w5 _ (unhide HBS))
          have HBA : Hid (∀ z : Int, (w5.alloc (Obj.cells #[.int .i64 z] 3)).heap[g4]? = some (Obj.cells #[.int .i64 0, .int .i64 0] 138 (0, 0))) := fun z => (Fr.ofAlloc _ _).at (unhide HB5) (by simp)
          clear hb5 hx5 HGR HX4 HP4 HB4 HP5' HP5 HB5
          cases y
          all_goals
            go_wp2_with (at_builtin; refine app1 rfl (.tmp 37) (.tmp 39) rfl B _ _ rfl (unhide HXA _).row w5.heap.size _ rfl (new_cell rfl) (unhide HLEN) (by have := unhide HBS; simp; omega) (w5.heap.size + 1) (by simp) ?_; intro g5 cap5 w8 ho hgrow hlies hlt5; obtain ⟨c9, f9, hX9, hP9⟩ := (unhide HXA _).push hgrow ho (hlies.elim Or.inl (fun e => Or.inr (by rw [e]; simp))); have HX9 := hide hX9; have HP9 := hide ((unhide HPA _).trans hP9); have HB9 := hide (hP9.keep _ _ _ _ (unhide HBA _) (by decide) (by decide)); clear ho hgrow hlies hX9 hP9)
            go_roundw
            case rel => exact ⟨s + 1, by go_num, unhide HLT, unhide HP9, ⟨_, by rw [unhide HSN]; exact unhide HX9⟩, unhide HB9⟩
            case measure => have := unhide HLT; simp [lenLeft, intOf]; omega
        · have hs2 : s = p := by omega
          subst hs2
          have hgx := (Array.getElem?_eq_some_iff.1 hbx).1
          have HA := hide (address_any wr B gl _ ⟨_, hx⟩ (by rw [hdl]; have := unhide HL; omega))
          rw [hdl] at HA
          obtain ⟨b0, b1⟩ := boxA hbx
          have f0 : wr.frozen? ⟨g4, 0, none⟩ = false := frozen_of_row _ _ _ _ _ hbx
          have f1 : wr.frozen? ⟨g4, 1, none⟩ = false := frozen_of_row _ _ _ _ _ hbx
          have HP := hide hP
          have HX := hide hx
          have HBX := hide hbx
          clear HH hs hP hx hbx hlt hdl
          go_wp2_with fail
          refine (unhide HA).mono ?_
          rintro e w9 ⟨rfl, hww⟩
          obtain rfl : wr = w9 := hww.symm
          clear hww
          go_wp2_with fail
          have hend : ((wr.setCell ⟨g4, 0, none⟩ (.int .i64 (32 + (ds.length : Int)))).setCell ⟨g4, 1, none⟩ (.int .i64 (32 + ((ds.length : Int) + (s : Int))))).heap[g4]? = some (Obj.cells #[.int .i64 (32 + (ds.length : Int)), .int .i64 (32 + ((ds.length : Int) + (s : Int)))] 138 (0, 0)) := by
            rw [heap_setCell_same _ _ _ _ _ _ (heap_setCell_same _ _ _ _ _ _ (unhide HBX))]; rfl
          refine bodyPost_ret (results_cell_row (p := 4) (ty := 138) rfl _ _ g4 138 _ (0, 0) _ rfl hend Try.underlying138 rfl (by kernel_rfl)) rfl ?_
          rw [unhide HPE]
          refine ⟨?_, ((unhide HP).res (Nat.le_of_eq (unhide HG4)) (unhide HSZ) _ _).res (Nat.le_of_eq (unhide HG4)) (unhide HSZ) _ _, _, ((unhide HX).res (unhide HBX) _ _).res (heap_setCell_same _ _ _ _ _ _ (unhide HBX)) _ _⟩
          unfold arV
          push_cast
          rw [Int.add_assoc]

end Mc
end Go.Proofs.Ytnkdbcicphnmiaa
namespace Go.Proofs.Ytnkdbcicphnmiaa
namespace Mc
open Go.RowKit

def zcTb : Array Value := tbC (fun _ => 0) 0 (.slice none 0 0) (.slice none 0 0)
theorem tbC_size (cl : Nat → Nat) (C : Nat) (gv nv : Value) : (tbC cl C gv nv).size = 259 := by unfold tbC; simp [ncs]
theorem zcTb_size : zcTb.size = 259 := tbC_size _ _ _ _
theorem zcTb_ne : zcTb ≠ #[] := fun e => by have := zcTb_size; rw [e] at this; simp at this
theorem zvTb (w : World) : (zeroValue 142).run Try.prog w = .ok (.agg zcTb) w := by kernel_rfl
theorem aggcells (cs : Array Value) : (Value.agg cs).cells = cs := rfl
theorem tbC_one (a b : Option Addr) (n1 n2 c1 c2 : Nat) (cl : Nat → Nat) (C : Nat) : (tbC cl C (.slice a n1 c1) (.slice b n2 c2)).all (·.oneCell') = true := by
  unfold tbC
  rw [List.all_toArray, List.all_append, Bool.and_eq_true]
  refine ⟨?_, rfl⟩
  unfold ncs
  rw [List.all_map, List.all_eq_true]
  intro x _
  rfl
theorem infoT : (Try.prog.info? 142).map (·.size) = some 259 := by kernel_rfl

theorem store_row {P : Program} {ops : Array Oper} {rest : List Oper} {o : Oper} {a : Act} {w : World} {Q : Exit → Act → World → Prop} (hgd : o.guard = none) (ty : TypeId) (x y : Operand) (ho : o.op = .store ty x y) (hd : o.dst = none)
    (g : Nat) (cells : Array Value) (hx : a.eval x = .pointer (some ⟨g, 0, none⟩)) (hy : a.eval y = .agg cells)
    (t : TypeId) (old : Array Value) (hg : w.heap[g]? = some (.cells old t (0, 0))) (hi : (P.info? ty).map (·.size) = some cells.size)
    (hold : old.size = cells.size) (h1 : cells.all (·.oneCell') = true)
    (h : wpList P ops Q rest a (w.setRow g cells)) : wpList P ops Q (o :: rest) a w :=
  wpList_store_row hgd ty x y ho g cells hx hy t old hg hi hold h1 (by rw [hd]; exact h)
/-- The rows of a table. -/
structure TRws (w : World) (B : Nat) (t : TabN) (gv nv : Value) : Prop where
  ok : t.Ok
  ex : ∃ bs ns, BR w 0 gv bs ∧ NR w 0 nv ns ∧ (∀ q, gv.ownBlock = some q → q < B) ∧ (∀ q, nv.ownBlock = some q → q < B) ∧ bs.length = t.S ∧ (∀ q, q < t.S → bs.getD q false = t.gr q) ∧ ns.length = t.S * t.C ∧ ∀ q c, q < t.S → c < t.C → ns.getD (q * t.C + c) 0 = t.nx q c
theorem TRws.form {w : World} {B : Nat} {t : TabN} {gv nv : Value} (h : TRws w B t gv nv) : ∃ a1 n1 c1 a2 n2 c2, gv = .slice a1 n1 c1 ∧ nv = .slice a2 n2 c2 := by
  obtain ⟨bs, ns, h1, h2, -⟩ := h.ex
  obtain ⟨a, c, e⟩ := h1.form
  obtain ⟨a', c', e'⟩ := h2.form
  exact ⟨_, _, _, _, _, _, e, e'⟩
theorem TRws.below {w w' : World} {B : Nat} {t : TabN} {gv nv : Value} (h : TRws w B t gv nv) (hb : Below B w w') : TRws w' B t gv nv := by
  obtain ⟨bs, ns, h1, h2, q1, q2, r⟩ := h.ex
  exact ⟨h.ok, bs, ns, row_keep hb h1 q1, row_keep hb h2 q2, q1, q2, r⟩
theorem TRws.tab {w : World} {B gt : Nat} {t : TabN} {gv nv : Value} (h : TRws w B t gv nv) (hg : w.heap[gt]? = some (.cells (tbC t.cl t.C gv nv) 142 (0, 0))) : TbB w B gt t := by
  obtain ⟨bs, ns, r⟩ := h.ex
  exact ⟨h.ok, gv, nv, bs, ns, hg, r⟩
/-- The tables of an image: in a block, one behind the other. -/
structure Tbs (w : World) (B g m : Nat) (ts : Nat → TabN) : Prop where
  at_ : ∀ i, i < m → ∃ gv nv, w.rangeAt g (i * 259) (tbC (ts i).cl (ts i).C gv nv).toList ∧ TRws w B (ts i) gv nv
  lt : g < B
theorem Tbs.below {w w' : World} {B g m : Nat} {ts : Nat → TabN} (h : Tbs w B g m ts) (hb : Below B w w') : Tbs w' B g m ts :=
  ⟨fun i hi => by
    obtain ⟨gv, nv, h1, h2⟩ := h.at_ i hi
    exact ⟨gv, nv, fun j v hv => (World.cell?_of_block (hb.block g h.lt)).trans (h1 j v hv), h2.below hb⟩, h.lt⟩

section
attribute [local go_sem ↓] Go.wp_at_zero Go.wp_at_succ zvTb
attribute [local go_sem] zcTb_size zcTb_ne aggcells
set_option maxRecDepth 20000 in
set_option maxHeartbeats 1000000 in
theorem Table_any (w : World) (B gi N m tc g : Nat) (f : ByteArray) (ts : Nat → TabN) (h : ImB w gi N f (some ⟨g, 0, none⟩) m tc) (ht : Tbs w B g m ts) (hB : B ≤ w.heap.size) (i : Nat) (hi : i < m) (hm : m ≤ 4) :
    Calls Try.prog 83 #[.pointer (some ⟨gi, 0, none⟩), .int .i64 (i : Int)] w fun e w' => Below w.heap.size w w' ∧ ∃ gv nv, e = .returned (.agg (tbC (ts i).cl (ts i).C gv nv)) ∧ TRws w' B (ts i) gv nv := by
  obtain ⟨gv, nv, hr, hw⟩ := ht.at_ i hi
  have c2 : w.cell? ⟨gi, 2, none⟩ = some (.slice (some ⟨g, 0, none⟩) m tc) := by rw [cell_of_row _ _ _ _ _ _ h.heap]; rfl
  have hgi := (Array.getElem?_eq_some_iff.1 h.heap).1
  have hg := ht.lt
  have hiI : (i : Int) < (m : Int) := by omega
  have hmI : (m : Int) ≤ 4 := by omega
  have hi0 : (0 : Int) ≤ (i : Int) := by omega
  have hi1 : ((i : Int)).toNat = i := by omega
  have HR : Hid ((w.alloc (.cells zcTb 142)).rangeAt g (i * 259) (tbC (ts i).cl (ts i).C gv nv).toList) := fun j v hv => (Fr.ofAlloc w _).cell (hr j v hv) (by simp)
  obtain ⟨a1, n1, k1, a2, n2, k2, rfl, rfl⟩ := hw.form
  have HW := hide hw
  have HB0 : Hid (Below w.heap.size w (w.alloc (.cells zcTb 142))) := (Below.refl _ _).alloc (Nat.le_refl _) _
  have HN : Hid ((w.alloc (.cells zcTb 142)).heap[w.heap.size]? = some (.cells zcTb 142 (0, 0))) := heap_alloc_new _ _
  have HBB := hide hB
  have HSZ := hide (tbC_size (ts i).cl (ts i).C (.slice a1 n1 k1) (.slice a2 n2 k2))
  have HON := hide (tbC_one a1 a2 n1 n2 k1 k2 (ts i).cl (ts i).C)
  clear hr hw h ht hB hi hm
  generalize hcs : tbC (ts i).cl (ts i).C (.slice a1 n1 k1) (.slice a2 n2 k2) = cs at *
  have HCS := hide hcs
  clear hcs
  go_enter Try.func83, Try.ntmps83
  go_wp2_with (first
    | refine wpList_load_mid rfl 142 _ rfl g (i * 259) rfl cs.toList _ (unhide HR) Try.underlying142 rfl (by rw [Array.length_toList, unhide HSZ]; exact infoT) ?_
    | refine store_row rfl 142 _ _ rfl rfl w.heap.size cs rfl rfl 142 _ (unhide HN) (by rw [unhide HSZ]; exact infoT) (by rw [zcTb_size]; exact (unhide HSZ).symm) (unhide HON) ?_)
  refine bodyPost_ret (results_cell_row (p := 4) (ty := 142) rfl _ _ w.heap.size 142 _ (0, 0) _ rfl (setRow_heap _ _ _ _ _ _ (unhide HN)) Try.underlying142 rfl (by rw [unhide HSZ]; exact infoT)) rfl ?_
  have hb : Below w.heap.size w ((w.alloc (.cells zcTb 142)).setRow w.heap.size cs) := ((Fr.ofBelow (unhide HB0)).row (Or.inr (Nat.le_refl _)) cs).below (fun x hx => by cases hx)
  refine ⟨hb, _, _, by rw [← unhide HCS], (unhide HW).below (hb.mono (unhide HBB))⟩
end

end Mc
end Go.Proofs.Ytnkdbcicphnmiaa
