/-
  The document's answer: what is left of a part behind a byte.
  The document's answer: what left answers at a node, whichever.
-/
import Derived.Test.YtfooclcjehpcfaaGreatX2
import Derived.Deep.DeepCutAuto
namespace Go.Proofs.YtfooclcjehpcfaaGreat
open Go.RowKit

/-- The node that a call works on, in its own block. -/
structure Nl (w wr : World) (b : Nat) (r : Rn) : Prop where
  at_ : wr.heap[w.heap.size]? = some (.cells (rnA r) 110 (0, 0))
  off : ¬ RowAt wr b w.heap.size
  lt : b < w.heap.size
theorem Nl.start {w : World} {b : Nat} {rs : List Rn} (hb : RtS w b rs) (r : Rn) : Nl w ((w.alloc (Obj.cells Tryz.zeroCells110 110)).setRow w.heap.size (rnA r)) b r := by
  have hbl := RtS_lt hb
  have hbt : Below w.heap.size w ((w.alloc (Obj.cells Tryz.zeroCells110 110)).setRow w.heap.size (rnA r)) := below_setRow ((Below.refl _ _).alloc (Nat.le_refl _) _) (Nat.le_refl _) _
  refine ⟨setRow_heap _ _ _ (rnA r) _ _ (heap_alloc_new w _), fun hr => ?_, hbl⟩
  obtain ⟨v, fr, h1, h2⟩ := hr
  rw [hbt.block b hbl] at h1
  obtain ⟨cs, fr', h3⟩ := hb.rowNode ⟨v, fr, h1, h2⟩
  have := (Array.getElem?_eq_some_iff.1 h3).1
  omega
theorem Nl.next {w wr w1 : World} {b : Nat} {r : Rn} (h : Nl w wr b r) (hf : Fy b wr w1) : Nl w w1 b r := by
  have hl := (Array.getElem?_eq_some_iff.1 h.at_).1
  have hlt := h.lt
  refine ⟨?_, fun hr => ?_, hlt⟩
  · rw [hf.keep _ hl (by omega) h.off]; exact h.at_
  · rcases hf.row _ hr with g | g
    · exact h.off g
    · omega
theorem Nl.cells {w wr : World} {b : Nat} {r : Rn} (h : Nl w wr b r) : wr.cell? ⟨w.heap.size, 0, none⟩ = some (.int .i64 r.kind) ∧ wr.cell? ⟨w.heap.size, 1, none⟩ = some (.int .i64 r.l) ∧ wr.cell? ⟨w.heap.size, 2, none⟩ = some (.int .i64 r.r) ∧ wr.cell? ⟨w.heap.size, 3, none⟩ = some (.int .i64 r.m) ∧ wr.cell? ⟨w.heap.size, 4, none⟩ = some (.int .i64 r.n) := by
  obtain ⟨y0, y1, y2, y3, y4⟩ := rnA_fields r
  refine ⟨?_, ?_, ?_, ?_, ?_⟩ <;> rw [cell_of_row _ _ _ _ _ _ h.at_]
  · exact y0
  · exact y1
  · exact y2
  · exact y3
  · exact y4

theorem Dr.lt0 {rs : List Rn} {R : Re} {k : Nat} (h : Dr rs R (k : Int)) : k < rs.length := by
  obtain ⟨r, h1, _⟩ := h.kind
  rw [Int.toNat_natCast] at h1
  exact (List.getElem?_eq_some_iff.1 h1).1
theorem grow_trans {rs rs1 rs2 : List Rn} (h : ∃ x, rs1 = rs ++ x) (k : ∃ x, rs2 = rs1 ++ x) : ∃ x, rs2 = rs ++ x := by
  obtain ⟨x, rfl⟩ := h
  obtain ⟨y, rfl⟩ := k
  exact ⟨x ++ y, by rw [List.append_assoc]⟩
/-- What left answers. -/
structure LfOk (rs0 : List Rn) (b : Nat) (w w' : World) (rs : List Rn) (U : List (List Nm)) (L : Lang) (v : Value) (X : List ByteArray) (rs' : List Rn) : Prop where
  fy : Fy b w w'
  rt : RtS w' b rs'
  gr : GrowT rs0 rs'
  ex : ∃ x, rs' = rs ++ x
  row : SRow w' 0 v X
  vs : VSet rs0 rs' U X
  eq : stB rs' X = L

/-- What left does at a node. -/
def DoesLf (rs0 : List Rn) (b c : Nat) (R : Re) : Prop := ∀ (kn : Nat) (w : World) (rs : List Rn), R.wt ≤ 12 → Dr rs0 R (kn : Int) → RtS w b rs → GrowT rs0 rs →
    Calls Tryz.prog 47 #[.pointer (some ⟨b, 0, none⟩), .int .i64 (kn : Int), .int .i64 (c : Int)] w fun e w' => ∃ v X rs', e = .returned v ∧ LfOk rs0 b w w' rs (uni rs0 R kn) (derL c R.L) v X rs'
theorem phi_len (rs0 : List Rn) : rs0.length ≤ phiR rs0 := by have := ctsT_len rs0; omega

set_option maxRecDepth 20000 in
set_option maxHeartbeats 2000000 in
theorem left_blank {rs0 : List Rn} (hphi : phiR rs0 ≤ 121) (hwf : WfT rs0) {b c : Nat} (hc : c < 256)  : DoesLf rs0 b c .blank := by
    have HPHI := hide hphi
    have HWF := hide hwf
    intro kn w rs hwt hd hb hg
    obtain ⟨r, h0, h1, hk⟩ := hd
    have hmem : ∃ e, rs = rs0 ++ e := hg.gr.pre
    obtain ⟨e0, he0⟩ := hmem
    rw [Int.toNat_natCast] at h1
    have h1' : rs[kn]? = some r := by rw [he0]; exact getElem?_app h1 e0
    have hbl := RtS_lt hb
    have hsm := hg.small
    have hl' : (rs.length : Int) ≤ 121 := by have := unhide HPHI; omega
    have hcI : (c : Int) < 256 := by omega
    obtain ⟨g, cap, hkl', c0, hcc⟩ := nd_begin hb h1'
    have HL := hide hcc
    have HN1 := hide (heap_alloc_new w (Obj.cells Tryz.zeroCells110 110))
    have hbt : Below w.heap.size w ((w.alloc (Obj.cells Tryz.zeroCells110 110)).setRow w.heap.size (rnA r)) := below_setRow ((Below.refl _ _).alloc (Nat.le_refl _) _) (Nat.le_refl _) _
    have HNL := hide (Nl.start hb r)
    have HF0 := hide (Fy.ofBelow hbt hbl)
    have HRT2 := hide (RtS_below hb hbt)
    have HG := hide hg
    obtain ⟨x0, x1, x2, x3, x4⟩ := nd_cells w r
    rw [hk] at x0
    have HKR : Hid (kn < rs0.length ∧ rs0[kn]? = some r) := ⟨(List.getElem?_eq_some_iff.1 h1).1, h1⟩
    have HE0 := hide he0
    have HC256 := hide hc
    clear hbt hb h1 h1' h0 hcc hg hsm he0 hbl hc hphi hwf hwt
    go_enter Tryz.func47, Tryz.ntmps47
    go_upto_region 2 with (first
      | refine wpList_load_mid rfl 110 _ rfl ⟨g, kn * 261, none⟩ rfl (rnA r) (unhide HL) _ Tryz.underlying110 rfl (by rw [size_rnA]; exact info78) ?_
      | refine wpList_store_row0 rfl 110 _ _ rfl rfl w.heap.size _ rfl rfl 110 _ (unhide HN1) (by rw [size_rnA]; exact info78) (by rw [zero78, size_rnA, size_rnA]) (rnA_one _) ?_)
    clear HL HN1 c0
    go_wp2_with fail
    go_ret
    exact ⟨_, [], rs, rfl, unhide HF0, unhide HRT2, unhide HG, ⟨[], by simp⟩, World.ownsRow_nil _ _ _ _, VSet.nil _ _ _, by rw [stB_nil]; exact (der_eps c).symm⟩

set_option maxRecDepth 20000 in
set_option maxHeartbeats 2000000 in
theorem left_set {rs0 : List Rn} (hphi : phiR rs0 ≤ 121) (hwf : WfT rs0) {b c : Nat} (hc : c < 256) (f : Nat → Bool) : DoesLf rs0 b c (.set f) := by
    have HPHI := hide hphi
    have HWF := hide hwf
    intro kn w rs hwt hd hb hg
    obtain ⟨r, h0, h1, hk, hf⟩ := hd
    have hmem : ∃ e, rs = rs0 ++ e := hg.gr.pre
    obtain ⟨e0, he0⟩ := hmem
    rw [Int.toNat_natCast] at h1
    have h1' : rs[kn]? = some r := by rw [he0]; exact getElem?_app h1 e0
    have hbl := RtS_lt hb
    have hsm := hg.small
    have hl' : (rs.length : Int) ≤ 121 := by have := unhide HPHI; omega
    have hcI : (c : Int) < 256 := by omega
    obtain ⟨g, cap, hkl', c0, hcc⟩ := nd_begin hb h1'
    have HL := hide hcc
    have HN1 := hide (heap_alloc_new w (Obj.cells Tryz.zeroCells110 110))
    have hbt : Below w.heap.size w ((w.alloc (Obj.cells Tryz.zeroCells110 110)).setRow w.heap.size (rnA r)) := below_setRow ((Below.refl _ _).alloc (Nat.le_refl _) _) (Nat.le_refl _) _
    have HNL := hide (Nl.start hb r)
    have HF0 := hide (Fy.ofBelow hbt hbl)
    have HRT2 := hide (RtS_below hb hbt)
    have HG := hide hg
    obtain ⟨x0, x1, x2, x3, x4⟩ := nd_cells w r
    rw [hk] at x0
    have HKR : Hid (kn < rs0.length ∧ rs0[kn]? = some r) := ⟨(List.getElem?_eq_some_iff.1 h1).1, h1⟩
    have HE0 := hide he0
    have HC256 := hide hc
    clear hbt hb h1 h1' h0 hcc hg hsm he0 hbl hc hphi hwf hwt
    have x5 : ((w.alloc (Obj.cells Tryz.zeroCells110 110)).setRow w.heap.size (rnA r)).cell? ⟨w.heap.size, 5 + c, none⟩ = some (.bool (f c)) := by
      rw [cell_of_row _ _ _ _ _ _ (unhide HNL).at_, ← hf]
      unfold rnA
      rw [Array.getElem?_append_right (by simp)]
      simp only [List.size_toArray, List.length_cons, List.length_nil, Nat.add_sub_cancel_left]
      exact get_setA r.f c (unhide HC256)
    cases hfc : f c
    · rw [hfc] at x5
      have HS : Hid (derL c (Re.set f).L = voidL) := by show derL c (setL f) = _; rw [der_set, if_neg (by rw [hfc]; simp)]
      clear hfc hf
      go_enter Tryz.func47, Tryz.ntmps47
      go_upto_region 2 with (first
        | refine wpList_load_mid rfl 110 _ rfl ⟨g, kn * 261, none⟩ rfl (rnA r) (unhide HL) _ Tryz.underlying110 rfl (by rw [size_rnA]; exact info78) ?_
        | refine wpList_store_row0 rfl 110 _ _ rfl rfl w.heap.size _ rfl rfl 110 _ (unhide HN1) (by rw [size_rnA]; exact info78) (by rw [zero78, size_rnA, size_rnA]) (rnA_one _) ?_)
      clear HL HN1 c0
      go_wp2_with fail
      go_ret
      exact ⟨_, [], rs, rfl, unhide HF0, unhide HRT2, unhide HG, ⟨[], by simp⟩, World.ownsRow_nil _ _ _ _, VSet.nil _ _ _, by rw [stB_nil]; exact (unhide HS).symm⟩
    · rw [hfc] at x5
      have HS : Hid (derL c (Re.set f).L = epsL) := by show derL c (setL f) = _; rw [der_set, if_pos hfc]
      clear hfc hf
      go_enter Tryz.func47, Tryz.ntmps47
      go_upto_region 2 with (first
        | refine wpList_load_mid rfl 110 _ rfl ⟨g, kn * 261, none⟩ rfl (rnA r) (unhide HL) _ Tryz.underlying110 rfl (by rw [size_rnA]; exact info78) ?_
        | refine wpList_store_row0 rfl 110 _ _ rfl rfl w.heap.size _ rfl rfl 110 _ (unhide HN1) (by rw [size_rnA]; exact info78) (by rw [zero78, size_rnA, size_rnA]) (rnA_one _) ?_)
      clear HL HN1 c0
      go_wp2_with fail
      go_ret
      have hbn : Below ((w.alloc (Obj.cells Tryz.zeroCells110 110)).setRow w.heap.size (rnA r)).heap.size ((w.alloc (Obj.cells Tryz.zeroCells110 110)).setRow w.heap.size (rnA r)) (((w.alloc (Obj.cells Tryz.zeroCells110 110)).setRow w.heap.size (rnA r)).alloc (Obj.cells #[.string ⟨#[]⟩] 9)) := (Below.refl _ _).alloc (Nat.le_refl _) _
      refine ⟨_, [⟨#[]⟩], rs, rfl, (unhide HF0).trans (Fy.ofBelow hbn (RtS_lt (unhide HRT2))), RtS_below (unhide HRT2) hbn, unhide HG, ⟨[], by simp⟩, ?_, VSet.one (by simp [uni]), by rw [stB_one]; exact (unhide HS).symm⟩
      exact ⟨rfl, .inr ⟨_, 1, #[.string ⟨#[]⟩], rfl, Nat.zero_le _, by have h := heap_alloc_new ((w.alloc (Obj.cells Tryz.zeroCells110 110)).setRow w.heap.size (rnA r)) (Obj.cells #[.string ⟨#[]⟩] 9); simpa using h, Nat.le_refl _, by unfold maxLen; omega, rfl, rfl⟩⟩

end Go.Proofs.YtfooclcjehpcfaaGreat
namespace Go.Proofs.YtfooclcjehpcfaaGreat
open Go.RowKit

/-- What left answers at a node. -/
structure LnOk (rs0 : List Rn) (b c : Nat) (w w' : World) (rs : List Rn) (kn : Nat) (v : Value) (X : List ByteArray) (rs' : List Rn) : Prop where
  fy : Fy b w w'
  rt : RtS w' b rs'
  gr : GrowT rs0 rs'
  ex : ∃ x, rs' = rs ++ x
  row : SRow w' 0 v X
  num : ∀ s ∈ X, ∀ k ∈ bytesN s, k < rs'.length ∧ NumOk rs0 rs' k
  der : ∀ s ∈ X, Der1 rs0 (nmOf rs0 rs kn) (nmS rs0 rs' s)
  len : X.length ≤ 12
  size : ∀ s ∈ X, s.size ≤ 200
  eq : stB rs' X = derL c (LN rs kn)
theorem LfOk.ln {rs0 : List Rn} {b c : Nat} {w w' : World} {rs : List Rn} {kn : Nat} {v : Value} {X : List ByteArray} {rs' : List Rn} {U : List (List Nm)} {L : Lang} (h : LfOk rs0 b w w' rs U L v X rs') (hd : ∀ u ∈ U, Der1 rs0 (nmOf rs0 rs kn) u) (hl : U.length ≤ 12) (hz : ∀ u ∈ U, u.length ≤ 200) (hL : L = derL c (LN rs kn)) : LnOk rs0 b c w w' rs kn v X rs' :=
  ⟨h.fy, h.rt, h.gr, h.ex, h.row, fun s hs k hk => ⟨(h.vs.inu s hs).1 k hk, h.vs.num s hs k hk⟩, fun s hs => hd _ (h.vs.inu s hs).2, Nat.le_trans (h.vs.len h.gr) hl, fun s hs => by
    have := hz _ (h.vs.inu s hs).2
    unfold nmS at this
    rw [List.length_map, bytesN_len] at this
    exact this, by rw [← hL]; exact h.eq⟩
/-- What left does at every node. -/
def DoesLn (rs0 : List Rn) (b c : Nat) : Prop := ∀ (kn : Nat) (rs : List Rn) (w : World), RtS w b rs → GrowT rs0 rs → NumOk rs0 rs kn →
    Calls Tryz.prog 47 #[.pointer (some ⟨b, 0, none⟩), .int .i64 (kn : Int), .int .i64 (c : Int)] w fun e w' => ∃ v X rs', e = .returned v ∧ LnOk rs0 b c w w' rs kn v X rs'

end Go.Proofs.YtfooclcjehpcfaaGreat
