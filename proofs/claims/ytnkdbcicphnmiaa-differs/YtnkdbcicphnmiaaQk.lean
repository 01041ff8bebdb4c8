/-
  veilref.Read.
-/
import Derived.Test.YtnkdbcicphnmiaaQg
import Derived.Test.YtnkdbcicphnmiaaQj
namespace Go.Proofs.Ytnkdbcicphnmiaa
namespace Mc
open Go.RowKit

theorem infoSt : (Try.prog.info? 9).map (fun i => (i.zero, i.size, i.bytes)) = some (some (.string ⟨#[]⟩), 1, 16) := by kernel_rfl
theorem infoVi : (Try.prog.info? 75).map (·.size) = some 3 := by kernel_rfl
def scs (xs : List ByteArray) : List Value := xs.map .string
def SR (w : World) (B : Nat) (v : Value) (xs : List ByteArray) : Prop := w.ownsRow B 9 1 v xs.length (scs xs)
theorem SR.of {w : World} {B : Nat} {v : Value} {xs : List ByteArray} {y : ByteArray} (h : w.ownsRow B 9 1 v (xs.length + 1) (scs xs ++ [.string y])) : SR w B v (xs ++ [y]) := by
  unfold SR scs; rw [List.length_append, List.map_append]; exact h
/-- A string is appended to a row, in a region that draws its order. -/
theorem appS {ops : Array Oper} {o : Oper} {a : Act} {W : World} {K : Act → World → Prop} {Q : Exit → Act → World → Prop} {E : Prop} (hgd : o.guard = none) (s x : Operand)
    (ho : o.op = .call { callee := .builtin .append, args := #[s, x], argTypes := #[73, 73] }) (B : Nat) (v : Value) (xs : List ByteArray) (hs : a.eval s = v) (hown : SR W B v xs) (g0 : Nat) (y : ByteArray)
    (hx : a.eval x = .slice (some ⟨g0, 0, none⟩) 1 1) (hc : W.cell? ⟨g0, 0, none⟩ = some (.string y)) (hlen : xs.length ≤ 3000000) (hB : B ≤ W.heap.size) (H : Nat) (hH : W.heap.size = H)
    (h : ∀ g cap w', w'.ownsRow B 9 1 (.slice (some ⟨g, 0, none⟩) (xs.length + 1) cap) (xs.length + 1) (scs xs ++ [.string y]) → W.grownBy w' v.ownBlock → (v.ownBlock = some g ∨ g = H) → g < w'.heap.size → K (a.put o.dst (.slice (some ⟨g, 0, none⟩) (xs.length + 1) cap)) w') :
    if Region.wanted o (yielded ops a.tmps) = true then Oper.wp Try.prog o a W K Q else E := by
  obtain ⟨i, i0, i1, i2, i3⟩ := info_of infoSt
  exact step_append_lies W hgd s x 73 ho B 9 i (.string ⟨#[]⟩) 1 16 Try.underlying73 i0 i1 i2 i3 rfl (by decide) v xs.length (scs xs) hs hown ⟨g0, 0, none⟩ 1 1 [.string y] hx rfl (one_cells hc) (by intro u hu; simp at hu; subst hu; rfl) (by decide) (by unfold maxLen; omega) (by omega) hB H hH h

/-- The image in the making: its block behind the bound, its row. -/
structure ViI (B g : Nat) (w wr : World) (N : Nat) (f : ByteArray) (ta : Option Addr) (tc : Nat) (ss : List ByteArray) : Prop where
  below : Below B w wr
  hB : B ≤ g
  im : wr.heap[g]? = some (.cells #[.int .i64 (N : Int), .string f, .slice ta ss.length tc] 75 (0, 0))
  row : SR wr B (.slice ta ss.length tc) ss
section
variable {B g : Nat} {w wr w2 : World} {N : Nat} {f : ByteArray} {ta : Option Addr} {tc : Nat} {ss : List ByteArray}
theorem ViI.lt (h : ViI B g w wr N f ta tc ss) : g < wr.heap.size := (Array.getElem?_eq_some_iff.1 h.im).1
theorem ViI.le (h : ViI B g w wr N f ta tc ss) : B ≤ wr.heap.size := by have := h.lt; have := h.hB; omega
theorem ViI.drew (h : ViI B g w wr N f ta tc ss) : ViI B g w wr.drew N f ta tc ss := ⟨h.below.drew, h.hB, h.im, h.row⟩
theorem ViI.alloc (h : ViI B g w wr N f ta tc ss) (o : Obj) : ViI B g w (wr.alloc o) N f ta tc ss := ⟨h.below.alloc h.le _, h.hB, (Fr.ofAlloc wr o).at h.im (by simp), (Fr.ofAlloc wr o).own h.row (by simp)⟩
theorem ViI.push (h : ViI B g w wr N f ta tc ss) {g5 cap : Nat} {y : ByteArray} (hgrow : wr.grownBy w2 (.slice ta ss.length tc : Value).ownBlock) (ho : w2.ownsRow B 9 1 (.slice (some ⟨g5, 0, none⟩) (ss.length + 1) cap) (ss.length + 1) (scs ss ++ [.string y])) :
    w2.cell? ⟨g, 2, none⟩ = some (.slice ta ss.length tc) ∧ w2.frozen? ⟨g, 2, none⟩ = false ∧ ViI B g w (w2.setCell ⟨g, 2, none⟩ (.slice (some ⟨g5, 0, none⟩) (ss.length + 1) cap)) N f (some ⟨g5, 0, none⟩) cap (ss ++ [y]) := by
  have e2 := own_off h.row h.im (by decide)
  have g2 : w2.heap[g]? = _ := (Fr.ofGrown hgrow).at h.im (fun hm => e2 _ (Option.mem_toList.1 hm) rfl)
  refine ⟨by rw [cell_of_row _ _ _ _ _ _ g2]; rfl, frozen_of_row _ _ _ _ _ g2, below_set (below_grown h.below hgrow h.le (fun q hq => (h.row.lt q hq).1)) h.hB, h.hB, by rw [heap_setCell_same _ _ _ _ _ _ g2, List.length_append]; rfl, ?_⟩
  have : SR w2 B (.slice (some ⟨g5, 0, none⟩) (ss ++ [y]).length cap) (ss ++ [y]) := by rw [List.length_append]; exact SR.of ho
  exact (Fr.ofSet _ _ _ _).own this (fun q hq => by simpa using own_off this g2 (by decide) q hq)
end
/-- What reading an image answers. -/
def RdA (w' : World) (B : Nat) (x : ByteArray) (e : Ending) : Prop :=
  (ImOk x ∧ ∃ g tc, B ≤ g ∧ g < w'.heap.size ∧ e = .returned (.tuple #[.agg #[.int .i64 ((bt x 2 : Nat) : Int), .string (imF x), .slice (some ⟨g, 0, none⟩) (bt x 3) tc], .bool true]) ∧ ∀ i, i < bt x 3 → w'.cell? ⟨g, i, none⟩ = some (.string (tblX x (tpos x (5 + bt x 4) i)))) ∨
  (¬ ImOk x ∧ ∃ (N : Int) (f : ByteArray) (ta : Option Addr) (n tc : Nat), e = .returned (.tuple #[.agg #[.int .i64 N, .string f, .slice ta n tc], .bool false]))

theorem below2 (w : World) (a b : Obj) : Below w.heap.size w ((w.alloc a).alloc b) := ((Below.refl _ _).alloc (Nat.le_refl _) _).alloc (by simp) _
theorem fpl_none {o : Option Nat} : (o = none ∧ fpl o = -1) ∨ (o ≠ none ∧ 0 ≤ fpl o) := by
  cases o with
  | none => exact .inl ⟨rfl, rfl⟩
  | some k => exact .inr ⟨by simp, by show (0 : Int) ≤ (k : Int); omega⟩

section
attribute [local go_sem ↓] Go.wp_at_zero Go.wp_at_succ
set_option maxRecDepth 20000 in
set_option maxHeartbeats 4000000 in
theorem VRead_any (w : World) (x : ByteArray) (hx : x.size ≤ 9223372036854775807) :
    Calls Try.prog 38 #[.string x] w fun e w' => Below w.heap.size w w' ∧ RdA w' w.heap.size x e := by
  have hxI : (x.size : Int) ≤ 9223372036854775807 := by omega
  by_cases h5 : x.size < 5
  · have hI : (x.size : Int) < 5 := by omega
    have HF : Hid (¬ ImOk x) := fun h => by have := h.len; omega
    clear h5 hx
    go_enter Try.func38, Try.ntmps38
    go_wp2_with fail
    exact bodyPost_ret (res_row_tmp (p := 2) (u := 3) (ty := 75) rfl _ _ w.heap.size 75 _ (0, 0) _ rfl (heap_alloc2_old _ _ _) Try.underlying75 rfl (by exact infoVi) _ rfl) rfl ⟨below2 _ _ _, .inr ⟨unhide HF, _, _, _, _, _, rfl⟩⟩
  · have hI : (5 : Int) ≤ (x.size : Int) := by omega
    have l0 : 0 < x.size := by omega
    have l1 : 1 < x.size := by omega
    have b0 := bt_at x 0
    have b1 := bt_at x 1
    have b0I : ((bt x 0 : Nat) : Int) < 256 := by have := bt_le x 0; omega
    have b1I : ((bt x 1 : Nat) : Int) < 256 := by have := bt_le x 1; omega
    have hvp : (¬ ((bt x 0 : Nat) : Int) = 86 ∧ bt x 0 ≠ 86) ∨ (bt x 0 = 86 ∧ ¬ ((bt x 1 : Nat) : Int) = 80 ∧ bt x 1 ≠ 80) ∨ (bt x 0 = 86 ∧ bt x 1 = 80) := by omega
    rcases hvp with ⟨i1, i2⟩ | ⟨i0, i1, i2⟩ | ⟨i0, i1⟩
    · have HF : Hid (¬ ImOk x) := fun h => i2 h.b0
      have i3 : (((bt x 0 : Nat) : Int) != 86) = true := bne_iff_ne.2 i1
      clear h5 hx i2
      generalize bt x 0 = v0 at *
      go_enter Try.func38, Try.ntmps38
      go_wp2_with fail
      exact bodyPost_ret (res_row_tmp (p := 2) (u := 3) (ty := 75) rfl _ _ w.heap.size 75 _ (0, 0) _ rfl (heap_alloc2_old _ _ _) Try.underlying75 rfl (by exact infoVi) _ rfl) rfl ⟨below2 _ _ _, .inr ⟨unhide HF, _, _, _, _, _, rfl⟩⟩
    · have HF : Hid (¬ ImOk x) := fun h => i2 h.b1
      rw [i0] at b0
      have i3 : (((bt x 1 : Nat) : Int) != 80) = true := bne_iff_ne.2 i1
      clear h5 hx i2 i0 b0I
      generalize bt x 1 = v1 at *
      go_enter Try.func38, Try.ntmps38
      go_wp2_with fail
      exact bodyPost_ret (res_row_tmp (p := 2) (u := 3) (ty := 75) rfl _ _ w.heap.size 75 _ (0, 0) _ rfl (heap_alloc2_old _ _ _) Try.underlying75 rfl (by exact infoVi) _ rfl) rfl ⟨below2 _ _ _, .inr ⟨unhide HF, _, _, _, _, _, rfl⟩⟩
    have HV0 := hide i0
    have HV1 := hide i1
    rw [i0] at b0
    rw [i1] at b1
    clear i0 i1 b0I b1I
    have l2 : 2 < x.size := by omega
    have l3 : 3 < x.size := by omega
    have l4 : 4 < x.size := by omega
    have b2 := bt_at x 2
    have b3 := bt_at x 3
    have b4 := bt_at x 4
    have b2I : ((bt x 2 : Nat) : Int) < 256 := by have := bt_le x 2; omega
    have b3I : ((bt x 3 : Nat) : Int) < 256 := by have := bt_le x 3; omega
    have b4I : ((bt x 4 : Nat) : Int) < 256 := by have := bt_le x 4; omega
    obtain ⟨N, hN⟩ : ∃ N, bt x 2 = N := ⟨_, rfl⟩
    obtain ⟨r, hr⟩ : ∃ r, bt x 3 = r := ⟨_, rfl⟩
    obtain ⟨F, hF⟩ : ∃ F, bt x 4 = F := ⟨_, rfl⟩
    rw [hN] at b2 b2I
    rw [hr] at b3 b3I
    rw [hF] at b4 b4I
    have e5 : (5 : Int) + (F : Int) = ((5 + F : Nat) : Int) := by omega
    have w5 := wrap_i64 (5 + F) (by omega)
    have n5 : (((5 + F : Nat) : Int)).toNat = 5 + F := by omega
    have hsc : (16 < (N : Int)) ∨ ((N : Int) ≤ 16 ∧ (r : Int) < 1) ∨ ((N : Int) ≤ 16 ∧ 1 ≤ (r : Int) ∧ 4 < (r : Int)) ∨ ((N : Int) ≤ 16 ∧ 1 ≤ (r : Int) ∧ (r : Int) ≤ 4 ∧ (F : Int) < 1) ∨ ((N : Int) ≤ 16 ∧ 1 ≤ (r : Int) ∧ (r : Int) ≤ 4 ∧ 1 ≤ (F : Int) ∧ 40 < (F : Int)) ∨ ((N : Int) ≤ 16 ∧ 1 ≤ (r : Int) ∧ (r : Int) ≤ 4 ∧ 1 ≤ (F : Int) ∧ (F : Int) ≤ 40 ∧ (x.size : Int) < ((5 + F : Nat) : Int)) ∨ ((N : Int) ≤ 16 ∧ 1 ≤ (r : Int) ∧ (r : Int) ≤ 4 ∧ 1 ≤ (F : Int) ∧ (F : Int) ≤ 40 ∧ ((5 + F : Nat) : Int) ≤ (x.size : Int)) := by omega
    rcases hsc with i1 | ⟨i1, i2⟩ | ⟨i1, i2, i3⟩ | ⟨i1, i2, i3, i4⟩ | ⟨i1, i2, i3, i4, i5⟩ | ⟨i1, i2, i3, i4, i5, i6⟩ | ⟨i1, i2, i3, i4, i5, i6⟩
    iterate 6
      · have HF : Hid (¬ ImOk x) := fun h => by have := h.n; have := h.r1; have := h.r2; have := h.fl; have := h.f1; have := h.f2; omega
        clear h5 hx hN hr hF
        generalize 5 + F = y at *
        go_enter Try.func38, Try.ntmps38
        go_wp2_with fail
        exact bodyPost_ret (res_row_tmp (p := 2) (u := 3) (ty := 75) rfl _ _ w.heap.size 75 _ (0, 0) _ rfl (heap_alloc2_old _ _ _) Try.underlying75 rfl (by exact infoVi) _ rfl) rfl ⟨below2 _ _ _, .inr ⟨unhide HF, _, _, _, _, _, rfl⟩⟩
    have hy0 : (5 : Int) ≤ ((5 + F : Nat) : Int) := by omega
    have himf : imF x = x.extract 5 (5 + F) := by unfold imF; rw [hF]
    have hfs : (x.extract 5 (5 + F)).size = F := by rw [ByteArray.size_extract]; omega
    have HFP := hide (fun W => formPlace_any W (x.extract 5 (5 + F)) r (by omega) (by omega))
    have hfp := fpl_none (o := fscan r (x.extract 5 (5 + F)) (x.extract 5 (5 + F)).size 0 0 0)
    have HIM : Hid (ImOk x ↔ fscan r (x.extract 5 (5 + F)) (x.extract 5 (5 + F)).size 0 0 0 = none ∧ TsOk x (5 + F) r) := by
      constructor
      · intro h
        have h1 := h.fm
        have h2 := h.ts
        rw [himf, hr] at h1
        rw [hF, hr] at h2
        exact ⟨h1, h2⟩
      · rintro ⟨h1, h3⟩
        exact ⟨by omega, unhide HV0, unhide HV1, by omega, by omega, by omega, by omega, by omega, by omega, by rw [himf, hr]; exact h1, by rw [hF, hr]; exact h3⟩
    have HAN : Hid (bt x 2 = N ∧ imF x = x.extract 5 (5 + F) ∧ bt x 3 = r ∧ 5 + bt x 4 = 5 + F) := ⟨hN, himf, hr, by rw [hF]⟩
    have HP : Hid (5 + F ≤ x.size ∧ 5 + F ≤ 45) := ⟨by omega, by omega⟩
    have HRR : Hid (1 ≤ r ∧ r ≤ 4) := ⟨by omega, by omega⟩
    have HX := hide hx
    clear h5 hx hN hr hF himf hfs HV0 HV1
    generalize hy : 5 + F = y at *
    go_enter Try.func38, Try.ntmps38
    go_wp2_with fail
    refine (unhide HFP _).mono ?_
    rintro e w' ⟨rfl, hww⟩
    rw [hww]
    clear hww HFP
    rcases hfp with ⟨hf1, hf2⟩ | ⟨hf1, hf2⟩
    case inr =>
      have HF : Hid (¬ ImOk x) := fun h => hf1 ((unhide HIM).1 h).1
      clear hf1
      generalize fpl (fscan r (x.extract 5 y) (x.extract 5 y).size 0 0 0) = fv at *
      go_wp2_with fail
      exact bodyPost_ret (res_row_tmp (p := 2) (u := 3) (ty := 75) rfl _ _ w.heap.size 75 _ (0, 0) _ rfl (heap_alloc2_old _ _ _) Try.underlying75 rfl (by exact infoVi) _ rfl) rfl ⟨below2 _ _ _, .inr ⟨unhide HF, _, _, _, _, _, rfl⟩⟩
    have HF1 := hide hf1
    rw [hf2]
    clear hf1 hf2
    generalize x.extract 5 y = fm at *
    have HV : Hid (ViI (w.heap.size + 1) (w.heap.size + 1) (w.alloc (.cells #[.int .i64 0, .string ⟨#[]⟩, .slice none 0 0] 75)) ((w.alloc (.cells #[.int .i64 0, .string ⟨#[]⟩, .slice none 0 0] 75)).alloc (.cells #[.int .i64 (N : Int), .string fm, .slice none 0 0] 75)) N fm none 0 []) := by
      refine ⟨?_, Nat.le_refl _, heap_alloc2_new w _ _, World.ownsRow_nil _ _ _ _⟩
      have h : Below (w.alloc (.cells #[.int .i64 0, .string ⟨#[]⟩, .slice none 0 0] 75)).heap.size _ _ := (Below.refl _ (w.alloc (.cells #[.int .i64 0, .string ⟨#[]⟩, .slice none 0 0] 75))).alloc (Nat.le_refl _) (.cells #[.int .i64 (N : Int), .string fm, .slice none 0 0] 75)
      simpa using h
    have HRC : Hid ((w.alloc (.cells #[.int .i64 0, .string ⟨#[]⟩, .slice none 0 0] 75)).heap[w.heap.size]? = some (.cells #[.int .i64 0, .string ⟨#[]⟩, .slice none 0 0] 75 (0, 0))) := heap_alloc_new _ _
    have HB1 : Hid (Below w.heap.size w (w.alloc (.cells #[.int .i64 0, .string ⟨#[]⟩, .slice none 0 0] 75))) := (Below.refl _ _).alloc (Nat.le_refl _) _
    go_wp2_with fail
    generalize (w.alloc (.cells #[.int .i64 0, .string ⟨#[]⟩, .slice none 0 0] 75)).alloc (.cells #[.int .i64 (N : Int), .string fm, .slice none 0 0] 75) = w2 at *
    generalize w.alloc (.cells #[.int .i64 0, .string ⟨#[]⟩, .slice none 0 0] 75) = w1 at *
    generalize hH1 : w.heap.size + 1 = H1 at *
    have HH1 := hide hH1
    clear hH1
    go_loopw [8, 9] (fun ax kx wr => ∃ (i : Nat) (ta : Option Addr) (tc : Nat) (ss : List ByteArray), ax = .int .i64 ((tpos x y i : Nat) : Int) ∧ kx = .int .i64 (i : Int) ∧ Hid (i ≤ r ∧ ss = (List.range i).map (fun j => tblX x (tpos x y j)) ∧ (∀ j, j < i → TOk x (tpos x y j)) ∧ ViI H1 H1 w1 wr N fm ta tc ss)) (fun _ kx _ => lenLeft r kx)
    case atStart => exact ⟨0, none, 0, [], rfl, rfl, Nat.zero_le _, rfl, fun j hj => by omega, unhide HV⟩
    case round =>
      clear HV
      rename World => wr
      obtain ⟨i, ta, tc, ss, rfl, rfl, HH⟩ := hrel
      obtain ⟨hir, hss, hok, hI⟩ := unhide HH
      clear HH
      have hrc : wr.heap[w.heap.size]? = _ := (hI.below.block _ (by have := unhide HH1; omega)).trans (unhide HRC)
      have HRW := hide hrc
      have HBW : Hid (Below w.heap.size w wr) := (unhide HB1).trans (hI.below.mono (by have := unhide HH1; omega))
      have y0 : wr.cell? ⟨w.heap.size, 0, none⟩ = some (.int .i64 0) := by rw [cell_of_row _ _ _ _ _ _ hrc]; rfl
      have z0 : wr.frozen? ⟨w.heap.size, 0, none⟩ = false := frozen_of_row _ _ _ _ _ hrc
      have y1 : wr.cell? ⟨w.heap.size, 1, none⟩ = some (.string ⟨#[]⟩) := by rw [cell_of_row _ _ _ _ _ _ hrc]; rfl
      have z1 : wr.frozen? ⟨w.heap.size, 1, none⟩ = false := frozen_of_row _ _ _ _ _ hrc
      have y2 : wr.cell? ⟨w.heap.size, 2, none⟩ = some (.slice none 0 0) := by rw [cell_of_row _ _ _ _ _ _ hrc]; rfl
      have z2 : wr.frozen? ⟨w.heap.size, 2, none⟩ = false := frozen_of_row _ _ _ _ _ hrc
      have c0 : wr.cell? ⟨H1, 0, none⟩ = some (.int .i64 (N : Int)) := by rw [cell_of_row _ _ _ _ _ _ hI.im]; rfl
      have c1 : wr.cell? ⟨H1, 1, none⟩ = some (.string fm) := by rw [cell_of_row _ _ _ _ _ _ hI.im]; rfl
      have c2 : wr.cell? ⟨H1, 2, none⟩ = some (.slice ta ss.length tc) := by rw [cell_of_row _ _ _ _ _ _ hI.im]; rfl
      have hpl : tpos x y i ≤ x.size := tpos_le (unhide HP).1 i hok
      have hpb := tpos_bound i hok
      have hpb2 : tpos x y i ≤ 4000 := by have := (unhide HP).2; have := (unhide HRR).2; omega
      have hpI : ((tpos x y i : Nat) : Int) ≤ 4000 := by omega
      have hlH : H1 < wr.heap.size := hI.lt
      by_cases hlt : i < r
      · have hltI : (i : Int) < (r : Int) := by omega
        have HTS := hide (tableSize_any wr x (tpos x y i) (unhide HX) hpl (by omega))
        have HI := hide hI
        have HSS := hide hss
        have HOKJ := hide hok
        have HLT := hide hlt
        have HNXT : Hid (tpos x y i + tsz x (tpos x y i) = tpos x y (i + 1)) := rfl
        have HTB : Hid (x.extract (tpos x y i) (tpos x y i + tsz x (tpos x y i)) = tblX x (tpos x y i)) := rfl
        have HPL := hide hpl
        clear hir hss hok hI hlt hpl hpb hrc
        generalize hpe : tpos x y i = p at *
        have HPE := hide hpe
        clear hpe
        go_wp2_with fail
        refine (unhide HTS).mono ?_
        rintro e w' ⟨⟨n, rfl, hn⟩, hww⟩
        obtain rfl : wr = w' := hww.symm
        clear hww HTS
        rcases hn with ⟨hto, rfl⟩ | ⟨hno, rfl⟩
        · have HTO := hide hto
          have hn1 : (((tsz x p : Nat) : Int) == 0) = false := beq_eq_false_iff_ne.2 (by have := tsz_pos x p; omega)
          have hn2 : ((tsz x p : Nat) : Int) ≤ 858 := by have := hto.tsz_le; omega
          have e1 : (p : Int) + ((tsz x p : Nat) : Int) = ((p + tsz x p : Nat) : Int) := by omega
          have w1' := wrap_i64 (p + tsz x p) (by have := hto.tsz_le; omega)
          have g1 : (p : Int) ≤ ((p + tsz x p : Nat) : Int) := by omega
          have g2 : ((p + tsz x p : Nat) : Int) ≤ (x.size : Int) := by have := hto.size; omega
          have g3 : (0 : Int) ≤ (p : Int) := by omega
          have m1 : ((p : Int)).toNat = p := by omega
          have m2 : (((p + tsz x p : Nat) : Int)).toNat = p + tsz x p := by omega
          have HTB2 : Hid (x.extract p (p + tsz x p) = tblX x p) := unhide HTB
          have HXA := hide ((unhide HI).alloc (Obj.cells #[.string (x.extract p (p + tsz x p))] 9)).drew
          have HCE : Hid (((wr.alloc (Obj.cells #[.string (x.extract p (p + tsz x p))] 9)).drew).cell? ⟨wr.heap.size, 0, none⟩ = some (.string (x.extract p (p + tsz x p)))) := by show _ = _; rw [cell_drew]; exact new_cell rfl
          have HLEN : Hid (ss.length ≤ 3000000) := by show _ ≤ _; rw [unhide HSS]; have := (unhide HRR).2; have := unhide HLT; simp; omega
          clear hto HTB y0 y1 y2 z0 z1 z2 c0 c1
          generalize hpn : p + tsz x p = pn at *
          generalize tsz x p = n at *
          go_wp2_with fail
          go_region_law (refine appS (by rfl) _ _ (by rfl) H1 _ ss (by rfl) (by exact (unhide HXA).row) wr.heap.size _ (by rfl) (by exact unhide HCE) (unhide HLEN) (by simp; omega) (wr.heap.size + 1) (by simp) ?_; intro g5 cap5 w8 ho hgrow hlies hlt5; obtain ⟨c9, f9, hP9⟩ := (unhide HXA).push hgrow ho; have HP9 := hide hP9; clear ho hgrow hlies hP9)
          all_goals
            go_wp2_with fail
            go_roundw
            case rel => exact ⟨i + 1, _, _, _, by rw [← unhide HNXT], by go_num, unhide HLT, by rw [map_snoc, ← unhide HSS, unhide HTB2, unhide HPE], fun j hj => (by
              by_cases e : j = i
              · rw [e, unhide HPE]; exact unhide HTO
              · exact unhide HOKJ j (by omega)), unhide HP9⟩
            case measure => have := unhide HLT; simp [lenLeft, intOf]; omega
        · have HF : Hid (¬ ImOk x) := fun h => hno (by rw [← unhide HPE]; exact ((unhide HIM).1 h).2.1 i (unhide HLT))
          clear hno HI
          go_wp2_with fail
          exact bodyPost_ret (res_row_tmp (p := 2) (u := 3) (ty := 75) rfl _ _ w.heap.size 75 _ (0, 0) _ rfl (set3_heap (unhide HRW) _ _ _) Try.underlying75 rfl infoVi _ rfl) rfl ⟨(set3_fr _ w.heap.size _ _ _).belowOf (unhide HBW) (unhide HBW).size (Nat.le_refl _), .inr ⟨unhide HF, _, _, _, _, _, rfl⟩⟩
      · have hir2 : i = r := by omega
        subst hir2
        have hltI : ¬ (i : Int) < (i : Int) := by omega
        by_cases hE : tpos x y i = x.size
        · have HIO : Hid (ImOk x) := (unhide HIM).2 ⟨unhide HF1, hok, hE⟩
          have hE2 : (((tpos x y i : Nat) : Int) == (x.size : Int)) = true := by rw [hE]; exact beq_self_eq_true _
          have hsl : ss.length = i := by rw [hss]; simp
          obtain ⟨g0, cap0, he⟩ := own_form hI.row (by rw [hsl]; exact (unhide HRR).1)
          simp only [Value.slice.injEq, true_and] at he
          obtain ⟨rfl, rfl⟩ := he
          have HNE : Hid (g0 ≠ w.heap.size) := own_off hI.row hrc (by decide) g0 rfl
          have HCS : Hid (∀ j, j < i → wr.cell? ⟨g0, j, none⟩ = some (.string (tblX x (tpos x y j)))) := fun j hj => by
            have h3 := World.ownsRow.cells hI.row (g := g0) rfl j (.string (tblX x (tpos x y j))) (by rw [hss]; unfold scs; rw [List.getElem?_map, List.getElem?_map, List.getElem?_range hj]; rfl)
            rwa [add0] at h3
          have HGL : Hid (H1 ≤ g0 ∧ g0 < wr.heap.size) := hI.row.lt g0 rfl
          clear hir hok hI hlt hpl hpb hpb2 hrc hss
          rw [hsl] at c2
          rw [hE] at hpI hE2 ⊢
          clear hE hsl
          go_wp2_with fail
          refine bodyPost_ret (res_row_tmp (p := 2) (u := 3) (ty := 75) rfl _ _ w.heap.size 75 _ (0, 0) _ rfl (set3_heap (unhide HRW) _ _ _) Try.underlying75 rfl infoVi _ rfl) rfl ⟨(set3_fr _ w.heap.size _ _ _).belowOf (unhide HBW) (unhide HBW).size (Nat.le_refl _), .inl ⟨unhide HIO, g0, tc, ?_, ?_, ?_, ?_⟩⟩
          · have := (unhide HGL).1; have := unhide HH1; omega
          · exact Nat.lt_of_lt_of_le (unhide HGL).2 (set3_fr _ w.heap.size _ _ _).size
          · rw [(unhide HAN).1, (unhide HAN).2.1, (unhide HAN).2.2.1]; rfl
          · rw [(unhide HAN).2.2.1, (unhide HAN).2.2.2]
            exact fun j hj => (set3_fr _ w.heap.size _ _ _).cell (unhide HCS j hj) (by simpa using unhide HNE)
        · have HF : Hid (¬ ImOk x) := fun h => hE ((unhide HIM).1 h).2.2
          have hE2 : (((tpos x y i : Nat) : Int) == (x.size : Int)) = false := beq_eq_false_iff_ne.2 (by omega)
          clear hir hok hI hlt hpl hpb hpb2 hrc hss hE
          generalize tpos x y i = p at *
          go_wp2_with fail
          exact bodyPost_ret (res_row_tmp (p := 2) (u := 3) (ty := 75) rfl _ _ w.heap.size 75 _ (0, 0) _ rfl (set3_heap (unhide HRW) _ _ _) Try.underlying75 rfl infoVi _ rfl) rfl ⟨(set3_fr _ w.heap.size _ _ _).belowOf (unhide HBW) (unhide HBW).size (Nat.le_refl _), .inr ⟨unhide HF, _, _, _, _, _, rfl⟩⟩
end

end Mc
end Go.Proofs.Ytnkdbcicphnmiaa
