/-
  table.fold: the kinds of alike states.
  table.folded.next, table.leadAlike: where letters lead from kinds.
  table.sortLetters: the classes of letters.
  The cells of a table; a table in the making.
  table.Table.Bytes: the bytes of a table.
-/
import Derived.Test.YtfooclcjehpcfaaGreatV4
import Derived.Laws.ResultCell
import Derived.Laws.IdiomStrings
namespace Go.Proofs.YtfooclcjehpcfaaGreat
open Go.RowKit

/-- Before a round of fold. -/
structure FoldI (N : Nat) (nx : Nat → Nat → Nat) (gr : Nat → Bool) (r : Nat) (ks hs : List Nat) : Prop where
  len : ks.length = N
  told : ToldK N nx gr (fun i => ks.getD i 0)
  lo : r ≤ hs.length
  hi : hs.length ≤ 24
  ex : hs = [] ∨ ∃ E, Sorted N E hs (fun i => ks.getD i 0)
theorem FoldI.start (N : Nat) (nx : Nat → Nat → Nat) (gr : Nat → Bool) : FoldI N nx gr 0 (List.replicate N 0) [] :=
  ⟨by simp, ToldK.zero fun a ha => by simp [List.getD_eq_getElem?_getD, ha], Nat.zero_le _, by simp, .inl rfl⟩
/-- What fold answers. -/
def FoldPost (L : List Nat → Prop) (N : Nat) (nx : Nat → Nat → Nat) (gr : Nat → Bool) (ks hs : List Nat) : Prop :=
  (24 < hs.length ∧ ManyStates L) ∨ (hs.length ≤ 24 ∧ ks.length = N ∧ (∃ E, Sorted N E hs (fun i => ks.getD i 0)) ∧ MinDfa L hs.length (fun k b => ks.getD (nx (hs.getD k 0) b) 0) (fun k => gr (hs.getD k 0)))
theorem FoldI.step {L : List Nat → Prop} {N : Nat} {nx : Nat → Nat → Nat} {gr : Nat → Bool} {r : Nat} {ks hs ks2 hs2 : List Nat} (hd : BfsDfa L N nx gr) (h : FoldI N nx gr r ks hs) (hp : SplitPost (Espl nx gr (fun i => ks.getD i 0)) N ks2 hs2) :
    (hs2.length = hs.length → FoldPost L N nx gr ks2 hs2) ∧ (24 < hs2.length → FoldPost L N nx gr ks2 hs2) ∧ (hs2.length ≠ hs.length → hs2.length ≤ 24 → FoldI N nx gr (r + 1) ks2 hs2) := by
  have hi := h.hi
  have lo := h.lo
  rcases hp with ⟨h1, n, kd, hn, hs'⟩ | ⟨h1, h2, h3⟩
  · have hm : ManyStates L := hd.many h.told hn hs' (by omega)
    exact ⟨fun _ => .inl ⟨by omega, hm⟩, fun _ => .inl ⟨by omega, hm⟩, fun _ hle => by omega⟩
  · refine ⟨fun he => ?_, fun hlt => by omega, fun hne _ => ?_⟩
    · have hp := (h3.zero hd.pos).1
      rcases h.ex with rfl | ⟨E, hE⟩
      · rw [he] at hp; simp at hp
      · exact .inr ⟨h1, h2, ⟨_, h3⟩, hd.least h.told hE h3 he.symm⟩
    · refine ⟨h2, h.told.next hd.lt h3, ?_, h1, .inr ⟨_, h3⟩⟩
      have hp := (h3.zero hd.pos).1
      rcases h.ex with rfl | ⟨E, hE⟩
      · simp at lo; omega
      · have := hE.size_le h3 (fun a b ha hb e => ((h3.iff a b ha hb).1 e).1)
        omega

structure FoI (w wr : World) (gf : Nat) (kv hv : Value) (ks hs : List Nat) : Prop where
  below : Below w.heap.size w wr
  bR : wr.heap[w.heap.size]? = some (.cells #[.slice none 0 0, .slice none 0 0] 97 (0, 0))
  bF : wr.heap[gf]? = some (.cells #[kv, hv] 97 (0, 0))
  hf : w.heap.size < gf
  rk : NRow wr w.heap.size kv ks
  rh : NRow wr w.heap.size hv hs
section fo
variable {w wr w1 : World} {gf : Nat} {kv hv : Value} {ks hs : List Nat}
theorem FoI.lt (h : FoI w wr gf kv hv ks hs) : gf < wr.heap.size := (Array.getElem?_eq_some_iff.1 h.bF).1
theorem FoI.next (h : FoI w wr gf kv hv ks hs) (k : Below wr.heap.size wr w1) : FoI w w1 gf kv hv ks hs := by
  have l := h.lt
  have l2 := h.hf
  exact ⟨h.below.trans (k.mono h.below.size), (k.block _ (by omega)).trans h.bR, (k.block _ l).trans h.bF, l2, h.rk.below k, h.rh.below k⟩
theorem FoI.put (h : FoI w wr gf kv hv ks hs) {B : Nat} {kv2 hv2 : Value} {ks2 hs2 : List Nat} (hk : NRow wr B kv2 ks2) (hh : NRow wr B hv2 hs2) (hB : w.heap.size ≤ B) : FoI w ((wr.setCell ⟨gf, 0, none⟩ kv2).setCell ⟨gf, 1, none⟩ hv2) gf kv2 hv2 ks2 hs2 := by
  have l2 := h.hf
  refine ⟨below_put2 h.below (by omega) _ _, ?_, ?_, l2, own_put2 (ownsRow_less hk hB) h.bF (by decide) _ _, own_put2 (ownsRow_less hh hB) h.bF (by decide) _ _⟩
  · rw [Below.heap_setCell _ _ _ _ (by simp; omega), Below.heap_setCell _ _ _ _ (by simp; omega)]; exact h.bR
  · rw [heap_setCell_same _ _ _ _ _ _ (heap_setCell_same _ _ _ _ _ _ h.bF)]; rfl
end fo

theorem below_then {w W : World} (h : Below w.heap.size w W) (o : Obj) : Below w.heap.size w (W.alloc o) := h.trans (((Below.refl _ _).alloc (Nat.le_refl _) o).mono h.size)

set_option maxRecDepth 20000 in
set_option maxHeartbeats 2000000 in
theorem fold_any (w : World) (g : Nat) (hb : List Nat) (F : Nat → Nat) (grs : List Bool) (nxs : List Nat) (h : GraphB w g hb.length F grs nxs) (hs : Small hb.length grs nxs) (E0 : Nat → Nat → Prop) (hl : Sorted 256 E0 hb F)
    (L : List Nat → Prop) (hd : BfsDfa L grs.length (fun i b => nlM nxs hb.length i (F b)) (fun i => grs.getD i false)) :
    Calls Tryz.prog 37 #[.pointer (some ⟨g, 0, none⟩)] w fun e w' => ∃ kv hv ks hs, e = .returned (.agg #[kv, hv]) ∧ Below w.heap.size w w' ∧ NRow w' w.heap.size kv ks ∧ NRow w' w.heap.size hv hs ∧ FoldPost L grs.length (fun i b => nlM nxs hb.length i (F b)) (fun i => grs.getD i false) ks hs := by
  have HSP : Hid (∀ (W : World), Below w.heap.size w W → ∀ (kv : Value) (ks : List Nat), NRow W w.heap.size kv ks → ks.length ≤ 10000 →
      Calls Tryz.prog 63 #[.pointer (some ⟨g, 0, none⟩), kv] W fun e w' => ∃ kv2 hv ks2 hs2, e = .returned (.agg #[kv2, hv]) ∧ Below W.heap.size W w' ∧ NRow w' W.heap.size kv2 ks2 ∧ NRow w' W.heap.size hv hs2 ∧ SplitPost (Espl (fun i b => nlM nxs hb.length i (F b)) (fun i => grs.getD i false) (fun i => ks.getD i 0)) ks.length ks2 hs2) := fun W hW kv ks hk hkl => by
    have := split_any W g hb.length F grs nxs (h.below hW) hs w.heap.size kv ks hk hkl
    rw [EsL_eq hl] at this
    exact this
  have HST : Hid (∀ W, Below w.heap.size w W → Calls Tryz.prog 62 #[.pointer (some ⟨g, 0, none⟩)] W fun e w' => e = .returned (.int .i64 ((grs.length : Nat) : Int)) ∧ w' = W) := fun W hW => States_any W g hb.length F grs nxs (h.below hW)
  have HD := hide hd
  have HNL := hide hs.g
  have hnI : (grs.length : Int) ≤ 10000 := by have := hs.g; omega
  generalize (fun i b => nlM nxs hb.length i (F b)) = nx at *
  generalize (fun i => grs.getD i false) = gr at *
  generalize grs.length = N at *
  have HF0 := hide (FoldI.start N nx gr)
  have h0 : FoI w (((w.alloc (.cells #[.slice none 0 0, .slice none 0 0] 97)).alloc (.cells (madeCells #[.int .i64 0] N) 3)).alloc (.cells #[.slice (some ⟨w.heap.size + 1, 0, none⟩) N N, .slice none 0 0] 97)) (w.heap.size + 1 + 1) (.slice (some ⟨w.heap.size + 1, 0, none⟩) N N) (.slice none 0 0) (List.replicate N 0) [] := by
    have t := three_blocks w (.cells #[.slice none 0 0, .slice none 0 0] 97) (.cells (madeCells #[.int .i64 0] N) 3) (.cells #[.slice (some ⟨w.heap.size + 1, 0, none⟩) N N, .slice none 0 0] 97)
    refine ⟨three_below w _ _ _, t.1, t.2.2, by omega, ?_, World.ownsRow_nil _ _ _ _⟩
    have hr := NRow.new (w := w.alloc (.cells #[.slice none 0 0, .slice none 0 0] 97)) (B := w.heap.size) (n := N) (by simp) (by have := unhide HNL; unfold maxLen; omega)
    have := World.ownsRow.alloc hr (.cells #[.slice (some ⟨w.heap.size + 1, 0, none⟩) N N, .slice none 0 0] 97)
    unfold NRow
    simpa using this
  have H0 := hide h0
  obtain ⟨i, i0, i1, i2, i3⟩ := info_of info3
  have HI := hide (And.intro i0 (And.intro i1 (And.intro i2 i3)))
  clear i0 i1 i2 i3 h hs hl hd h0
  go_enter Tryz.func37, Tryz.ntmps37
  go_wp2_with (first
    | (go_at_call 62; refine (unhide HST _ (by exact (Below.refl _ _).alloc (Nat.le_refl _) _)).mono ?_; rintro e w' ⟨rfl, hww⟩; obtain rfl : _ = w' := hww.symm)
    | (refine wpList_make_row _ rfl _ _ 31 rfl 3 i (.int .i64 0) Tryz.underlying31 (unhide HI).1 (unhide HI).2.1 (unhide HI).2.2.1 rfl .i64 .i64 N rfl rfl (by rw [(unhide HI).2.2.2]; have := unhide HNL; omega) (by have := unhide HNL; omega) ?_))
  go_loopw [4] (fun rx wr => ∃ (r : Nat) (kv hv : Value) (ks hs : List Nat), rx = .int .i64 (r : Int) ∧ Hid (FoI w wr (w.heap.size + 1 + 1) kv hv ks hs ∧ FoldI N nx gr r ks hs)) (fun rx _ => 25 - (intOf rx).toNat)
  case atStart => exact ⟨0, _, _, _, _, rfl, unhide H0, unhide HF0⟩
  case round =>
    rename World => wr
    obtain ⟨r, kv, hv, ks, hs, rfl, HH⟩ := hrel
    obtain ⟨hI, hF⟩ := unhide HH
    clear HH H0 HF0
    obtain ⟨ka, kc, rfl⟩ := hI.rk.form
    obtain ⟨ha, hc, rfl⟩ := hI.rh.form
    by_cases hr : r ≤ 24
    · have hrI : (r : Int) ≤ 24 := by omega
      have HR := hide hr
      have c0 : wr.cell? ⟨w.heap.size + 1 + 1, 0, none⟩ = some (.slice ka ks.length kc) := by rw [cell_of_row _ _ _ _ _ _ hI.bF]; rfl
      have HC := hide (unhide HSP wr hI.below _ ks hI.rk (by rw [hF.len]; exact unhide HNL))
      have HI1 := hide hI
      have HF1 := hide hF
      clear hI hF hr
      go_wp2_with fail
      refine (unhide HC).mono ?_
      rintro e w1 ⟨kv2, hv2, ks2, hs2, rfl, hbel, hk2, hh2, hpost⟩
      obtain ⟨ka2, kc2, rfl⟩ := hk2.form
      obtain ⟨ha2, hc2, rfl⟩ := hh2.form
      have HSTEP := hide ((unhide HF1).step (unhide HD) (by rw [(unhide HF1).len] at hpost; exact hpost))
      have HW : Hid (w.heap.size ≤ wr.heap.size) := (unhide HI1).below.size
      have hnx := (unhide HI1).next hbel
      have HN := hide hnx
      have HK2 := hide hk2
      have HH2 := hide hh2
      have d0 : w1.cell? ⟨w.heap.size + 1 + 1, 0, none⟩ = some (.slice ka ks.length kc) := by rw [cell_of_row _ _ _ _ _ _ hnx.bF]; rfl
      have d1 : w1.cell? ⟨w.heap.size + 1 + 1, 1, none⟩ = some (.slice ha hs.length hc) := by rw [cell_of_row _ _ _ _ _ _ hnx.bF]; rfl
      have e0 := frozen_of_row w1 (w.heap.size + 1 + 1) 0 _ _ hnx.bF
      have e1 := frozen_of_row w1 (w.heap.size + 1 + 1) 1 _ _ hnx.bF
      have r0 : w1.cell? ⟨w.heap.size, 0, none⟩ = some (.slice none 0 0) := by rw [cell_of_row _ _ _ _ _ _ hnx.bR]; rfl
      have r1 : w1.cell? ⟨w.heap.size, 1, none⟩ = some (.slice none 0 0) := by rw [cell_of_row _ _ _ _ _ _ hnx.bR]; rfl
      have f0 := frozen_of_row w1 w.heap.size 0 _ _ hnx.bR
      have f1 := frozen_of_row w1 w.heap.size 1 _ _ hnx.bR
      have l1 : w.heap.size + 1 + 1 < w1.heap.size := hnx.lt
      have l2 : w.heap.size < w1.heap.size := by omega
      clear hbel hk2 hh2 hpost hnx HC HI1 HF1 c0
      by_cases heq : hs2.length = hs.length
      · have HP := hide ((unhide HSTEP).1 heq)
        have heqI : (hs2.length : Int) = (hs.length : Int) := by omega
        clear HSTEP heq
        go_wp2_with fail
        refine bodyPost_ret (v := .agg #[.slice ka2 ks2.length kc2, .slice ha2 hs2.length hc2]) (by simp [results, Tryz.results37, go_sem, *]) rfl
          ⟨_, _, _, _, rfl, below_then (below_put2 (unhide HN).below (Nat.le_refl _) _ _) _, World.ownsRow.alloc (own_put2 (ownsRow_less (unhide HK2) (unhide HW)) (unhide HN).bR (by decide) _ _) _, World.ownsRow.alloc (own_put2 (ownsRow_less (unhide HH2) (unhide HW)) (unhide HN).bR (by decide) _ _) _, unhide HP⟩
      · have heqI : ¬ (hs2.length : Int) = (hs.length : Int) := by omega
        have HPUT := hide ((unhide HN).put (unhide HK2) (unhide HH2) (unhide HW))
        by_cases h24 : hs2.length ≤ 24
        · have HNX := hide ((unhide HSTEP).2.2 heq h24)
          have h24I : (hs2.length : Int) ≤ 24 := by omega
          clear HSTEP heq h24
          go_wp2_with fail
          go_roundw
          case rel => exact ⟨r + 1, _, _, _, _, by go_num, (unhide HPUT).next ((Below.refl _ _).alloc (Nat.le_refl _) _), unhide HNX⟩
          case measure => have := unhide HR; simp [intOf]; omega
        · have HP := hide ((unhide HSTEP).2.1 (by omega))
          have h24I : (24 : Int) < (hs2.length : Int) := by omega
          clear HSTEP heq h24
          go_wp2_with fail
          refine bodyPost_ret (v := .agg #[.slice ka2 ks2.length kc2, .slice ha2 hs2.length hc2]) (by simp [results, Tryz.results37, go_sem, *]) rfl
            ⟨_, _, _, _, rfl, below_then (below_put2 (unhide HPUT).below (Nat.le_refl _) _ _) _, World.ownsRow.alloc (own_put2 (unhide HPUT).rk (unhide HPUT).bR (by decide) _ _) _, World.ownsRow.alloc (own_put2 (unhide HPUT).rh (unhide HPUT).bR (by decide) _ _) _, unhide HP⟩
    · exfalso
      have := hF.lo
      have := hF.hi
      omega

end Go.Proofs.YtfooclcjehpcfaaGreat
namespace Go.Proofs.YtfooclcjehpcfaaGreat
open Go.RowKit
attribute [local go_sem ↓] Go.wp_at_zero Go.wp_at_succ

/-- Where a letter leads from a kind. -/
def nfT (ks hs nxs : List Nat) (M k l : Nat) : Nat := ks.getD (nlM nxs M (hs.getD k 0) l) 0
/-- The kinds in memory. -/
structure FoldB (w : World) (gf : Nat) (ks hs : List Nat) : Prop where
  ex : ∃ ka kc ha hc, w.heap[gf]? = some (.cells #[.slice ka ks.length kc, .slice ha hs.length hc] 97 (0, 0)) ∧ NRow w 0 (.slice ka ks.length kc) ks ∧ NRow w 0 (.slice ha hs.length hc) hs
theorem FoldB.below {w w' : World} {gf : Nat} {ks hs : List Nat} (h : FoldB w gf ks hs) (hb : Below w.heap.size w w') : FoldB w' gf ks hs := by
  obtain ⟨ka, kc, ha, hc, h1, h2, h3⟩ := h.ex
  exact ⟨ka, kc, ha, hc, by rw [hb.block _ (Array.getElem?_eq_some_iff.1 h1).1]; exact h1, h2.below hb, h3.below hb⟩
/-- What the bounds of kinds are. -/
structure SmallF (ks hs : List Nat) : Prop where
  k : ks.length ≤ 10000
  h : hs.length ≤ 24
  x : ∀ k, hs.getD k 0 ≤ 10000

set_option maxHeartbeats 1000000 in
theorem next_any (w : World) (g gf M : Nat) (F : Nat → Nat) (grs : List Bool) (nxs ks hs : List Nat) (h : GraphB w g M F grs nxs) (hf : FoldB w gf ks hs) (sm : Small M grs nxs) (sf : SmallF ks hs) (k l : Nat) (hl : l ≤ 256) :
    Calls Tryz.prog 42 #[.pointer (some ⟨gf, 0, none⟩), .pointer (some ⟨g, 0, none⟩), .int .i64 (k : Int), .int .i64 (l : Int)] w fun e w' => e = .returned (.int .i64 ((nfT ks hs nxs M k l : Nat) : Int)) ∧ w' = w.drew := by
  obtain ⟨ka, kc, ha, hc, h1, h2, h3⟩ := hf.ex
  have c0 : w.cell? ⟨gf, 0, none⟩ = some (.slice ka ks.length kc) := by rw [cell_of_row _ _ _ _ _ _ h1]; rfl
  have c1 : w.cell? ⟨gf, 1, none⟩ = some (.slice ha hs.length hc) := by rw [cell_of_row _ _ _ _ _ _ h1]; rfl
  have HA := hide (at_any w 0 _ hs k h3 (by have := sf.h; omega))
  have HN : Hid (Calls Tryz.prog 66 #[.pointer (some ⟨g, 0, none⟩), .int .i64 ((hs.getD k 0 : Nat) : Int), .int .i64 (l : Int)] w.drew fun e w' => e = .returned (.int .i64 ((nlM nxs M (hs.getD k 0) l : Nat) : Int)) ∧ w' = w.drew) := Next_any w.drew g M F grs nxs h.drew _ l sm.m (sf.x k) hl sm.n
  have HK : Hid (Calls Tryz.prog 39 #[.slice ka ks.length kc, .int .i64 ((nlM nxs M (hs.getD k 0) l : Nat) : Int)] w.drew fun e w' => e = .returned (.int .i64 ((nfT ks hs nxs M k l : Nat) : Int)) ∧ w' = w.drew) := at_any w.drew 0 _ ks _ h2.drew (by have := sf.k; omega)
  generalize nfT ks hs nxs M k l = r at *
  generalize nlM nxs M (hs.getD k 0) l = m at *
  generalize hs.getD k 0 = x at *
  clear h hf sm sf h1 h2 h3 hl
  go_enter Tryz.func42, Tryz.ntmps42
  go_wp2_with fail
  refine (unhide HA).mono ?_
  rintro e w1 ⟨rfl, hww⟩
  obtain rfl : w = w1 := hww.symm
  clear hww
  go_wp2_with fail
  go_region_with (first
    | (go_at_call 66; refine (unhide HN).mono ?_; rintro e w2 ⟨rfl, hww⟩; obtain rfl : w.drew = w2 := hww.symm)
    | (go_at_call 39; refine (unhide HK).mono ?_; rintro e w2 ⟨rfl, hww⟩; obtain rfl : w.drew = w2 := hww.symm))
  all_goals
    go_wp2_with fail
    go_ret
    exact ⟨rfl, rfl⟩

set_option maxHeartbeats 1000000 in
theorem leadAlike_any (w : World) (g gf M : Nat) (F : Nat → Nat) (grs : List Bool) (nxs ks hs : List Nat) (h : GraphB w g M F grs nxs) (hf : FoldB w gf ks hs) (sm : Small M grs nxs) (sf : SmallF ks hs) (a b : Nat) (ha : a ≤ 256) (hb : b ≤ 256) :
    Calls Tryz.prog 65 #[.pointer (some ⟨g, 0, none⟩), .pointer (some ⟨gf, 0, none⟩), .int .i64 (a : Int), .int .i64 (b : Int)] w fun e w' => (∃ y, e = .returned (.bool y) ∧ (y = true ↔ ElT hs.length (nfT ks hs nxs M) a b)) ∧ Below w.heap.size w w' := by
  have HN : Hid (∀ W, Below w.heap.size w W → ∀ k l : Nat, l ≤ 256 → Calls Tryz.prog 42 #[.pointer (some ⟨gf, 0, none⟩), .pointer (some ⟨g, 0, none⟩), .int .i64 (k : Int), .int .i64 (l : Int)] W fun e w' => e = .returned (.int .i64 ((nfT ks hs nxs M k l : Nat) : Int)) ∧ w' = W.drew) :=
    fun W hW k l hl => next_any W g gf M F grs nxs ks hs (h.below hW) (hf.below hW) sm sf k l hl
  have HF := hide hf
  have HS := hide sf.h
  have hsI : (hs.length : Int) ≤ 24 := by have := sf.h; omega
  have HA := hide ha
  have HB := hide hb
  clear h hf sm sf ha hb
  go_enter Tryz.func65, Tryz.ntmps65
  go_wp2_with fail
  go_loopw [9] (fun kx wr => ∃ k : Nat, kx = .int .i64 (k : Int) ∧ Hid (k ≤ hs.length ∧ Below w.heap.size w wr ∧ ∀ k', k' < k → nfT ks hs nxs M k' a = nfT ks hs nxs M k' b)) (fun kx _ => hs.length - (intOf kx).toNat)
  case atStart => exact ⟨0, rfl, Nat.zero_le _, Below.refl _ _, fun k' hk' => absurd hk' (Nat.not_lt_zero _)⟩
  case round =>
    rename World => wr
    obtain ⟨k, rfl, HH⟩ := hrel
    obtain ⟨hk, hB, hall⟩ := unhide HH
    obtain ⟨ka, kc, ha, hc, h1, -, -⟩ := ((unhide HF).below hB).ex
    have c1 : wr.cell? ⟨gf, 1, none⟩ = some (.slice ha hs.length hc) := by rw [cell_of_row _ _ _ _ _ _ h1]; rfl
    clear h1 HH
    have HBW := hide hB
    have HALL := hide hall
    by_cases hlt : k < hs.length
    · have hltI : (k : Int) < (hs.length : Int) := by omega
      have HLT := hide hlt
      have HN1 := hide (unhide HN wr hB k a (unhide HA))
      have HN2 := hide (unhide HN wr.drew hB.drew k b (unhide HB))
      have HSN : Hid (nfT ks hs nxs M k a = nfT ks hs nxs M k b → ∀ k', k' < k + 1 → nfT ks hs nxs M k' a = nfT ks hs nxs M k' b) := fun he k' hk' => by
        by_cases e : k' = k
        · subst e; exact he
        · exact hall k' (by omega)
      have HNO : Hid (nfT ks hs nxs M k a ≠ nfT ks hs nxs M k b → ¬ ElT hs.length (nfT ks hs nxs M) a b) := fun hne hE => hne (hE k hlt)
      clear hlt hk hB hall
      generalize nfT ks hs nxs M k a = x at *
      generalize nfT ks hs nxs M k b = y at *
      go_wp2_with fail
      refine (unhide HN1).mono ?_
      rintro e w1 ⟨rfl, hww⟩
      obtain rfl : wr.drew = w1 := hww.symm
      clear hww
      go_wp2_with fail
      refine (unhide HN2).mono ?_
      rintro e w1 ⟨rfl, hww⟩
      obtain rfl : wr.drew.drew = w1 := hww.symm
      clear hww
      by_cases hxy : x = y
      · subst hxy
        go_wp2_with fail
        go_roundw
        case rel => exact ⟨k + 1, by go_num, unhide HLT, (unhide HBW).drew.drew, unhide HSN (by first | rfl | trivial)⟩
        case measure => have := unhide HLT; simp [intOf]; omega
      · have hxI : ¬ (x : Int) = (y : Int) := by omega
        have HX := hide hxy
        clear hxy
        go_wp2_with fail
        go_ret
        exact ⟨⟨false, rfl, by simp; exact unhide HNO (unhide HX)⟩, (unhide HBW).drew.drew⟩
    · have hk2 : k = hs.length := by omega
      subst hk2
      clear hk hB hall hlt
      go_wp2_with fail
      go_ret
      exact ⟨⟨true, rfl, by simp; exact unhide HALL⟩, unhide HBW⟩

end Go.Proofs.YtfooclcjehpcfaaGreat
namespace Go.Proofs.YtfooclcjehpcfaaGreat
open Go.RowKit
attribute [local go_sem ↓] Go.wp_at_zero Go.wp_at_succ

/-- While the letters are sorted. -/
structure SlI (w wr : World) (cv fv : Value) (cs fs : List Nat) : Prop where
  below : Below w.heap.size w wr
  rc : NRow wr w.heap.size cv cs
  rf : NRow wr w.heap.size fv fs
  dj : Dj cv fv
section sl
variable {w wr w2 : World} {cv fv : Value} {cs fs : List Nat}
theorem SlI.next (h : SlI w wr cv fv cs fs) (k : Below wr.heap.size wr w2) : SlI w w2 cv fv cs fs := ⟨h.below.trans (k.mono h.below.size), h.rc.below k, h.rf.below k, h.dj⟩
theorem SlI.alloc (h : SlI w wr cv fv cs fs) (o : Obj) : SlI w (wr.alloc o) cv fv cs fs := h.next ((Below.refl _ _).alloc (Nat.le_refl _) _)
theorem keep1 {w0 w2 : World} {row : Option Nat} (hgrow : w0.grownBy w2 row) {B e z : Nat} {v : Value} {n : Nat} {xs : List Value} (h : w0.ownsRow B e z v n xs) (hd : ∀ q, v.ownBlock = some q → row = some q → False) : w2.ownsRow B e z v n xs :=
  Fr.own (Fr.ofGrown hgrow) h (fun q hq hm => hd q hq (Option.mem_toList.1 hm))
theorem SlI.firsts (h : SlI w wr cv fv cs fs) (hgrow : wr.grownBy w2 fv.ownBlock) {g cap y : Nat} (ho : w2.ownsRow w.heap.size 3 1 (.slice (some ⟨g, 0, none⟩) (fs.length + 1) cap) (fs.length + 1) (natCells fs ++ [.int .i64 (y : Int)])) (hl : fv.ownBlock = some g ∨ g = wr.heap.size) :
    SlI w w2 cv (.slice (some ⟨g, 0, none⟩) (fs.length + 1) cap) cs (fs ++ [y]) :=
  ⟨h.below.grown hgrow h.below.size (fun k hk => (h.rf.lt k hk).1), keep1 hgrow h.rc h.dj, NRow.of ho, h.dj.lies hl (fun q hq => (h.rc.lt q hq).2)⟩
theorem SlI.classes (h : SlI w wr cv fv cs fs) (hgrow : wr.grownBy w2 cv.ownBlock) {g cap y : Nat} (ho : w2.ownsRow w.heap.size 3 1 (.slice (some ⟨g, 0, none⟩) (cs.length + 1) cap) (cs.length + 1) (natCells cs ++ [.int .i64 (y : Int)])) (hl : cv.ownBlock = some g ∨ g = wr.heap.size) :
    SlI w w2 (.slice (some ⟨g, 0, none⟩) (cs.length + 1) cap) fv (cs ++ [y]) fs :=
  ⟨h.below.grown hgrow h.below.size (fun k hk => (h.rc.lt k hk).1), NRow.of ho, keep1 hgrow h.rf h.dj.symm, (h.dj.symm.lies hl (fun q hq => (h.rf.lt q hq).2)).symm⟩
end sl
theorem SlI.start (w : World) : SlI w ((w.alloc (.cells #[] 3)).alloc (.cells #[] 3)) (.slice (some ⟨w.heap.size, 0, none⟩) 0 0) (.slice (some ⟨w.heap.size + 1, 0, none⟩) 0 0) [] [] := by
  have h1 := World.ownsRow_made (base := w.heap.size) (e := 3) (size := 1) w #[] 0 (by simp) (by simp) rfl
  have h2 := World.ownsRow_made (base := w.heap.size) (e := 3) (size := 1) (w.alloc (.cells #[] 3)) #[] 0 (by simp) (by simp) rfl
  refine ⟨((Below.refl _ _).alloc (Nat.le_refl _) _).alloc (by simp) _, World.ownsRow.alloc (by simpa [natCells, NRow] using h1) _, by simpa [natCells, NRow] using h2, fun q a b => ?_⟩
  simp [Value.ownBlock] at a b
  omega

set_option maxRecDepth 20000 in
set_option maxHeartbeats 2000000 in
theorem sortLetters_any (w : World) (g gf M : Nat) (F : Nat → Nat) (grs : List Bool) (nxs ks hs : List Nat) (h : GraphB w g M F grs nxs) (hf : FoldB w gf ks hs) (sm : Small M grs nxs) (sf : SmallF ks hs) :
    Calls Tryz.prog 38 #[.pointer (some ⟨g, 0, none⟩), .pointer (some ⟨gf, 0, none⟩)] w fun e w' => ∃ cv fv cs fs, e = .returned (.tuple #[cv, fv]) ∧ Below w.heap.size w w' ∧ NRow w' w.heap.size cv cs ∧ NRow w' w.heap.size fv fs ∧ SplitPost (ElT hs.length (nfT ks hs nxs M)) M cs fs := by
  have HLA : Hid (∀ W, Below w.heap.size w W → ∀ a b : Nat, a ≤ 256 → b ≤ 256 → Calls Tryz.prog 65 #[.pointer (some ⟨g, 0, none⟩), .pointer (some ⟨gf, 0, none⟩), .int .i64 (a : Int), .int .i64 (b : Int)] W fun e w' => (∃ y, e = .returned (.bool y) ∧ (y = true ↔ ElT hs.length (nfT ks hs nxs M) a b)) ∧ Below W.heap.size W w') :=
    fun W hW a b ha hb => leadAlike_any W g gf M F grs nxs ks hs (h.below hW) (hf.below hW) sm sf a b ha hb
  have HLE : Hid (∀ W, Below w.heap.size w W → Calls Tryz.prog 64 #[.pointer (some ⟨g, 0, none⟩)] W fun e w' => e = .returned (.int .i64 (M : Int)) ∧ w' = W) := fun W hW => Letters_any W g M F grs nxs (h.below hW)
  have HEQ := hide (ElT_eqv hs.length (nfT ks hs nxs M))
  have HM := hide sm.m
  have hMI : (M : Int) ≤ 256 := by have := sm.m; omega
  generalize ElT hs.length (nfT ks hs nxs M) = E at *
  have H0 := hide (SlI.start w)
  obtain ⟨i, i0, i1, i2, i3⟩ := info_of info3
  have HI := hide (And.intro i0 (And.intro i1 (And.intro i2 i3)))
  clear i0 i1 i2 i3 h hf sm sf
  go_enter Tryz.func38, Tryz.ntmps38
  go_wp2_with fail
  go_loopw [6, 7, 8] (fun cv fv lx wr => ∃ (l : Nat) (ca cc fa fc : _) (cs fs : List Nat), cv = .slice ca cs.length cc ∧ fv = .slice fa fs.length fc ∧ lx = .int .i64 (l : Int) ∧ Hid (l ≤ M ∧ SlI w wr (.slice ca cs.length cc) (.slice fa fs.length fc) cs fs ∧ cs.length = l ∧ fs.length ≤ 24 ∧ Sorted l E fs (fun i => cs.getD i 0))) (fun _ _ lx _ => M - (intOf lx).toNat)
  case atStart => exact ⟨0, _, _, _, _, [], [], rfl, rfl, rfl, Nat.zero_le _, unhide H0, rfl, by simp, Sorted.nil _ _⟩
  case round =>
    rename World => wr
    obtain ⟨l, ca, cc, fa, fc, cs, fs, rfl, rfl, rfl, HH⟩ := hrel
    obtain ⟨hl, hI, hcl, hfl, hso⟩ := unhide HH
    have HI1 := hide hI
    have HCL := hide hcl
    have HFL := hide hfl
    have HSO := hide hso
    have HLL := hide (unhide HLE wr hI.below)
    have hfI : (fs.length : Int) ≤ 24 := by omega
    by_cases hlt : l < M
    · have hltI : (l : Int) < (M : Int) := by omega
      have HLT := hide hlt
      clear H0 HH hI hcl hfl hso hl hlt
      go_wp2_with fail
      refine (unhide HLL).mono ?_
      rintro e w1 ⟨rfl, hww⟩
      obtain rfl : wr = w1 := hww.symm
      clear hww HLL
      go_wp2_with fail
      go_loopw [9] (fun kx wx => ∃ k : Nat, kx = .int .i64 (k : Int) ∧ k ≤ fs.length ∧ Hid ((∀ j, j < k → ¬ E l (fs.getD j 0)) ∧ SlI w wx (.slice ca cs.length cc) (.slice fa fs.length fc) cs fs)) (fun kx _ => fs.length - (intOf kx).toNat)
      case atStart => exact ⟨0, rfl, Nat.zero_le _, fun j hj => absurd hj (Nat.not_lt_zero _), unhide HI1⟩
      case round =>
        clear HI1
        rename World => wx
        obtain ⟨k, rfl, hk, HKK⟩ := hrel
        obtain ⟨hno, hI⟩ := unhide HKK
        have HNO := hide hno
        have HI1 := hide hI
        by_cases hkl : k < fs.length
        · obtain ⟨gh, ch, he, hx⟩ := hI.rf.at hkl
          simp only [Value.slice.injEq, true_and] at he
          obtain ⟨rfl, rfl⟩ := he
          have hkI2 : (k : Int) < (fs.length : Int) := by omega
          have HKL2 := hide hkl
          have hxb : fs.getD k 0 ≤ 256 := by
            have := ((unhide HSO).head k hkl).1
            have := unhide HM
            have := unhide HLT
            omega
          have HC := hide (unhide HLA wx hI.below l _ (by have := unhide HM; have := unhide HLT; omega) hxb)
          have HNO2 : Hid (¬ E l (fs.getD k 0) → ∀ j, j < k + 1 → ¬ E l (fs.getD j 0)) := fun hne j hj => by
            by_cases e : j = k
            · subst e; exact hne
            · exact hno j (by omega)
          have HYES : Hid (E l (fs.getD k 0) → Sorted (l + 1) E fs (fun i => (cs ++ [k]).getD i 0)) := fun hE => (unhide HSO).old (unhide HEQ) hkl hE (fun a ha => getD_snoc_old (by rw [unhide HCL]; exact ha)) (by rw [← unhide HCL]; exact getD_snoc_new _ _)
          generalize fs.getD k 0 = x at *
          clear hkl hxb hno hI HKK
          go_wp2_with fail
          refine (unhide HC).mono ?_
          rintro e w1 ⟨⟨y, rfl, hy⟩, hww⟩
          have HI2 := hide ((unhide HI1).next hww)
          clear hww
          cases y
          · have HN : Hid (¬ E l x) := fun hE => by have := hy.2 hE; cases this
            clear hy
            go_wp2_with fail
            go_roundw
            case rel => exact ⟨k + 1, by go_num, unhide HKL2, unhide HNO2 (unhide HN), unhide HI2⟩
            case measure => have := unhide HKL2; simp [intOf]; omega
          · have HY := hide (hy.1 rfl)
            clear hy
            have hkne : ¬ (k : Int) = (fs.length : Int) := by omega
            have HOK := hide (World.ownsRow.alloc (unhide HI2).rc (Obj.cells #[.int .i64 (k : Int)] 3))
            have HSK := hide ((unhide HI2).alloc (Obj.cells #[.int .i64 (k : Int)] 3))
            have HSZ : Hid (w.heap.size ≤ w1.heap.size) := (unhide HI2).below.size
            have HKN : Hid (cs.length ≤ 256) := by have := unhide HCL; have := unhide HLT; have := unhide HM; show _ ≤ _; omega
            go_wp2_with (at_builtin; refine wpList_append_lies _ rfl (.tmp 48) (.tmp 50) 31 rfl w.heap.size 3 i (.int .i64 0) 1 8 Tryz.underlying31 (unhide HI).1 (unhide HI).2.1 (unhide HI).2.2.1 (unhide HI).2.2.2 rfl (by decide) _ _ _ rfl (unhide HOK) ⟨w1.heap.size, 0, none⟩ 1 1 [.int .i64 (k : Int)] rfl rfl (cell_one_new _ _ _) (by intro u hu; simp at hu; subst hu; rfl) (by decide) (by have := unhide HKN; unfold maxLen; omega) (by have := unhide HKN; omega) (by have := unhide HSZ; simp; omega) (w1.heap.size + 1) (by simp) ?_; intro g5 cap5 w8 ho hgrow hlies hlt5; have HN := hide (SlI.classes (unhide HSK) hgrow ho (hlies.imp (fun e => e) (fun e => by rw [e]; simp))); clear ho hgrow hlies)
            go_roundw
            case rel => exact ⟨l + 1, some ⟨g5, 0, none⟩, cap5, _, _, cs ++ [k], fs, by simp, rfl, by go_num, unhide HLT, by simpa using unhide HN, by simp [unhide HCL], unhide HFL, unhide HYES (unhide HY)⟩
            case measure => have := unhide HLT; simp [intOf]; omega
        · have hk2 : k = fs.length := by omega
          subst hk2
          have HOH := hide (World.ownsRow.alloc hI.rf (Obj.cells #[.int .i64 (l : Int)] 3))
          have HSH := hide (hI.alloc (Obj.cells #[.int .i64 (l : Int)] 3))
          have HSZ : Hid (w.heap.size ≤ wx.heap.size) := hI.below.size
          have HNEW : Hid (Sorted (l + 1) E (fs ++ [l]) (fun i => (cs ++ [fs.length]).getD i 0)) := (unhide HSO).new (unhide HEQ) hno (fun a ha => getD_snoc_old (by rw [unhide HCL]; exact ha)) (by rw [← unhide HCL]; exact getD_snoc_new _ _)
          have HKN : Hid (cs.length ≤ 256) := by have := unhide HCL; have := unhide HLT; have := unhide HM; show _ ≤ _; omega
          clear hno hI HKK
          go_upto_region 11 with (at_builtin; refine wpList_append_lies _ rfl (.tmp 39) (.tmp 41) 31 rfl w.heap.size 3 i (.int .i64 0) 1 8 Tryz.underlying31 (unhide HI).1 (unhide HI).2.1 (unhide HI).2.2.1 (unhide HI).2.2.2 rfl (by decide) _ _ _ rfl (unhide HOH) ⟨wx.heap.size, 0, none⟩ 1 1 [.int .i64 (l : Int)] rfl rfl (cell_one_new _ _ _) (by intro u hu; simp at hu; subst hu; rfl) (by decide) (by have := unhide HFL; unfold maxLen; omega) (by have := unhide HFL; omega) (by have := unhide HSZ; simp; omega) (wx.heap.size + 1) (by simp) ?_; intro g5 cap5 W ho hgrow hlies hlt5; have HN := hide (SlI.firsts (unhide HSH) hgrow ho (hlies.imp (fun e => e) (fun e => by rw [e]; simp))); clear ho hgrow hlies)
          by_cases h24 : fs.length = 24
          · have h25 : (24 : Int) < (fs.length : Int) + 1 := by omega
            have H24 := hide h24
            clear h24
            go_wp2_with fail
            go_ret2
            exact ⟨_, _, _, _, rfl, (unhide HN).below, (unhide HN).rc, (unhide HN).rf, .inl ⟨by simp [unhide H24], _, _, unhide HLT, unhide HNEW⟩⟩
          · have h25 : (fs.length : Int) + 1 ≤ 24 := by omega
            have H24 : Hid (fs.length + 1 ≤ 24) := by show _ ≤ _; omega
            have HOK := hide (World.ownsRow.alloc (unhide HN).rc (Obj.cells #[.int .i64 ((fs.length : Nat) : Int)] 3))
            have HSK := hide ((unhide HN).alloc (Obj.cells #[.int .i64 ((fs.length : Nat) : Int)] 3))
            have HSZ2 : Hid (w.heap.size ≤ W.heap.size) := (unhide HN).below.size
            clear h24 HN
            go_wp2_with (at_builtin; refine wpList_append_lies _ rfl (.tmp 48) (.tmp 50) 31 rfl w.heap.size 3 i (.int .i64 0) 1 8 Tryz.underlying31 (unhide HI).1 (unhide HI).2.1 (unhide HI).2.2.1 (unhide HI).2.2.2 rfl (by decide) _ _ _ rfl (unhide HOK) ⟨W.heap.size, 0, none⟩ 1 1 [.int .i64 ((fs.length : Nat) : Int)] rfl rfl (cell_one_new _ _ _) (by intro u hu; simp at hu; subst hu; rfl) (by decide) (by have := unhide HKN; unfold maxLen; omega) (by have := unhide HKN; omega) (by have := unhide HSZ2; simp; omega) (W.heap.size + 1) (by simp) ?_; intro g6 cap6 w9 ho hgrow hlies hlt6; have HN := hide (SlI.classes (unhide HSK) hgrow ho (hlies.imp (fun e => e) (fun e => by rw [e]; simp))); clear ho hgrow hlies)
            go_roundw
            case rel => exact ⟨l + 1, some ⟨g6, 0, none⟩, cap6, some ⟨g5, 0, none⟩, cap5, cs ++ [fs.length], fs ++ [l], by simp, by simp, by go_num, unhide HLT, by simpa using unhide HN, by simp [unhide HCL], by rw [List.length_append]; exact unhide H24, unhide HNEW⟩
            case measure => have := unhide HLT; simp [intOf]; omega
    · have hl2 : l = M := by omega
      subst hl2
      have HR : Hid (SplitPost E l cs fs) := .inr ⟨hfl, hcl, hso⟩
      clear H0 HH hI hcl hfl hso hl hlt
      go_wp2_with fail
      refine (unhide HLL).mono ?_
      rintro e w1 ⟨rfl, hww⟩
      obtain rfl : wr = w1 := hww.symm
      clear hww HLL
      go_wp2_with fail
      go_ret2
      exact ⟨_, _, _, _, rfl, (unhide HI1).below, (unhide HI1).rc, (unhide HI1).rf, unhide HR⟩

end Go.Proofs.YtfooclcjehpcfaaGreat
namespace Go.Proofs.YtfooclcjehpcfaaGreat
open Go.RowKit

theorem results_cell_row_tmp {P : Program} {fn : Func} {p u : Tmp} {ty : TypeId} (h : fn.results = #[.cell p ty, .tmp u]) (tmps : Array Value) (w : World) (g : Nat) (t : TypeId) (cs : Array Value) (fr : Nat × Nat) (d : TypeDesc)
    (hp : tmps.getD p undef = .pointer (some ⟨g, 0, none⟩)) (hg : w.heap[g]? = some (.cells cs t fr)) (hu : P.underlying ty = some d) (hd : (match d with | .struct _ | .array _ _ => true | _ => false) = true) (hi : (P.info? ty).map (·.size) = some cs.size)
    (x : Value) (hx : tmps.getD u undef = x) : (results fn tmps).run P w = .ok (.tuple #[.agg cs, x]) w := by
  rw [results_cell_tmp h, hp, hx]
  simp [asAddr, run_loadVar_row w g t ty cs fr d hg hu hd hi]

theorem wrapB (b : Nat) (h : b < 256) : IntKind.u8.wrap (b : Int) = (b : Int) := by
  rw [IntKind.wrap_u8]; omega

/-- The cells of a table. -/
def tabA (cl : Nat → Nat) (C : Nat) (gv nv : Value) : Array Value := rowN [] cl [.int .i64 (C : Int), gv, nv]
def zcT : Array Value := tabA (fun _ => 0) 0 (.slice none 0 0) (.slice none 0 0)
theorem tabA_size (cl : Nat → Nat) (C : Nat) (gv nv : Value) : (tabA cl C gv nv).size = 259 := rowN_size _ _ _
theorem zcT_size : zcT.size = 259 := tabA_size _ _ _ _
theorem zcT_ne : zcT ≠ #[] := rowN_ne _ _ _
theorem zvT (w : World) : (zeroValue 33).run Tryz.prog w = .ok (.agg zcT) w := by kernel_rfl
theorem tabA_b (cl : Nat → Nat) (C : Nat) (gv nv : Value) {b : Nat} (h : b < 256) : (tabA cl C gv nv)[b]? = some (.int .i64 ((cl b : Nat) : Int)) := by
  have := rowN_mid [] [.int .i64 (C : Int), gv, nv] cl h
  rwa [List.length_nil, Nat.zero_add] at this
theorem tabA_256 (cl : Nat → Nat) (C : Nat) (gv nv : Value) : (tabA cl C gv nv)[256]? = some (.int .i64 (C : Int)) := rowN_post [] _ _ 0
theorem tabA_257 (cl : Nat → Nat) (C : Nat) (gv nv : Value) : (tabA cl C gv nv)[257]? = some gv := rowN_post [] _ _ 1
theorem tabA_258 (cl : Nat → Nat) (C : Nat) (gv nv : Value) : (tabA cl C gv nv)[258]? = some nv := rowN_post [] _ _ 2
theorem tabA_set (cl : Nat → Nat) (C : Nat) (gv nv : Value) {b : Nat} (h : b < 256) (x : Nat) : (tabA cl C gv nv).setIfInBounds b (.int .i64 ((x : Nat) : Int)) = tabA (fun c => if c = b then x else cl c) C gv nv := by
  have := rowN_set [] [.int .i64 (C : Int), gv, nv] cl h x
  rwa [List.length_nil, Nat.zero_add] at this
theorem tabA_set257 (cl : Nat → Nat) (C : Nat) (gv nv v : Value) : (tabA cl C gv nv).setIfInBounds 257 v = tabA cl C v nv := rowN_set_post [] _ _ 1 v
theorem tabA_set258 (cl : Nat → Nat) (C : Nat) (gv nv v : Value) : (tabA cl C gv nv).setIfInBounds 258 v = tabA cl C gv v := rowN_set_post [] _ _ 2 v
theorem tabA_build (C : Nat) : zcT.setIfInBounds 256 (.int .i64 (C : Int)) = tabA (fun _ => 0) C (.slice none 0 0) (.slice none 0 0) := rowN_set_post [] _ _ 0 _
theorem tabA_one (a b : Option Addr) (n1 n2 c1 c2 : Nat) (cl : Nat → Nat) (C : Nat) : (tabA cl C (.slice a n1 c1) (.slice b n2 c2)).all (·.oneCell') = true := rowN_one cl rfl rfl
theorem tabA_congr {cl cl' : Nat → Nat} (h : ∀ b, b < 256 → cl b = cl' b) (C : Nat) (gv nv : Value) : tabA cl C gv nv = tabA cl' C gv nv := rowN_congr h

/-- A table in the making. -/
structure OgI (w3 wr : World) (cl : Nat → Nat) (C : Nat) (gv nv : Value) (bs : List Bool) (ns : List Nat) : Prop where
  below : Below w3.heap.size w3 wr
  bT : wr.heap[w3.heap.size]? = some (.cells (tabA cl C gv nv) 33 (0, 0))
  rg : BRow wr w3.heap.size gv bs
  rn : NRow wr w3.heap.size nv ns
section og
variable {w3 wr w2 : World} {cl : Nat → Nat} {C : Nat} {gv nv : Value} {bs : List Bool} {ns : List Nat}
theorem OgI.lt (h : OgI w3 wr cl C gv nv bs ns) : w3.heap.size < wr.heap.size := (Array.getElem?_eq_some_iff.1 h.bT).1
theorem OgI.start (w3 : World) (C : Nat) : OgI w3 (w3.alloc (.cells (tabA (fun _ => 0) C (.slice none 0 0) (.slice none 0 0)) 33)) (fun _ => 0) C (.slice none 0 0) (.slice none 0 0) [] [] :=
  ⟨(Below.refl _ _).alloc (Nat.le_refl _) _, heap_alloc_new _ _, World.ownsRow_nil _ _ _ _, World.ownsRow_nil _ _ _ _⟩
theorem OgI.next (h : OgI w3 wr cl C gv nv bs ns) (k : Below wr.heap.size wr w2) : OgI w3 w2 cl C gv nv bs ns :=
  ⟨h.below.trans (k.mono h.below.size), (k.block _ h.lt).trans h.bT, h.rg.below k, h.rn.below k⟩
theorem OgI.drew (h : OgI w3 wr cl C gv nv bs ns) : OgI w3 wr.drew cl C gv nv bs ns := ⟨h.below.drew, h.bT, h.rg, h.rn⟩
theorem OgI.alloc (h : OgI w3 wr cl C gv nv bs ns) (o : Obj) : OgI w3 (wr.alloc o) cl C gv nv bs ns := h.next ((Below.refl _ _).alloc (Nat.le_refl _) _)
theorem OgI.congr (h : OgI w3 wr cl C gv nv bs ns) {cl' : Nat → Nat} (he : ∀ b, b < 256 → cl b = cl' b) : OgI w3 wr cl' C gv nv bs ns := ⟨h.below, by rw [← tabA_congr he]; exact h.bT, h.rg, h.rn⟩
theorem OgI.cls (h : OgI w3 wr cl C gv nv bs ns) {b : Nat} (hb : b < 256) (x : Nat) : OgI w3 (wr.setCell ⟨w3.heap.size, b, none⟩ (.int .i64 ((x : Nat) : Int))) (fun c => if c = b then x else cl c) C gv nv bs ns :=
  ⟨h.below.setCell (by simp) _, by rw [heap_setCell_same _ _ _ _ _ _ h.bT, tabA_set _ _ _ _ hb], own_set_any h.rg h.bT (by decide) _ _, own_set_any h.rn h.bT (by decide) _ _⟩
theorem OgI.grant (h : OgI w3 wr cl C gv nv bs ns) (hgrow : wr.grownBy w2 gv.ownBlock) {v' : Value} {y : Bool} (ho : w2.ownsRow w3.heap.size 4 1 v' (bs.length + 1) (boolCells bs ++ [.bool y])) :
    OgI w3 (w2.setCell ⟨w3.heap.size, 257, none⟩ v') cl C v' nv (bs ++ [y]) ns := by
  have e2 := own_off h.rg h.bT (by decide)
  have g2 := grown_at hgrow h.bT (fun e => e2 _ e rfl)
  exact ⟨(h.below.grown hgrow h.below.size (fun k hk => (h.rg.lt k hk).1)).setCell (by simp) _, by rw [heap_setCell_same _ _ _ _ _ _ g2, tabA_set257], own_set_any (BRow.of ho) g2 (by decide) _ _, keep2 hgrow g2 h.rn (own_own h.rn h.rg (by decide)) (by decide)⟩
theorem OgI.edge (h : OgI w3 wr cl C gv nv bs ns) (hgrow : wr.grownBy w2 nv.ownBlock) {v' : Value} {y : Nat} (ho : w2.ownsRow w3.heap.size 3 1 v' (ns.length + 1) (natCells ns ++ [.int .i64 (y : Int)])) :
    OgI w3 (w2.setCell ⟨w3.heap.size, 258, none⟩ v') cl C gv v' bs (ns ++ [y]) := by
  have e2 := own_off h.rn h.bT (by decide)
  have g2 := grown_at hgrow h.bT (fun e => e2 _ e rfl)
  exact ⟨(h.below.grown hgrow h.below.size (fun k hk => (h.rn.lt k hk).1)).setCell (by simp) _, by rw [heap_setCell_same _ _ _ _ _ _ g2, tabA_set258], keep2 hgrow g2 h.rg (own_own h.rg h.rn (by decide)) (by decide), own_set_any (NRow.of ho) g2 (by decide) _ _⟩
end og

/-- A table, as a value. -/
def TabV (w : World) (B : Nat) (v : Value) (L : List Nat → Prop) : Prop := ∃ S C nx gr cl nc gv nv, v = .agg (tabA cl C gv nv) ∧ BRow w B gv ((List.range S).map gr) ∧ NRow w B nv ((List.range S).flatMap (fun i => (List.range C).map (nc i))) ∧ TabOf L S C nx gr cl nc
theorem flat_len (C : Nat) (nc : Nat → Nat → Nat) : ∀ k, ((List.range k).flatMap (fun i => (List.range C).map (nc i))).length = k * C
  | 0 => by simp
  | k + 1 => by rw [List.range_succ, List.flatMap_append, List.length_append, flat_len C nc k]; simp [Nat.add_mul]
theorem flat_snoc (C : Nat) (nc : Nat → Nat → Nat) (k : Nat) : (List.range (k + 1)).flatMap (fun i => (List.range C).map (nc i)) = (List.range k).flatMap (fun i => (List.range C).map (nc i)) ++ (List.range C).map (nc k) := by
  rw [List.range_succ, List.flatMap_append]; simp
theorem map_snoc {α : Type} (f : Nat → α) (k : Nat) : (List.range (k + 1)).map f = (List.range k).map f ++ [f k] := by rw [List.range_succ, List.map_append]; rfl

end Go.Proofs.YtfooclcjehpcfaaGreat
namespace Go.Proofs.YtfooclcjehpcfaaGreat
open Go.RowKit
attribute [local go_sem ↓] Go.wp_at_zero Go.wp_at_succ

def byteCells (xs : List Nat) : List Value := xs.map fun (n : Nat) => Value.int .u8 (n : Int)
def URow (w : World) (B : Nat) (v : Value) (xs : List Nat) : Prop := w.ownsRow B 5 1 v xs.length (byteCells xs)
theorem URow.of {w : World} {B : Nat} {v : Value} {xs : List Nat} {y : Nat} (h : w.ownsRow B 5 1 v (xs.length + 1) (byteCells xs ++ [.int .u8 (y : Int)])) : URow w B v (xs ++ [y]) := by
  unfold URow byteCells
  rw [List.length_append, List.map_append]; exact h
theorem URow.cells {w : World} {B g cap : Nat} {xs : List Nat} (h : URow w B (.slice (some ⟨g, 0, none⟩) xs.length cap) xs) {k : Nat} (hk : k < xs.length) : w.cell? ⟨g, k, none⟩ = some (.int .u8 ((xs.getD k 0 : Nat) : Int)) := by
  rcases h.2 with ⟨he, _⟩ | ⟨g', cap', cur, he, h1, hg, h2, h3, h4, h5⟩
  · cases he
  · simp only [Value.slice.injEq, Option.some.injEq, Addr.mk.injEq, and_true, true_and] at he
    obtain ⟨rfl, rfl⟩ := he
    rw [cell_of_row _ _ _ _ _ _ hg]
    have e : cur.toList[k]? = (byteCells xs)[k]? := by
      rw [← h5, List.getElem?_take, if_pos (by simp; omega)]
    rw [← Array.getElem?_toList, e, byteCells, List.getElem?_map, List.getElem?_eq_getElem hk, List.getD_eq_getElem?_getD, List.getElem?_eq_getElem hk]; rfl
def strN (xs : List Nat) : ByteArray := ⟨(xs.map UInt8.ofNat).toArray⟩
theorem u8_ofNat {x : Nat} (h : x < 256) : (UInt8.ofNat x).toNat = x := by rw [UInt8.toNat_ofNat']; exact Nat.mod_eq_of_lt (by omega)
theorem bytesN_strN {xs : List Nat} (h : ∀ x ∈ xs, x < 256) : bytesN (strN xs) = xs := by
  unfold bytesN strN
  simp only [List.map_map]
  conv => rhs; rw [← List.map_id xs]
  exact List.map_congr_left fun x hx => u8_ofNat (h x hx)
theorem conv_row {w : World} {B g cap : Nat} {xs : List Nat} (h : URow w B (.slice (some ⟨g, 0, none⟩) xs.length cap) xs) (hx : ∀ x ∈ xs, x < 256) :
    (convert 52 9 (.slice (some ⟨g, 0, none⟩) xs.length cap)).run Tryz.prog w = .ok (.string (strN xs)) w := by
  have hl : (xs.map UInt8.ofNat).length = xs.length := List.length_map _
  have := run_convert_bytes_back (P := Tryz.prog) w 52 9 5 ⟨g, 0, none⟩ cap (xs.map UInt8.ofNat) Tryz.underlying52 Tryz.underlying5 Tryz.underlying9 (by
    intro j hj
    rw [hl] at hj
    have e : (xs.map UInt8.ofNat)[j] = UInt8.ofNat xs[j] := List.getElem_map _
    rw [e, u8_ofNat (hx _ (List.getElem_mem _))]
    have := h.cells hj
    rw [List.getD_eq_getElem?_getD, List.getElem?_eq_getElem hj] at this
    rw [show (Addr.add ⟨g, 0, none⟩ j) = ⟨g, j, none⟩ from by unfold Addr.add; split <;> simp_all]
    exact this)
  rw [hl] at this
  exact this
theorem infoU8 : (Tryz.prog.info? 5).map (fun i => (i.zero, i.size, i.bytes)) = some (some (.int .u8 0), 1, 1) := by kernel_rfl

/-- A table in memory. -/
structure TabB (w : World) (gt : Nat) (cl : Nat → Nat) (C : Nat) (bs : List Bool) (ns : List Nat) : Prop where
  ex : ∃ gv nv, w.heap[gt]? = some (.cells (tabA cl C gv nv) 33 (0, 0)) ∧ BRow w 0 gv bs ∧ NRow w 0 nv ns
theorem TabB.below {w w' : World} {gt C : Nat} {cl : Nat → Nat} {bs : List Bool} {ns : List Nat} (h : TabB w gt cl C bs ns) (hb : Below w.heap.size w w') : TabB w' gt cl C bs ns := by
  obtain ⟨gv, nv, h1, h2, h3⟩ := h.ex
  exact ⟨gv, nv, by rw [hb.block _ (Array.getElem?_eq_some_iff.1 h1).1]; exact h1, h2.below hb, h3.below hb⟩
structure ByI (w wr : World) (tv : Value) (xs : List Nat) : Prop where
  below : Below w.heap.size w wr
  row : URow wr w.heap.size tv xs
theorem ByI.grown {w wr w2 : World} {tv : Value} {xs : List Nat} (h : ByI w wr tv xs) {o : Obj} (hgrow : (wr.alloc o).grownBy w2 tv.ownBlock) {v' : Value} {y : Nat} (ho : w2.ownsRow w.heap.size 5 1 v' (xs.length + 1) (byteCells xs ++ [.int .u8 (y : Int)])) : ByI w w2 v' (xs ++ [y]) :=
  ⟨(below_then h.below o).grown hgrow (by have := h.below.size; simp; omega) (fun k hk => (h.row.lt k hk).1), URow.of ho⟩
def bitN (b : Bool) : Nat := if b then 1 else 0
def bytesT (S C : Nat) (cl : Nat → Nat) (bs : List Bool) (ns : List Nat) : List Nat := [S, C] ++ (List.range 256).map cl ++ bs.map bitN ++ ns
theorem take_snoc {α : Type} (l : List α) (d : α) {k : Nat} (hk : k < l.length) : l.take (k + 1) = l.take k ++ [l.getD k d] := by
  rw [List.take_add_one, List.getD_eq_getElem?_getD, List.getElem?_eq_getElem hk]; rfl
theorem own_slice' {w : World} {B e z : Nat} {v : Value} {n : Nat} {xs : List Value} (h : w.ownsRow B e z v n xs) (hn : 0 < n) : ∃ g cap, v = .slice (some ⟨g, 0, none⟩) n cap := by
  obtain ⟨g, cap, rfl, _⟩ := h.form hn
  exact ⟨g, cap, rfl⟩

end Go.Proofs.YtfooclcjehpcfaaGreat
