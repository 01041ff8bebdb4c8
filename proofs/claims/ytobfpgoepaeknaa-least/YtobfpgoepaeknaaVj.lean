/-
  table.fold: the kinds of alike states.
-/
import Derived.Test.YtobfpgoepaeknaaVi
namespace Go.Proofs.Ytobfpgoepaeknaa
open Go.RowKit

/-- Before a round of fold. -/
structure FoldI (N : Nat) (nx : Nat → Nat → Nat) (gr : Nat → Bool) (r : Nat) (ks hs : List Nat) : Prop where
  len : ks.length = N
  told : ToldK N nx gr (fun i => ks.getD i 0)
  lo : r ≤ hs.length
  hi : hs.length ≤ 24
  ex : hs = [] ∨ ∃ E, Sorted N E hs (fun i => ks.getD i 0)
theorem FoldI.start (N : Nat) (nx : Nat → Nat → Nat) (gr : Nat → Bool) : FoldI N nx gr 0 (List.replicate N 0) [] :=
  ⟨by simp, ToldK.zero fun a ha => by simp [List.getD_eq_getElem?_getD, ha], Nat.zero_le _, by simp, .inl rfl⟩
/-- What fold answers. -/
def FoldPost (L : List Nat → Prop) (N : Nat) (nx : Nat → Nat → Nat) (gr : Nat → Bool) (ks hs : List Nat) : Prop :=
  (24 < hs.length ∧ ManyStates L) ∨ (hs.length ≤ 24 ∧ ks.length = N ∧ (∃ E, Sorted N E hs (fun i => ks.getD i 0)) ∧ MinDfa L hs.length (fun k b => ks.getD (nx (hs.getD k 0) b) 0) (fun k => gr (hs.getD k 0)))
theorem FoldI.step {L : List Nat → Prop} {N : Nat} {nx : Nat → Nat → Nat} {gr : Nat → Bool} {r : Nat} {ks hs ks2 hs2 : List Nat} (hd : BfsDfa L N nx gr) (h : FoldI N nx gr r ks hs) (hp : SplitPost (Espl nx gr (fun i => ks.getD i 0)) N ks2 hs2) :
    (hs2.length = hs.length → FoldPost L N nx gr ks2 hs2) ∧ (24 < hs2.length → FoldPost L N nx gr ks2 hs2) ∧ (hs2.length ≠ hs.length → hs2.length ≤ 24 → FoldI N nx gr (r + 1) ks2 hs2) := by
  have hi := h.hi
  have lo := h.lo
  rcases hp with ⟨h1, n, kd, hn, hs'⟩ | ⟨h1, h2, h3⟩
  · have hm : ManyStates L := hd.many h.told hn hs' (by omega)
    exact ⟨fun _ => .inl ⟨by omega, hm⟩, fun _ => .inl ⟨by omega, hm⟩, fun _ hle => by omega⟩
  · refine ⟨fun he => ?_, fun hlt => by omega, fun hne _ => ?_⟩
    · have hp := (h3.zero hd.pos).1
      rcases h.ex with rfl | ⟨E, hE⟩
      · rw [he] at hp; simp at hp
      · exact .inr ⟨h1, h2, ⟨_, h3⟩, hd.least h.told hE h3 he.symm⟩
    · refine ⟨h2, h.told.next hd.lt h3, ?_, h1, .inr ⟨_, h3⟩⟩
      have hp := (h3.zero hd.pos).1
      rcases h.ex with rfl | ⟨E, hE⟩
      · simp at lo; omega
      · have := hE.size_le h3 (fun a b ha hb e => ((h3.iff a b ha hb).1 e).1)
        omega

structure FoI (w wr : World) (gf : Nat) (kv hv : Value) (ks hs : List Nat) : Prop where
  below : Below w.heap.size w wr
  bR : wr.heap[w.heap.size]? = some (.cells #[.slice none 0 0, .slice none 0 0] 126 (0, 0))
  bF : wr.heap[gf]? = some (.cells #[kv, hv] 126 (0, 0))
  hf : w.heap.size < gf
  rk : NRow wr w.heap.size kv ks
  rh : NRow wr w.heap.size hv hs
section fo
variable {w wr w1 : World} {gf : Nat} {kv hv : Value} {ks hs : List Nat}
theorem FoI.lt (h : FoI w wr gf kv hv ks hs) : gf < wr.heap.size := (Array.getElem?_eq_some_iff.1 h.bF).1
theorem FoI.next (h : FoI w wr gf kv hv ks hs) (k : Below wr.heap.size wr w1) : FoI w w1 gf kv hv ks hs := by
  have l := h.lt
  have l2 := h.hf
  exact ⟨h.below.trans (k.mono h.below.size), (k.block _ (by omega)).trans h.bR, (k.block _ l).trans h.bF, l2, h.rk.below k, h.rh.below k⟩
theorem FoI.put (h : FoI w wr gf kv hv ks hs) {B : Nat} {kv2 hv2 : Value} {ks2 hs2 : List Nat} (hk : NRow wr B kv2 ks2) (hh : NRow wr B hv2 hs2) (hB : w.heap.size ≤ B) : FoI w ((wr.setCell ⟨gf, 0, none⟩ kv2).setCell ⟨gf, 1, none⟩ hv2) gf kv2 hv2 ks2 hs2 := by
  have l2 := h.hf
  refine ⟨below_put2 h.below (by omega) _ _, ?_, ?_, l2, own_put2 (ownsRow_less hk hB) h.bF (by decide) _ _, own_put2 (ownsRow_less hh hB) h.bF (by decide) _ _⟩
  · rw [Below.heap_setCell _ _ _ _ (by simp; omega), Below.heap_setCell _ _ _ _ (by simp; omega)]; exact h.bR
  · rw [heap_setCell_same _ _ _ _ _ _ (heap_setCell_same _ _ _ _ _ _ h.bF)]; rfl
end fo

theorem below_then {w W : World} (h : Below w.heap.size w W) (o : Obj) : Below w.heap.size w (W.alloc o) := h.trans (((Below.refl _ _).alloc (Nat.le_refl _) o).mono h.size)

set_option maxRecDepth 20000 in
set_option maxHeartbeats 2000000 in
theorem fold_any (w : World) (g : Nat) (hb : List Nat) (F : Nat → Nat) (grs : List Bool) (nxs : List Nat) (h : GraphB w g hb.length F grs nxs) (hs : Small hb.length grs nxs) (E0 : Nat → Nat → Prop) (hl : Sorted 256 E0 hb F)
    (L : List Nat → Prop) (hd : BfsDfa L grs.length (fun i b => nlM nxs hb.length i (F b)) (fun i => grs.getD i false)) :
    Calls Try.prog 71 #[.pointer (some ⟨g, 0, none⟩)] w fun e w' => ∃ kv hv ks hs, e = .returned (.agg #[kv, hv]) ∧ Below w.heap.size w w' ∧ NRow w' w.heap.size kv ks ∧ NRow w' w.heap.size hv hs ∧ FoldPost L grs.length (fun i b => nlM nxs hb.length i (F b)) (fun i => grs.getD i false) ks hs := by
  have HSP : Hid (∀ (W : World), Below w.heap.size w W → ∀ (kv : Value) (ks : List Nat), NRow W w.heap.size kv ks → ks.length ≤ 10000 →
      Calls Try.prog 89 #[.pointer (some ⟨g, 0, none⟩), kv] W fun e w' => ∃ kv2 hv ks2 hs2, e = .returned (.agg #[kv2, hv]) ∧ Below W.heap.size W w' ∧ NRow w' W.heap.size kv2 ks2 ∧ NRow w' W.heap.size hv hs2 ∧ SplitPost (Espl (fun i b => nlM nxs hb.length i (F b)) (fun i => grs.getD i false) (fun i => ks.getD i 0)) ks.length ks2 hs2) := fun W hW kv ks hk hkl => by
    have := split_any W g hb.length F grs nxs (h.below hW) hs w.heap.size kv ks hk hkl
    rw [EsL_eq hl] at this
    exact this
  have HST : Hid (∀ W, Below w.heap.size w W → Calls Try.prog 88 #[.pointer (some ⟨g, 0, none⟩)] W fun e w' => e = .returned (.int .i64 ((grs.length : Nat) : Int)) ∧ w' = W) := fun W hW => States_any W g hb.length F grs nxs (h.below hW)
  have HD := hide hd
  have HNL := hide hs.g
  have hnI : (grs.length : Int) ≤ 10000 := by have := hs.g; omega
  generalize (fun i b => nlM nxs hb.length i (F b)) = nx at *
  generalize (fun i => grs.getD i false) = gr at *
  generalize grs.length = N at *
  have HF0 := hide (FoldI.start N nx gr)
  have h0 : FoI w (((w.alloc (.cells #[.slice none 0 0, .slice none 0 0] 126)).alloc (.cells (madeCells #[.int .i64 0] N) 3)).alloc (.cells #[.slice (some ⟨w.heap.size + 1, 0, none⟩) N N, .slice none 0 0] 126)) (w.heap.size + 1 + 1) (.slice (some ⟨w.heap.size + 1, 0, none⟩) N N) (.slice none 0 0) (List.replicate N 0) [] := by
    have t := three_blocks w (.cells #[.slice none 0 0, .slice none 0 0] 126) (.cells (madeCells #[.int .i64 0] N) 3) (.cells #[.slice (some ⟨w.heap.size + 1, 0, none⟩) N N, .slice none 0 0] 126)
    refine ⟨three_below w _ _ _, t.1, t.2.2, by omega, ?_, World.ownsRow_nil _ _ _ _⟩
    have hr := NRow.new (w := w.alloc (.cells #[.slice none 0 0, .slice none 0 0] 126)) (B := w.heap.size) (n := N) (by simp) (by have := unhide HNL; unfold maxLen; omega)
    have := World.ownsRow.alloc hr (.cells #[.slice (some ⟨w.heap.size + 1, 0, none⟩) N N, .slice none 0 0] 126)
    unfold NRow
    simpa using this
  have H0 := hide h0
  obtain ⟨i, i0, i1, i2, i3⟩ := info_of info3
  have HI := hide (And.intro i0 (And.intro i1 (And.intro i2 i3)))
  clear i0 i1 i2 i3 h hs hl hd h0
  go_enter Try.func71, Try.ntmps71
  go_wp2_with (first
    | (go_at_call 88; refine (unhide HST _ (by exact (Below.refl _ _).alloc (Nat.le_refl _) _)).mono ?_; rintro e w' ⟨rfl, hww⟩; obtain rfl : _ = w' := hww.symm)
    | (refine wpList_make_row _ rfl _ _ 53 rfl 3 i (.int .i64 0) Try.underlying53 (unhide HI).1 (unhide HI).2.1 (unhide HI).2.2.1 rfl .i64 .i64 N rfl rfl (by rw [(unhide HI).2.2.2]; have := unhide HNL; omega) (by have := unhide HNL; omega) ?_))
  go_loopw [4] (fun rx wr => ∃ (r : Nat) (kv hv : Value) (ks hs : List Nat), rx = .int .i64 (r : Int) ∧ Hid (FoI w wr (w.heap.size + 1 + 1) kv hv ks hs ∧ FoldI N nx gr r ks hs)) (fun rx _ => 25 - (intOf rx).toNat)
  case atStart => exact ⟨0, _, _, _, _, rfl, unhide H0, unhide HF0⟩
  case round =>
    rename World => wr
    obtain ⟨r, kv, hv, ks, hs, rfl, HH⟩ := hrel
    obtain ⟨hI, hF⟩ := unhide HH
    clear HH H0 HF0
    obtain ⟨ka, kc, rfl⟩ := hI.rk.form
    obtain ⟨ha, hc, rfl⟩ := hI.rh.form
    by_cases hr : r ≤ 24
    · have hrI : (r : Int) ≤ 24 := by omega
      have HR := hide hr
      have c0 : wr.cell? ⟨w.heap.size + 1 + 1, 0, none⟩ = some (.slice ka ks.length kc) := by rw [cell_of_row _ _ _ _ _ _ hI.bF]; rfl
      have HC := hide (unhide HSP wr hI.below _ ks hI.rk (by rw [hF.len]; exact unhide HNL))
      have HI1 := hide hI
      have HF1 := hide hF
      clear hI hF hr
      go_wp2_with fail
      refine (unhide HC).mono ?_
      rintro e w1 ⟨kv2, hv2, ks2, hs2, rfl, hbel, hk2, hh2, hpost⟩
      obtain ⟨ka2, kc2, rfl⟩ := hk2.form
      obtain ⟨ha2, hc2, rfl⟩ := hh2.form
      have HSTEP := hide ((unhide HF1).step (unhide HD) (by rw [(unhide HF1).len] at hpost; exact hpost))
      have HW : Hid (w.heap.size ≤ wr.heap.size) := (unhide HI1).below.size
      have hnx := (unhide HI1).next hbel
      have HN := hide hnx
      have HK2 := hide hk2
      have HH2 := hide hh2
      have d0 : w1.cell? ⟨w.heap.size + 1 + 1, 0, none⟩ = some (.slice ka ks.length kc) := by rw [cell_of_row _ _ _ _ _ _ hnx.bF]; rfl
      have d1 : w1.cell? ⟨w.heap.size + 1 + 1, 1, none⟩ = some (.slice ha hs.length hc) := by rw [cell_of_row _ _ _ _ _ _ hnx.bF]; rfl
      have e0 := frozen_of_row w1 (w.heap.size + 1 + 1) 0 _ _ hnx.bF
      have e1 := frozen_of_row w1 (w.heap.size + 1 + 1) 1 _ _ hnx.bF
      have r0 : w1.cell? ⟨w.heap.size, 0, none⟩ = some (.slice none 0 0) := by rw [cell_of_row _ _ _ _ _ _ hnx.bR]; rfl
      have r1 : w1.cell? ⟨w.heap.size, 1, none⟩ = some (.slice none 0 0) := by rw [cell_of_row _ _ _ _ _ _ hnx.bR]; rfl
      have f0 := frozen_of_row w1 w.heap.size 0 _ _ hnx.bR
      have f1 := frozen_of_row w1 w.heap.size 1 _ _ hnx.bR
      have l1 : w.heap.size + 1 + 1 < w1.heap.size := hnx.lt
      have l2 : w.heap.size < w1.heap.size := by omega
      clear hbel hk2 hh2 hpost hnx HC HI1 HF1 c0
      by_cases heq : hs2.length = hs.length
      · have HP := hide ((unhide HSTEP).1 heq)
        have heqI : (hs2.length : Int) = (hs.length : Int) := by omega
        clear HSTEP heq
        go_wp2_with fail
        refine bodyPost_ret (v := .agg #[.slice ka2 ks2.length kc2, .slice ha2 hs2.length hc2]) (by simp [results, Try.results71, go_sem, *]) rfl
          ⟨_, _, _, _, rfl, below_then (below_put2 (unhide HN).below (Nat.le_refl _) _ _) _, World.ownsRow.alloc (own_put2 (ownsRow_less (unhide HK2) (unhide HW)) (unhide HN).bR (by decide) _ _) _, World.ownsRow.alloc (own_put2 (ownsRow_less (unhide HH2) (unhide HW)) (unhide HN).bR (by decide) _ _) _, unhide HP⟩
      · have heqI : ¬ (hs2.length : Int) = (hs.length : Int) := by omega
        have HPUT := hide ((unhide HN).put (unhide HK2) (unhide HH2) (unhide HW))
        by_cases h24 : hs2.length ≤ 24
        · have HNX := hide ((unhide HSTEP).2.2 heq h24)
          have h24I : (hs2.length : Int) ≤ 24 := by omega
          clear HSTEP heq h24
          go_wp2_with fail
          go_roundw
          case rel => exact ⟨r + 1, _, _, _, _, by go_num, (unhide HPUT).next ((Below.refl _ _).alloc (Nat.le_refl _) _), unhide HNX⟩
          case measure => have := unhide HR; simp [intOf]; omega
        · have HP := hide ((unhide HSTEP).2.1 (by omega))
          have h24I : (24 : Int) < (hs2.length : Int) := by omega
          clear HSTEP heq h24
          go_wp2_with fail
          refine bodyPost_ret (v := .agg #[.slice ka2 ks2.length kc2, .slice ha2 hs2.length hc2]) (by simp [results, Try.results71, go_sem, *]) rfl
            ⟨_, _, _, _, rfl, below_then (below_put2 (unhide HPUT).below (Nat.le_refl _) _ _) _, World.ownsRow.alloc (own_put2 (unhide HPUT).rk (unhide HPUT).bR (by decide) _ _) _, World.ownsRow.alloc (own_put2 (unhide HPUT).rh (unhide HPUT).bR (by decide) _ _) _, unhide HP⟩
    · exfalso
      have := hF.lo
      have := hF.hi
      omega

end Go.Proofs.Ytobfpgoepaeknaa
