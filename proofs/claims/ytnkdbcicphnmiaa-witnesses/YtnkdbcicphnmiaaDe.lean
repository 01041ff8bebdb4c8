/-
  veilref: Reach.distances.
-/
import Derived.Test.YtnkdbcicphnmiaaDd
import Derived.Deep.LoopGhost
namespace Go.Proofs.Ytnkdbcicphnmiaa
namespace Mc
open Go.RowKit
attribute [local go_sem ↓] Go.wp_at_zero Go.wp_at_succ

theorem NrI.put {w wr : World} {g vc : Nat} {xs : List Nat} (h : NrI w wr (some ⟨g, 0, none⟩) vc xs) (k x : Nat) : NrI w (wr.setCell ⟨g, k, none⟩ (.int .i64 ((x : Nat) : Int))) (some ⟨g, 0, none⟩) vc (xs.set k x) := by
  refine ⟨below_set h.below (World.ownsRow.lt h.row g rfl).1, ?_⟩
  have := h.row.put k x
  rw [List.length_set]
  exact this
/-- The distances at the start. -/
def dst0 (wn : List Bool) (i : Nat) : List Nat := (List.range i).map fun j => if wn.getD j false then 0 else 1000000
theorem dst0_ok (wn : List Bool) (n : Nat) (nx : Nat → Nat → Nat) : DsI n nx (fun k => wn.getD k false) (dst0 wn n) := by
  have hg : ∀ k, k < n → (dst0 wn n).getD k 0 = if wn.getD k false then 0 else 1000000 := fun k hk => by unfold dst0; rw [rmap_getD _ hk]
  refine ⟨rmap_len _ _, fun k hk => ?_, fun k hk hw => ?_, fun k hk hlt => ?_⟩
  · rw [hg k hk]; split <;> omega
  · rw [hg k hk, if_pos hw]
  · rw [hg k hk] at hlt ⊢
    cases hh : wn.getD k false
    · rw [hh] at hlt; simp at hlt
    · exact ⟨[], Byt.nil, rfl, hh⟩
/-- How far a round is. -/
def DsR (nx : Nat → Nat → Nat) (d0 d : List Nat) (ag : Bool) (i b : Nat) : Prop :=
  (ag = false ∧ d = d0 ∧ (∀ k, k < i → ∀ b, b < 256 → d.getD k 0 ≤ d.getD (nx k b) 0 + 1) ∧ ∀ c, c < b → d.getD i 0 ≤ d.getD (nx i c) 0 + 1) ∨ (ag = true ∧ d.sum < d0.sum)
theorem DsR.start (nx : Nat → Nat → Nat) (d0 : List Nat) : DsR nx d0 d0 false 0 0 := .inl ⟨rfl, rfl, fun k hk => by omega, fun c hc => by omega⟩
theorem DsR.row {nx : Nat → Nat → Nat} {d0 d : List Nat} {ag : Bool} {i : Nat} (h : DsR nx d0 d ag i 256) : DsR nx d0 d ag (i + 1) 0 := by
  rcases h with ⟨h1, h2, h3, h4⟩ | h
  · refine .inl ⟨h1, h2, fun k hk b hb => ?_, fun c hc => by omega⟩
    by_cases e : k = i
    · subst e; exact h4 b hb
    · exact h3 k (by omega) b hb
  · exact .inr h
theorem DsR.keep {nx : Nat → Nat → Nat} {d0 d : List Nat} {ag : Bool} {i b : Nat} (h : DsR nx d0 d ag i b) (hle : d.getD i 0 ≤ d.getD (nx i b) 0 + 1) : DsR nx d0 d ag i (b + 1) := by
  rcases h with ⟨h1, h2, h3, h4⟩ | h
  · refine .inl ⟨h1, h2, h3, fun c hc => ?_⟩
    by_cases e : c = b
    · subst e; exact hle
    · exact h4 c (by omega)
  · exact .inr h
theorem DsR.less {nx : Nat → Nat → Nat} {d0 d d' : List Nat} {ag : Bool} {i b b' : Nat} (h : DsR nx d0 d ag i b) (hlt : d'.sum < d.sum) : DsR nx d0 d' true i b' := by
  rcases h with ⟨h1, h2, h3, h4⟩ | h
  · exact .inr ⟨rfl, by rw [← h2]; exact hlt⟩
  · exact .inr ⟨rfl, by have := h.2; omega⟩
theorem DsR.done {n : Nat} {nx : Nat → Nat → Nat} {d0 d : List Nat} {ag : Bool} (h : DsR nx d0 d ag n 0) : d.sum + ag.toNat < d0.sum + 1 ∧ (ag = false → DsC n nx d) := by
  rcases h with ⟨h1, h2, h3, h4⟩ | h
  · exact ⟨by rw [h1, h2]; simp, fun _ => h3⟩
  · exact ⟨by have := h.2; rw [h.1]; simp; omega, fun e => by rw [h.1] at e; cases e⟩

set_option maxRecDepth 20000 in
set_option maxHeartbeats 4000000 in
theorem distances_any (w : World) (gr : Nat) (W : World) (tv : Value) (fa : Option Addr) (fc : Nat) (F : List (List Nat)) (us : List Value) (na : Option Addr) (nc : Nat) (Nx : List (List Nat)) (ns : List Value) (h : ReI w gr W tv fa fc F us na nc Nx ns) (m : Nat) (ts : Nat → TabN) (hnx : NxOk m ts F Nx) (hnl : Nx.length = F.length) (h0 : 0 < F.length) (hF : F.length ≤ 256) (B : Nat) (wv : Value) (wn : List Bool) (hw : BR W B wv wn) (hwl : wn.length = F.length) :
    Calls Try.prog 76 #[.pointer (some ⟨gr, 0, none⟩), wv] W fun e w' => ∃ dv dc d, e = .returned (.slice dv F.length dc) ∧ NrI W w' dv dc d ∧ DsI F.length (nxF Nx) (fun k => wn.getD k false) d ∧ DsC F.length (nxF Nx) d := by
  obtain ⟨wa, wc, rfl⟩ := hw.form
  rw [hwl]
  have HRE := hide h
  have HNX := hide hnx
  have HNL := hide hnl
  have H0 := hide h0
  have HF := hide hF
  have HWN := hide hw
  have HWL := hide hwl
  have HNB := hide (nxB_of hnx hnl)
  have hFI : (F.length : Int) ≤ 256 := by omega
  clear h hnx hnl h0 hF hw hwl
  go_enter Try.func76, Try.ntmps76
  go_wp2_with fail
  go_loopw [5, 6] (fun vx ix wr => ∃ (i : Nat) (va : Option Addr) (vc : Nat), vx = .slice va i vc ∧ ix = .int .i64 (i : Int) ∧ Hid (i ≤ F.length ∧ NrI W wr va vc (dst0 wn i))) (fun _ ix _ => lenLeft F.length ix)
  case atStart => exact ⟨0, none, 0, rfl, rfl, Nat.zero_le _, NrI.start W⟩
  case round =>
    rename World => wr
    obtain ⟨i, va, vc, rfl, rfl, HH⟩ := hrel
    obtain ⟨hi, hI⟩ := unhide HH
    clear HH
    by_cases hlt : i < F.length
    · have hiI : (i : Int) < (F.length : Int) := by omega
      have hi0 : (0 : Int) ≤ (i : Int) := by omega
      have hi1 : ((i : Int)).toNat = i := by omega
      obtain ⟨gw, cw, he, hcw⟩ := (unhide HWN).at (k := i) (by rw [unhide HWL]; exact hlt)
      rw [unhide HWL] at he
      simp only [Value.slice.injEq, true_and] at he
      obtain ⟨rfl, rfl⟩ := he
      have c1 := below_cell hI.below hcw
      have hgw : gw < wr.heap.size := World.block_lt_of_cell? wr ⟨gw, i, none⟩ c1
      have HLT := hide hlt
      have HSZ : Hid (W.heap.size ≤ wr.heap.size) := hI.below.size
      have HSN : Hid (dst0 wn (i + 1) = dst0 wn i ++ [if wn.getD i false then 0 else 1000000]) := rmap_snoc i _
      have HLN : Hid ((dst0 wn i).length = i) := rmap_len _ _
      have HI := hide hI
      clear hlt hi hI hcw
      generalize dst0 wn i = xs at *
      have hxl := unhide HLN
      subst hxl
      cases hy : wn.getD xs.length false
      · rw [hy] at c1 HSN
        clear hy
        have HXA := hide ((unhide HI).alloc (Obj.cells #[.int .i64 1000000] 3))
        go_wp2_with (at_builtin; refine app1 rfl (.tmp 24) (.tmp 25) rfl W.heap.size _ xs rfl (unhide HXA).row wr.heap.size 1000000 rfl (new_cell rfl) (by have := unhide HLT; have := unhide HF; omega) (by have := unhide HSZ; simp; omega) (wr.heap.size + 1) (by simp) ?_; intro g5 cap5 w8 ho hgrow hlies hlt5; have HP9 := hide ((unhide HXA).push hgrow ho); clear ho hgrow hlies)
        go_roundw
        case rel => exact ⟨xs.length + 1, some ⟨g5, 0, none⟩, cap5, rfl, by go_num, unhide HLT, by rw [unhide HSN]; exact unhide HP9⟩
        case measure => have := unhide HLT; simp [lenLeft, intOf]; omega
      · rw [hy] at c1 HSN
        clear hy
        have HXA := hide ((unhide HI).alloc (Obj.cells #[.int .i64 0] 3))
        go_wp2_with (at_builtin; refine app1 rfl (.tmp 21) (.tmp 22) rfl W.heap.size _ xs rfl (unhide HXA).row wr.heap.size 0 rfl (new_cell rfl) (by have := unhide HLT; have := unhide HF; omega) (by have := unhide HSZ; simp; omega) (wr.heap.size + 1) (by simp) ?_; intro g5 cap5 w8 ho hgrow hlies hlt5; have HP9 := hide ((unhide HXA).push hgrow ho); clear ho hgrow hlies)
        go_roundw
        case rel => exact ⟨xs.length + 1, some ⟨g5, 0, none⟩, cap5, rfl, by go_num, unhide HLT, by rw [unhide HSN]; exact unhide HP9⟩
        case measure => have := unhide HLT; simp [lenLeft, intOf]; omega
    · have hi2 : i = F.length := by omega
      subst hi2
      have hiI : ¬ (F.length : Int) < (F.length : Int) := by omega
      have HI := hide hI
      have HD0 := hide (dst0_ok wn F.length (nxF Nx))
      obtain ⟨gd, cd, he⟩ := own_form (show wr.ownsRow W.heap.size 3 1 (.slice va (dst0 wn F.length).length vc) (dst0 wn F.length).length _ from hI.row) (by rw [(unhide HD0).len]; exact unhide H0)
      simp only [Value.slice.injEq, true_and] at he
      obtain ⟨rfl, rfl⟩ := he
      clear hlt hi hI
      generalize dst0 wn F.length = d0 at *
      go_wp2_with fail
      go_loopg [7] (d0.sum + 1) (fun k ax wr => ∃ (d : List Nat) (ag : Bool), ax = .bool ag ∧ Hid (NrI W wr (some ⟨gd, 0, none⟩) vc d ∧ DsI F.length (nxF Nx) (fun k => wn.getD k false) d ∧ k = d.sum + ag.toNat ∧ (ag = false → DsC F.length (nxF Nx) d)))
      case atStart => exact ⟨d0, true, rfl, unhide HI, unhide HD0, rfl, fun e => by cases e⟩
      case round =>
        clear HI HD0 hiI
        obtain ⟨d, ag, rfl, HH⟩ := hrel
        obtain ⟨hI, hD, hk, hC⟩ := unhide HH
        clear HH
        cases ag
        · have HI := hide hI
          have HD := hide hD
          have HC := hide (hC rfl)
          clear hI hD hk hC
          go_wp2_with fail
          go_ret
          exact ⟨_, _, d, rfl, unhide HI, unhide HD, unhide HC⟩
        · have HI := hide hI
          have HD := hide hD
          have HK := hide hk
          clear hI hD hk hC
          go_wp2_with fail
          go_loopw [7, 8] (fun ax ix wx => ∃ (i : Nat) (d' : List Nat) (ag : Bool), ax = .bool ag ∧ ix = .int .i64 (i : Int) ∧ Hid (i ≤ F.length ∧ NrI W wx (some ⟨gd, 0, none⟩) vc d' ∧ DsI F.length (nxF Nx) (fun k => wn.getD k false) d' ∧ DsR (nxF Nx) d d' ag i 0)) (fun _ ix _ => lenLeft F.length ix)
          case atStart => exact ⟨0, d, false, rfl, rfl, Nat.zero_le _, unhide HI, unhide HD, DsR.start _ _⟩
          case round =>
            clear HI HD
            rename World => wx
            obtain ⟨i, d1, ag, rfl, rfl, HH⟩ := hrel
            obtain ⟨hi, hI, hD, hR⟩ := unhide HH
            clear HH
            by_cases hlt : i < F.length
            · have hiI : (i : Int) < (F.length : Int) := by omega
              have HLT := hide hlt
              have HI := hide hI
              have HD := hide hD
              have HR := hide hR
              clear hi hI hD hR hlt
              go_wp2_with fail
              go_loopw [7, 9] (fun ax bx wy => ∃ (b : Nat) (d' : List Nat) (ag : Bool), ax = .bool ag ∧ bx = .int .i64 (b : Int) ∧ Hid (b ≤ 256 ∧ NrI W wy (some ⟨gd, 0, none⟩) vc d' ∧ DsI F.length (nxF Nx) (fun k => wn.getD k false) d' ∧ DsR (nxF Nx) d d' ag i b)) (fun _ bx _ => lenLeft 256 bx)
              case atStart => exact ⟨0, d1, ag, rfl, rfl, by show 0 ≤ 256; decide, unhide HI, unhide HD, unhide HR⟩
              case round =>
                clear HI HD HR
                rename World => wy
                obtain ⟨b, d2, ag, rfl, rfl, HH⟩ := hrel
                obtain ⟨hb, hI, hD, hR⟩ := unhide HH
                clear HH
                by_cases hltb : b < 256
                · have hbI : (b : Int) < 256 := by omega
                  have hb0 : (0 : Int) ≤ (b : Int) := by omega
                  have hb1 : ((b : Int)).toNat = b := by omega
                  have hi0 : (0 : Int) ≤ (i : Int) := by omega
                  have hi1 : ((i : Int)).toNat = i := by omega
                  obtain ⟨σ, row, hs, hr, hrl, hxe, -⟩ := nxF_at (unhide HNX) (unhide HNL) (unhide HLT) hltb
                  have hxl := (unhide HNB).lt i b (unhide HLT) hltb
                  have hRE := (unhide HRE).next hI.below
                  have c2 := hRE.c2
                  obtain ⟨gn, u, hna, hgn, -, cu, hu⟩ := hRE.at2 hr
                  subst hna
                  obtain ⟨gu, cu2, rfl, hcu⟩ := hu.at (k := b) (by omega)
                  rw [← hxe] at hcu
                  rw [hrl] at cu
                  have hgu : gu < wy.heap.size := World.block_lt_of_cell? wy ⟨gu, b, none⟩ hcu
                  have hgr := hRE.lt
                  have hgd : gd < wy.heap.size := (World.ownsRow.lt hI.row gd rfl).2
                  obtain ⟨gd', cd', he, c3⟩ := hI.row.at (k := nxF Nx i b) (by rw [hD.len]; exact hxl)
                  simp only [Value.slice.injEq, true_and, Option.some.injEq, Addr.mk.injEq, and_true] at he
                  obtain ⟨rfl, rfl⟩ := he
                  obtain ⟨gd', cd', he, c4⟩ := hI.row.at (k := i) (by rw [hD.len]; exact unhide HLT)
                  simp only [Value.slice.injEq, true_and, Option.some.injEq, Addr.mk.injEq, and_true] at he
                  obtain ⟨rfl, rfl⟩ := he
                  have hnlI : (i : Int) < (Nx.length : Int) := by rw [unhide HNL]; have := unhide HLT; omega
                  have hxI : ((nxF Nx i b : Nat) : Int) < (F.length : Int) := by omega
                  have hx0 : (0 : Int) ≤ ((nxF Nx i b : Nat) : Int) := by omega
                  have hx1 : (((nxF Nx i b : Nat) : Int)).toNat = nxF Nx i b := by omega
                  have hiI : (i : Int) < (F.length : Int) := by have := unhide HLT; omega
                  have hd3 : ((d2.getD (nxF Nx i b) 0 : Nat) : Int) ≤ 1000000 := by have := hD.le _ hxl; omega
                  have hd4 : ((d2.getD i 0 : Nat) : Int) ≤ 1000000 := by have := hD.le i (unhide HLT); omega
                  have HLB := hide hltb
                  have HI := hide hI
                  have HD := hide hD
                  have HR := hide hR
                  have hzd := own_free (show wy.ownsRow W.heap.size 3 1 (.slice (some ⟨gd, 0, none⟩) d2.length vc) d2.length _ from hI.row) i
                  by_cases hless : d2.getD (nxF Nx i b) 0 + 1 < d2.getD i 0
                  · have hlI : ((d2.getD (nxF Nx i b) 0 : Nat) : Int) + 1 < ((d2.getD i 0 : Nat) : Int) := by omega
                    have hset := hD.set (unhide HNB) (unhide HLT) hltb hless
                    have HD2 := hide hset.1
                    have HR2 := hide (hR.less (b' := b + 1) hset.2)
                    have HI2 : Hid (NrI W (wy.setCell ⟨gd, i, none⟩ (.int .i64 (((d2.getD (nxF Nx i b) 0 : Nat) : Int) + 1))) (some ⟨gd, 0, none⟩) vc (d2.set i (d2.getD (nxF Nx i b) 0 + 1))) := hI.put i (d2.getD (nxF Nx i b) 0 + 1)
                    clear hb hI hD hR hRE hs hr hu hrl hxe hless hset
                    generalize d2.set i (d2.getD (nxF Nx i b) 0 + 1) = d3 at *
                    generalize d2.getD (nxF Nx i b) 0 = y at *
                    generalize d2.getD i 0 = y2 at *
                    generalize nxF Nx i b = x at *
                    go_wp2_with fail
                    go_roundw
                    case rel => exact ⟨b + 1, d3, true, rfl, by go_num, unhide HLB, unhide HI2, unhide HD2, unhide HR2⟩
                    case measure => have := unhide HLB; simp [lenLeft, intOf]; omega
                  · have hlI : ¬ ((d2.getD (nxF Nx i b) 0 : Nat) : Int) + 1 < ((d2.getD i 0 : Nat) : Int) := by omega
                    have HR2 := hide (hR.keep (by omega))
                    clear hb hI hD hR hRE hs hr hu hrl hxe hless hzd
                    generalize d2.getD (nxF Nx i b) 0 = y at *
                    generalize d2.getD i 0 = y2 at *
                    generalize nxF Nx i b = x at *
                    go_wp2_with fail
                    go_roundw
                    case rel => exact ⟨b + 1, d2, ag, rfl, by go_num, unhide HLB, unhide HI, unhide HD, unhide HR2⟩
                    case measure => have := unhide HLB; simp [lenLeft, intOf]; omega
                · have hb2 : b = 256 := by omega
                  subst hb2
                  have hi256 : (i : Int) < 256 := by have := unhide HLT; omega
                  have HI := hide hI
                  have HD := hide hD
                  have HR := hide hR.row
                  clear hb hI hD hR hltb
                  go_wp2_with fail
                  go_roundw
                  case rel => exact ⟨i + 1, d2, ag, rfl, by go_num, unhide HLT, unhide HI, unhide HD, unhide HR⟩
                  case measure => have := unhide HLT; simp [lenLeft, intOf]; omega
            · have hi2 : i = F.length := by omega
              subst hi2
              have hiI : ¬ (F.length : Int) < (F.length : Int) := by omega
              have HI := hide hI
              have HD := hide hD
              have HR := hide hR.done
              clear hi hI hD hR hlt
              go_wp2_with fail
              go_roundg (d1.sum + ag.toNat)
              case measure => have := (unhide HR).1; have := unhide HK; simp at this; omega
              case rel => exact ⟨d1, ag, rfl, unhide HI, unhide HD, rfl, (unhide HR).2⟩

end Mc
end Go.Proofs.Ytnkdbcicphnmiaa
