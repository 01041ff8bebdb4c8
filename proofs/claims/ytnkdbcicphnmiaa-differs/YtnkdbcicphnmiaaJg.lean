/-
  tuples.all: the walk.
-/
import Derived.Test.YtnkdbcicphnmiaaT19
namespace Go.Proofs.Ytnkdbcicphnmiaa
namespace Mc
open Go.RowKit
attribute [local go_sem ↓] Go.wp_at_zero Go.wp_at_succ

theorem Bfs.len {α : Type} {stp : α → Nat → α} {z : α} {F : List (α × List Nat)} {pc : Nat → Nat} {i U : Nat} {dn : Nat → Prop} (h : Bfs stp z F pc i U dn) : ∀ (k : Nat) σ w, F[k]? = some (σ, w) → w.length ≤ k := by
  intro k
  induction k using Nat.strongRecOn with
  | ind k ih =>
    intro σ w hs
    by_cases hk : k = 0
    · subst hk
      rw [h.zero] at hs
      simp only [Option.some.injEq, Prod.mk.injEq] at hs
      rw [← hs.2]; exact Nat.le_refl _
    · obtain ⟨h1, h2, σ', w', h3, rfl, rfl⟩ := h.par k σ w (by omega) hs
      have := ih _ h1 σ' w' h3
      rw [List.length_append]
      show w'.length + 1 ≤ k
      omega
theorem AlS.len {m : Nat} {ts : Nat → TabN} {L F i j} (h : AlS m ts L F i j) {k : Nat} {σ u : List Nat} (hk : F[k]? = some (σ, u)) : u.length ≤ k := by
  obtain ⟨pc, U, hb, -⟩ := h.bfs
  exact hb.len k σ u hk
theorem below_drewN' {w wr : World} {B : Nat} (h : Below B w wr) (n : Nat) : Below B w (wr.drewN n) := ⟨h.os, h.tape, h.output, h.size, h.block⟩
theorem AlI.drewN {w wr : World} {la : Option Addr} {lc : Nat} {L : List (List Nat × Nat)} {va : Option Addr} {vc : Nat} {F : List (List Nat × List Nat)} (h : AlI w wr la lc L va vc F) (n : Nat) : AlI w (wr.drewN n) la lc L va vc F := ⟨below_drewN' h.below n, h.let_, h.row⟩
theorem stpT_byt {m : Nat} {ts : Nat → TabN} (hok : ∀ i, i < m → (ts i).Ok) {u : List Nat} (hu : Byt u) {b : Nat} (hb : b < 256) : Byt (stpT m ts (stT m ts u) b) := by rw [← stpT_run]; exact stT_byt hok (hu.snoc hb)
theorem mkV_sz (xs : List Nat) (n : Nat) (h : xs.length = n) : (mkV xs).size = n := by rw [mkV_size, h]
theorem make_bytes (w : World) (n : Nat) (hn : n ≤ 1000) : (Instr.makeSlice 100 (.int .i64 (n : Int)) (.int .i64 (n : Int))).run Try.prog w = .ok (.slice (some ⟨w.heap.size, 0, none⟩) n n) (w.alloc (.cells (madeCells #[.int .u8 0] n) 5)) := by
  obtain ⟨i, i0, i1, i2, i3⟩ := info_of infoV
  have := run_make (P := Try.prog) w 100 5 i (.int .u8 0) Try.underlying100 i0 i1 .i64 .i64 (n : Int) (n : Int) (by omega) (by omega) (by rw [i3]; omega) (by omega)
  rw [i2] at this
  have e : ((n : Int)).toNat = n := by omega
  rw [e, Nat.mul_one] at this
  exact this
/-- What all answers. -/
def AlA (w w' : World) (m : Nat) (ts : Nat → TabN) (e : Ending) : Prop :=
  (∃ va vc F L, e = .returned (.tuple #[.slice va F.length vc, .int .i64 0]) ∧ TuR w' w.heap.size (.slice va F.length vc) F ∧ AlS m ts L F F.length 0) ∨
  (Many (stT m ts) ∧ e = .returned (.tuple #[.slice none 0 0, .int .i64 3]))
set_option maxRecDepth 20000 in
set_option maxHeartbeats 4000000 in
theorem all_any (w : World) (B g m tc : Nat) (ts : Nat → TabN) (ht : Tbs w B g m ts) (hB : B ≤ w.heap.size) (h1 : 1 ≤ m) (h8 : m ≤ 8) (hok : ∀ i, i < m → (ts i).Ok) :
    Calls Try.prog 71 #[.slice (some ⟨g, 0, none⟩) m tc] w fun e w' => Below w.heap.size w w' ∧ AlA w w' m ts e := by
  have HT := hide ht
  have HB := hide hB
  have H1 := hide h1
  have H8 := hide h8
  have HOK := hide hok
  have HLO := hide (lettersOf_any w B g m tc ts ht hB h1 h8 hok)
  have hmI : (m : Int) ≤ 8 := by omega
  clear ht hB h1 h8 hok
  go_enter Try.func71, Try.ntmps71
  go_wp2_with fail
  refine (unhide HLO).mono ?_
  rintro e w1 ⟨la, lc, L, rfl, hL, hLI⟩
  clear HLO
  have HL := hide hL
  have hlI : (L.length : Int) ≤ 256 := by have := hL.len; omega
  have hcv := conv_zero (w := w1) (n := m) (by have := unhide H8; unfold maxLen; omega)
  have hmk := make_bytes w1 m (by have := unhide H8; omega)
  have HA0 : Hid (AlI w ((w1.alloc (.cells (madeCells #[.int .u8 0] m) 5)).alloc (.cells #[.string (mkV (List.replicate m 0)), .string ⟨#[]⟩] 126)) la lc L (some ⟨w1.heap.size + 1, 0, none⟩) 1 [(List.replicate m 0, [])]) := by
    have hl2 := (hLI.alloc (.cells (madeCells #[.int .u8 0] m) 5)).alloc (.cells #[.string (mkV (List.replicate m 0)), .string ⟨#[]⟩] 126)
    refine ⟨hl2.below, hl2.row, rfl, .inr ⟨_, 1, _, rfl, by have := hLI.below.size; omega, heap_alloc2_new _ _ _, Nat.le_refl _, by unfold maxLen; omega, rfl, rfl⟩⟩
  clear hL hLI
  generalize madeCells #[Value.int .u8 0] m = mc at *
  go_wp2_with fail
  clear hcv hmk
  generalize ((w1.alloc (.cells mc 5)).alloc (.cells #[.string (mkV (List.replicate m 0)), .string ⟨#[]⟩] 126)) = w2 at *
  generalize w1.heap.size + 1 = g1 at *
  go_loopw [5, 6] (fun vx ix wr => ∃ (i : Nat) (va : Option Addr) (vc : Nat) (F : List (List Nat × List Nat)), vx = .slice va F.length vc ∧ ix = .int .i64 (i : Int) ∧ Hid (i ≤ F.length ∧ AlS m ts L F i 0 ∧ AlI w wr la lc L va vc F)) (fun _ ix _ => lenLeft 256 ix)
  case atStart => exact ⟨0, some ⟨g1, 0, none⟩, 1, [(List.replicate m 0, [])], rfl, rfl, Nat.zero_le _, AlS.start L, unhide HA0⟩
  case round =>
    clear HA0
    rename World => wr
    obtain ⟨i, va, vc, F, rfl, rfl, HH⟩ := hrel
    obtain ⟨hi, hS, hI⟩ := unhide HH
    clear HH
    have hf := hS.few
    have hFI : (F.length : Int) ≤ 256 := by omega
    by_cases hlt : i < F.length
    · have hiI : (i : Int) < (F.length : Int) := by omega
      obtain ⟨⟨σ, u⟩, hFi⟩ : ∃ p, F[i]? = some p := ⟨_, List.getElem?_eq_getElem hlt⟩
      have HS := hide hS
      have HI := hide hI
      have HFI := hide hFi
      have HLT : Hid (i < 256) := by show _ < _; omega
      clear hlt hi hS hI hf hFi
      go_wp2_with fail
      go_loopw [5, 7] (fun vx jx wr => ∃ (j : Nat) (va : Option Addr) (vc : Nat) (F : List (List Nat × List Nat)), vx = .slice va F.length vc ∧ jx = .int .i64 (j : Int) ∧ Hid (j ≤ L.length ∧ AlS m ts L F i j ∧ AlI w wr la lc L va vc F ∧ F[i]? = some (σ, u))) (fun _ jx _ => lenLeft L.length jx)
      case atStart => exact ⟨0, va, vc, F, rfl, rfl, Nat.zero_le _, unhide HS, unhide HI, unhide HFI⟩
      case round =>
        clear HS HI HFI hFI hiI
        rename World => wy
        obtain ⟨j, va, vc, F, rfl, rfl, HH⟩ := hrel
        obtain ⟨hj, hS, hI, hFi⟩ := unhide HH
        clear HH
        have hf := hS.few
        have hFI : (F.length : Int) ≤ 256 := by omega
        by_cases hjl : j < L.length
        · have hjI : (j : Int) < (L.length : Int) := by omega
          have hj0 : (0 : Int) ≤ (j : Int) := by omega
          have hj1 : ((j : Int)).toNat = j := by omega
          have hi0 : (0 : Int) ≤ (i : Int) := by omega
          have hi1 : ((i : Int)).toNat = i := by omega
          obtain ⟨⟨c, l⟩, hLj⟩ : ∃ p, L[j]? = some p := ⟨_, List.getElem?_eq_getElem hjl⟩
          have hil := (List.getElem?_eq_some_iff.1 hFi).1
          have hiI : (i : Int) < (F.length : Int) := by omega
          obtain ⟨gf, cf, he, hgf, f0, f1⟩ := hI.row.at hFi
          simp only [Value.slice.injEq, true_and] at he
          obtain ⟨rfl, rfl⟩ := he
          obtain ⟨gl, cl, he, hgl, l0, l1⟩ := hI.let_.at hLj
          simp only [Value.slice.injEq, true_and] at he
          obtain ⟨rfl, rfl⟩ := he
          simp only [] at f0 f1 l0 l1
          obtain ⟨hσ, hu⟩ := hS.run hFi
          obtain ⟨hc, hl⟩ := (unhide HL).it j _ hLj
          simp only [] at hc hl
          have hstp : nxT m ts σ c = stpT m ts σ l := by rw [hc]; rfl
          have HNX := hide (fun n => tnext_any (wy.drewN n) B g m tc ts ((unhide HT).below (below_drewN (hI.below.mono (unhide HB)) n)) (by have := unhide HB; have := hI.below.size; show B ≤ wy.heap.size; omega) (unhide H1) (unhide H8) (unhide HOK) σ c (by rw [hσ]; exact stT_byt (unhide HOK) hu) (by rw [hc]; exact clT_byt (unhide HOK) hl) (by rw [hσ]; exact stT_len u) (by rw [hc]; exact rmap_len _ _) (fun k hk => by rw [hσ]; exact stT_lt (unhide HOK) hu hk) (fun k hk => by rw [hc]; exact clT_lt (unhide HOK) hl hk))
          rw [hstp] at HNX
          have HI := hide hI
          have HS := hide hS
          have HFI := hide hFi
          have HLJ := hide hLj
          have HLl := hide hl
          have HJL := hide hjl
          have HUL := hide (hS.len hFi)
          have HBS := hide (hS.byt (unhide HOK))
          have HBN : Hid (Byt (stpT m ts σ l)) := by rw [hσ]; exact stpT_byt (unhide HOK) hu hl
          have HFL : Hid (F.length ≤ 256) := hf
          clear hjl hj hf hS hI hFi hLj hσ hu hc hl hstp hil
          generalize hq : stpT m ts σ l = q at *
          have HQ := hide hq
          clear hq
          go_upto_region 9 with fail
          go_cut [8] from 24 to 66 (fun sx wx => sx = .string (mkV q) ∧ Hid (AlI w wx (some ⟨gl, 0, none⟩) lc L (some ⟨gf, 0, none⟩) vc F))
          case first =>
            go_region_with (go_at_call 100; refine (unhide HNX _).mono ?_; rintro e w3 ⟨rfl, hb3⟩)
            all_goals
              have HI3 := hide (((unhide HI).drewN _).next hb3)
              clear hb3
              go_wp2_with fail
              go_meet
              exact ⟨rfl, unhide HI3⟩
          case rest =>
            rename World => w3
            obtain ⟨rfl, HI3⟩ := hcut
            clear HNX HI f0 f1 l0 l1 hgf hgl
            have HIF := hide (isFound_any w3 w.heap.size _ F q (unhide HI3).row (unhide HBS) (unhide HBN) (by have := unhide HFL; omega))
            go_wp2_with fail
            refine (unhide HIF).mono ?_
            rintro e w4 ⟨rfl, hww⟩
            obtain rfl : w3 = w4 := hww.symm
            clear hww HIF
            cases hh : hasL F q
            · have hh2 : hasL F (stpT m ts σ l) = false := by rw [unhide HQ]; exact hh
              by_cases h256 : F.length = 256
              · have h256I : (F.length : Int) = 256 := by omega
                have HMY := hide ((unhide HS).many (unhide HL) (unhide HFI) (unhide HLJ) hh2 h256)
                clear hh hh2 h256
                go_wp2_with fail
                refine bodyPost_ret (v := .tuple #[.slice none 0 0, .int .i64 3]) (by simp [results, Try.results71, go_sem]) rfl ?_
                exact ⟨(unhide HI3).below, .inr ⟨unhide HMY, rfl⟩⟩
              · have h256I : ¬ (F.length : Int) = 256 := by omega
                have HSN := hide ((unhide HS).new (unhide HL) (unhide HFI) (unhide HLJ) hh2 (by have := unhide HFL; omega))
                simp only [] at HSN
                rw [unhide HQ] at HSN
                obtain ⟨gf', cf', he, hgf, f0, f1⟩ := (unhide HI3).row.at (unhide HFI)
                simp only [Value.slice.injEq, true_and, Option.some.injEq, Addr.mk.injEq, and_true] at he
                obtain ⟨rfl, rfl⟩ := he
                obtain ⟨gl', cl', he, hgl, l0, l1⟩ := (unhide HI3).let_.at (unhide HLJ)
                simp only [Value.slice.injEq, true_and, Option.some.injEq, Addr.mk.injEq, and_true] at he
                obtain ⟨rfl, rfl⟩ := he
                simp only [] at f0 f1 l0 l1
                have hcv := conv_one (w := w3) (unhide HLl)
                have hcv' := conv_one' (w := w3) (unhide HLl)
                have hsz : ¬ (mkV u).size + (mkV [l]).size > 9223372036854775807 := by rw [mkV_size, mkV_size]; have := unhide HUL; have := unhide HLT; simp; omega
                have HAP := hide (mkV_app u [l])
                have HI4 := hide ((unhide HI3).alloc (.cells #[.int .u8 (l : Int)] 5)).drew
                clear hh hh2 h256
                generalize mkV [l] = sb at *
                generalize hsa : mkV u = sa at *
                go_upto_region 13 with fail
                go_cut [9] from 24 to 66 (fun sx wx => sx = .string (sa ++ sb) ∧ Hid (AlI w wx (some ⟨gl, 0, none⟩) lc L (some ⟨gf, 0, none⟩) vc F))
                case first =>
                  go_region
                  all_goals
                    go_wp2_with fail
                    go_meet
                    exact ⟨rfl, unhide HI4⟩
                case rest =>
                  rename World => w5
                  obtain ⟨rfl, HI5⟩ := hcut
                  rw [← unhide HAP]
                  clear HAP hsz hcv hcv' HI4 HI3 f0 f1 l0 l1 hgf hgl
                  have HXA := hide ((unhide HI5).alloc (.cells #[.string (mkV q), .string (mkV (u ++ [l]))] 126))
                  have HWS : Hid (w.heap.size ≤ w5.heap.size) := (unhide HI5).below.size
                  go_wp2_with (at_builtin; refine appTu rfl (.tmp 61) (.tmp 65) rfl w.heap.size _ F rfl (unhide HXA).row w5.heap.size (q, u ++ [l]) rfl (heap_alloc_new _ _) (by have := unhide HFL; omega) (by have := unhide HWS; simp; omega) (w5.heap.size + 1) (by simp) ?_; intro g5 cap5 w8 ho hgrow hlies hlt5; have HP9 := hide ((unhide HXA).push hgrow ho); clear ho hgrow hlies)
                  go_roundw
                  case rel => exact ⟨j + 1, some ⟨g5, 0, none⟩, cap5, F ++ [(q, u ++ [l])], by simp, by go_num, unhide HJL, unhide HSN, unhide HP9, snoc_left (unhide HFI)⟩
                  case measure => have := unhide HJL; simp [lenLeft, intOf]; omega
            · have HSN := hide ((unhide HS).old (unhide HL) (unhide HFI) (unhide HLJ) (by rw [show stpT m ts σ (c, l).2 = q from unhide HQ]; exact hh))
              clear hh
              go_wp2_with fail
              go_roundw
              case rel => exact ⟨j + 1, _, _, F, rfl, by go_num, unhide HJL, unhide HSN, unhide HI3, unhide HFI⟩
              case measure => have := unhide HJL; simp [lenLeft, intOf]; omega
        · have hj2 : j = L.length := by omega
          subst hj2
          have hjI : ¬ (L.length : Int) < (L.length : Int) := by omega
          have HSR := hide (hS.row (unhide HL))
          have HI := hide hI
          have hi256 : (i : Int) < 256 := by have := unhide HLT; omega
          have HLF : Hid (i + 1 ≤ F.length) := (List.getElem?_eq_some_iff.1 hFi).1
          clear hjl hj hf hS hI hFi
          go_wp2_with fail
          go_roundw
          case rel => exact ⟨i + 1, va, vc, F, rfl, by go_num, unhide HLF, unhide HSR, unhide HI⟩
          case measure => have := unhide HLT; simp [lenLeft, intOf]; omega
    · have hi2 : i = F.length := by omega
      subst hi2
      have hiI : ¬ (F.length : Int) < (F.length : Int) := by omega
      have HS := hide hS
      have HI := hide hI
      clear hlt hi hS hI hf
      go_wp2_with fail
      refine bodyPost_ret (v := .tuple #[.slice va F.length vc, .int .i64 0]) (by simp [results, Try.results71, go_sem]) rfl ?_
      exact ⟨(unhide HI).below, .inl ⟨va, vc, F, L, rfl, (unhide HI).row, unhide HS⟩⟩

end Mc
end Go.Proofs.Ytnkdbcicphnmiaa
