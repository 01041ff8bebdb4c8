/-
  tuples.Differ.
-/
import Derived.Test.YtnkdbcicphnmiaaJj
namespace Go.Proofs.Ytnkdbcicphnmiaa
namespace Mc
open Go.RowKit

/-- Tables, and others behind them. -/
def joinT (m : Nat) (ts ts' : Nat → TabN) : Nat → TabN := fun j => if j < m then ts j else ts' (j - m)
theorem joinT_left {m : Nat} {ts ts' : Nat → TabN} (i : Nat) (hi : i < m) : joinT m ts ts' (0 + i) = ts i := by unfold joinT; rw [Nat.zero_add, if_pos hi]
theorem joinT_right {m : Nat} {ts ts' : Nat → TabN} (i : Nat) : joinT m ts ts' (m + i) = ts' i := by unfold joinT; rw [if_neg (by omega), Nat.add_sub_cancel_left]
theorem joinT_ok {m n : Nat} {ts ts' : Nat → TabN} (h1 : ∀ i, i < m → (ts i).Ok) (h2 : ∀ i, i < n → (ts' i).Ok) : ∀ i, i < m + n → (joinT m ts ts' i).Ok := fun i hi => by
  unfold joinT
  split
  · exact h1 i (by assumption)
  · exact h2 _ (by omega)
section
attribute [local go_sem ↓] Go.wp_at_zero Go.wp_at_succ
set_option maxRecDepth 20000 in
set_option maxHeartbeats 2000000 in
theorem Differ_any (w : World) (B gx N m tc g gy N' m' tc' g' : Nat) (f f' : ByteArray) (ts ts' : Nat → TabN) (h : ImB w gx N f (some ⟨g, 0, none⟩) m tc) (ht : Tbs w B g m ts) (h' : ImB w gy N' f' (some ⟨g', 0, none⟩) m' tc') (ht' : Tbs w B g' m' ts') (hB : B ≤ w.heap.size) (h1 : 1 ≤ m) (hm : m ≤ 4) (h1' : 1 ≤ m') (hm' : m' ≤ 4) (hf : f.size ≤ 1000) (hf' : f'.size ≤ 1000) (hok : ∀ i, i < m → (ts i).Ok) (hok' : ∀ i, i < m' → (ts' i).Ok) :
    Calls Try.prog 49 #[.pointer (some ⟨gx, 0, none⟩), .pointer (some ⟨gy, 0, none⟩)] w fun e w' => Below w.heap.size w w' ∧ DifA (fun v => tru f m ts v != tru f' m' ts' v) (Many (stT (m + m') (joinT m ts ts'))) e := by
  have HTO := hide (tablesOf_any w B gx N m tc g f ts h ht hB hm)
  have HT := hide ht
  have HT' := hide ht'
  have HB := hide hB
  have H1 := hide h1
  have HM := hide hm
  have H1' := hide h1'
  have HM' := hide hm'
  have HF := hide hf
  have HF' := hide hf'
  have HOK := hide (joinT_ok hok hok')
  have HIB := hide h
  have HIB' := hide h'
  have hgx := (Array.getElem?_eq_some_iff.1 h.heap).1
  have hgy := (Array.getElem?_eq_some_iff.1 h'.heap).1
  have HGX := hide hgx
  have HGY := hide hgy
  clear h ht hB h1 hm hf hok h' ht' h1' hm' hf' hok'
  go_enter Try.func49, Try.ntmps49
  go_wp2_with fail
  refine (unhide HTO).mono ?_
  rintro e w1 ⟨ta, tc1, cs, rfl, hI⟩
  have HI1 := hide hI
  have HTO2 := hide (tablesOf_any w1 B gy N' m' tc' g' f' ts' ((unhide HIB').below hI.below (unhide HGY)) ((unhide HT').below (hI.below.mono (unhide HB))) (by have := unhide HB; have := hI.below.size; omega) (unhide HM'))
  have hgx1 : gx < w1.heap.size := by have := hI.below.size; omega
  have hgy1 : gy < w1.heap.size := by have := hI.below.size; omega
  clear hI HTO
  go_wp2_with fail
  refine (unhide HTO2).mono ?_
  rintro e w2 ⟨ta2, tc2, cs2, rfl, hI2⟩
  obtain ⟨g2, rfl⟩ := hI2.form (unhide H1')
  have HX := hide ((unhide HI1).next hI2.below)
  have HO2 := hide hI2.own
  have HON2 := hide hI2.one
  have HR2 := hide hI2.rows
  have hgx2 : gx < w2.heap.size := by have := hI2.below.size; omega
  have hgy2 : gy < w2.heap.size := by have := hI2.below.size; omega
  have HWS : Hid (w.heap.size ≤ w2.heap.size) := (unhide HX).below.size
  clear hI2 HI1 HTO2 hgx1 hgy1
  go_wp2_with (at_builtin; refine appTs rfl (.tmp 18) (.tmp 19) rfl w.heap.size _ m cs rfl (unhide HX).own g2 m' tc2 cs2 rfl (unhide HO2).1 (fun j u hu => (unhide HO2).cells (g := g2) rfl j u hu) (unhide HON2) (unhide H1') (by have := unhide HM; have := unhide HM'; omega) (unhide HWS) w2.heap.size rfl ?_; intro g5 cap5 w3 ho hgrow hlies hlt5; have HJ := hide ((unhide HX).join (unhide HON2) (unhide HR2) hgrow ho); clear ho hgrow hlies)
  have HAL := hide (all_any w3 w3.heap.size g5 (m + m') cap5 (joinT m ts ts') (unhide HJ).tbs (Nat.le_refl _) (by have := unhide H1; omega) (by have := unhide HM; have := unhide HM'; omega) (unhide HOK))
  have HB3 := hide (unhide HJ).below
  clear HJ HX HO2 HON2 HR2 HWS hgx2 hgy2
  refine (unhide HAL).mono ?_
  rintro e w4 ⟨hb4, hA⟩
  have HB4 : Hid (Below w.heap.size w w4) := (unhide HB3).trans (hb4.mono (unhide HB3).size)
  clear HAL HB3
  rcases hA with ⟨va, vc, F, L, rfl, hrow, hS⟩ | ⟨hM, rfl⟩
  · have HI2 : Hid (WtI w w4 va vc F) := ⟨unhide HB4, own_less hrow (Nat.zero_le _)⟩
    have HS := hide hS
    have hFI : (F.length : Int) ≤ 256 := by have := hS.few; omega
    have HNM := hide hS.nmany
    have HPQ : Hid (∀ v, (truS f m ts 0 (stT (m + m') (joinT m ts ts') v) != truS f' m' ts' m (stT (m + m') (joinT m ts ts') v)) = (tru f m ts v != tru f' m' ts' v)) := fun v => by
      rw [truS_st (by omega) (fun i hi => joinT_left i hi), truS_st (Nat.le_refl _) (fun i _ => joinT_right i)]
    clear hb4 hrow hS HB4
    go_wp2_with fail
    go_loopw [11] (fun ix wr => ∃ (i : Nat), ix = .int .i64 (i : Int) ∧ Hid (i ≤ F.length ∧ WtI w wr va vc F ∧ ∀ (j : Nat) σ' w', j < i → F[j]? = some (σ', w') → (tru f m ts w' != tru f' m' ts' w') = false)) (fun ix _ => lenLeft 256 ix)
    case atStart => exact ⟨0, rfl, Nat.zero_le _, unhide HI2, fun j _ _ hj => by omega⟩
    case round =>
      clear HI2
      rename World => wr
      obtain ⟨i, rfl, HH⟩ := hrel
      obtain ⟨hi, hI, hno⟩ := unhide HH
      clear HH
      by_cases hlt : i < F.length
      · have hiI : (i : Int) < (F.length : Int) := by omega
        have hi0 : (0 : Int) ≤ (i : Int) := by omega
        have hi1 : ((i : Int)).toNat = i := by omega
        obtain ⟨⟨σ, u⟩, hFi⟩ : ∃ p, F[i]? = some p := ⟨_, List.getElem?_eq_getElem hlt⟩
        obtain ⟨gf, cf, he, hgf, f0, f1⟩ := hI.row.at hFi
        simp only [Value.slice.injEq, true_and] at he
        obtain ⟨rfl, rfl⟩ := he
        simp only [] at f0 f1
        obtain ⟨hσ, hu⟩ := (unhide HS).run hFi
        rw [hσ] at f0
        have HLT : Hid (i < 256) := by have := (unhide HS).few; show _ < _; omega
        have HLF := hide hlt
        have HGX1 := hide (fun (W : World) (hb : Below w.heap.size w W) => grants_st W B gx N m tc g f ts ((unhide HIB).below hb (unhide HGX)) ((unhide HT).below (hb.mono (unhide HB))) (by have := unhide HB; have := hb.size; omega) (unhide HM) (unhide HF) (m + m') (joinT m ts ts') 0 (by omega) (by have := unhide HM; have := unhide HM'; omega) (fun i hi => joinT_left i hi) (unhide HOK) u hu)
        have HGY1 := hide (fun (W : World) (hb : Below w.heap.size w W) => grants_st W B gy N' m' tc' g' f' ts' ((unhide HIB').below hb (unhide HGY)) ((unhide HT').below (hb.mono (unhide HB))) (by have := unhide HB; have := hb.size; omega) (unhide HM') (unhide HF') (m + m') (joinT m ts ts') m (by omega) (by have := unhide HM; have := unhide HM'; omega) (fun i _ => joinT_right i) (unhide HOK) u hu)
        have HRU := hide (fun (W : World) (hb : Below w.heap.size w W) => Rules_any W gx N m tc f (some ⟨g, 0, none⟩) ((unhide HIB).below hb (unhide HGX)))
        have HI := hide hI
        have HFI := hide hFi
        have HU := hide hu
        have HNO := hide hno
        have HSG := hide hσ
        have HUL : Hid (u.length ≤ 255) := by have := (unhide HS).len hFi; have := unhide HLT; show _ ≤ _; omega
        have hgxr : gx < wr.heap.size := by have := hI.below.size; omega
        have hgyr : gy < wr.heap.size := by have := hI.below.size; omega
        clear hi hI hno hlt hFi hu hσ
        generalize hst : mkV (stT (m + m') (joinT m ts ts') u) = sσ at *
        generalize hsu : mkV u = su at *
        have HSU := hide hsu
        have HST := hide hst
        clear hst hsu
        go_wp2_with fail
        refine (unhide HGX1 _ (unhide HI).below).mono ?_
        rintro e w5 ⟨rfl, hb5⟩
        have hI5 := (unhide HI).next hb5
        have HI5 := hide hI5
        have hgx5 : gx < w5.heap.size := by have := hb5.size; omega
        have hgy5 : gy < w5.heap.size := by have := hb5.size; omega
        obtain ⟨gf', cf', he, hgf3, k0, k1⟩ := hI5.row.at (unhide HFI)
        simp only [Value.slice.injEq, true_and, Option.some.injEq, Addr.mk.injEq, and_true] at he
        obtain ⟨rfl, rfl⟩ := he
        simp only [] at k0 k1
        rw [unhide HSG, unhide HST] at k0
        clear hb5 hI5 HI f0 f1 hgf HGX1 k1 hgxr hgyr
        go_upto_region 11 with fail
        go_cut [13] from 29 to 58 (fun bx wx => bx = .bool (tru f' m' ts' u) ∧ Hid (WtI w wx (some ⟨gf, 0, none⟩) vc F))
        case first =>
          go_region_with (first
            | (go_at_call 77; refine (unhide HRU _ (by first | exact (unhide HI5).below.drew | exact (unhide HI5).below.drew.drew)).mono ?_; rintro e w6 ⟨rfl, rfl⟩)
            | (go_at_call 73; refine (unhide HGY1 _ (by first | exact (unhide HI5).below.drew | exact (unhide HI5).below.drew.drew)).mono ?_; rintro e w6 ⟨rfl, hb6⟩; have HI6 := hide ((unhide HI5).drew.next hb6); clear hb6))
          all_goals
            go_wp2_with fail
            go_meet
            exact ⟨rfl, unhide HI6⟩
        case rest =>
          rename World => w6
          obtain ⟨rfl, HI6⟩ := hcut
          clear k0 HGY1 HRU hgx5 hgy5 hgf3 HI5
          obtain ⟨gf', cf', he, hgf3, k0, k1⟩ := (unhide HI6).row.at (unhide HFI)
          simp only [Value.slice.injEq, true_and, Option.some.injEq, Addr.mk.injEq, and_true] at he
          obtain ⟨rfl, rfl⟩ := he
          simp only [] at k0 k1
          rw [unhide HSU] at k1
          clear k0
          cases hh : (tru f m ts u != tru f' m' ts' u)
          · have HNO2 : Hid (∀ (j : Nat) σ' w', j < i + 1 → F[j]? = some (σ', w') → (tru f m ts w' != tru f' m' ts' w') = false) := fun j σ' w' hj hs => by
              by_cases e : j = i
              · subst e
                rw [unhide HFI] at hs
                simp only [Option.some.injEq, Prod.mk.injEq] at hs
                rw [← hs.2]; exact hh
              · exact unhide HNO j σ' w' (by omega) hs
            generalize tru f m ts u = y1 at *
            generalize tru f' m' ts' u = y2 at *
            have he : y1 = y2 := by cases y1 <;> cases y2 <;> simp_all
            subst he
            clear hh
            cases y1
            all_goals
              go_wp2_with fail
              go_roundw
              case rel => exact ⟨i + 1, by go_num, unhide HLF, unhide HI6, unhide HNO2⟩
              case measure => have := unhide HLT; simp [lenLeft, intOf]; omega
          · have HFF := hide ((unhide HS).first (fun σ => truS f m ts 0 σ != truS f' m' ts' m σ) (fun v => tru f m ts v != tru f' m' ts' v) (unhide HPQ) (unhide HFI) (unhide HNO))
            have HHH := hide hh
            cases hy1 : tru f m ts u
            all_goals
              cases hy2 : tru f' m' ts' u
              all_goals
                rw [hy1, hy2] at hh
                first
                | (exfalso; revert hh; decide)
                | (clear hh hy1 hy2
                   go_wp2_with fail
                   refine bodyPost_ret (v := .tuple #[.string su, .bool true, .int .i64 0]) (by simp [results, Try.results49, go_sem]) rfl ?_
                   exact ⟨(unhide HI6).below, .inr (.inl ⟨unhide HNM, u, unhide HU, unhide HUL, unhide HHH, unhide HFF, by rw [unhide HSU]⟩)⟩)
      · have hi2 : i = F.length := by omega
        subst hi2
        have HNN := hide (fun v hv => (unhide HS).none (fun σ => truS f m ts 0 σ != truS f' m' ts' m σ) (fun v => tru f m ts v != tru f' m' ts' v) (unhide HPQ) hno (n := F.length) (most := v.length) (fun j σ' w' hj hs => by
          have := (List.getElem?_eq_some_iff.1 hs).1; omega) v hv (Nat.le_refl _))
        have HBW := hide hI.below
        clear hi hI hno hlt
        go_wp2_with fail
        refine bodyPost_ret (v := .tuple #[.string ⟨#[]⟩, .bool false, .int .i64 0]) (by simp [results, Try.results49, go_sem]) rfl ?_
        exact ⟨unhide HBW, .inr (.inr ⟨unhide HNM, unhide HNN, rfl⟩)⟩
  · have HMM := hide hM
    clear hb4 hM
    go_wp2_with fail
    refine bodyPost_ret (v := .tuple #[.string ⟨#[]⟩, .bool false, .int .i64 3]) (by simp [results, Try.results49, go_sem]) rfl ?_
    exact ⟨unhide HB4, .inl ⟨unhide HMM, rfl⟩⟩
end

end Mc
end Go.Proofs.Ytnkdbcicphnmiaa
