/-
  table.split: the kinds of states, one step finer.
-/
import Derived.Test.YtobfpgoepaeknaaT26
namespace Go.Proofs.Ytobfpgoepaeknaa
open Go.RowKit

/-- While the kinds are split. -/
structure SpI (w wr : World) (kv hv : Value) (ks hs : List Nat) : Prop where
  below : Below w.heap.size w wr
  bR : wr.heap[w.heap.size]? = some (.cells #[.slice none 0 0, .slice none 0 0] 126 (0, 0))
  bF : wr.heap[w.heap.size + 1]? = some (.cells #[kv, hv] 126 (0, 0))
  rk : NRow wr w.heap.size kv ks
  rh : NRow wr w.heap.size hv hs
  dj : Dj kv hv
section sp
variable {w wr w2 : World} {kv hv : Value} {ks hs : List Nat}
theorem SpI.lt (h : SpI w wr kv hv ks hs) : w.heap.size + 1 < wr.heap.size := (Array.getElem?_eq_some_iff.1 h.bF).1
theorem SpI.alloc (h : SpI w wr kv hv ks hs) (o : Obj) : SpI w (wr.alloc o) kv hv ks hs := by
  have l := h.lt
  have k : Below wr.heap.size wr (wr.alloc o) := (Below.refl _ _).alloc (Nat.le_refl _) _
  exact ⟨h.below.trans (k.mono h.below.size), (k.block _ (by omega)).trans h.bR, (k.block _ (by omega)).trans h.bF, h.rk.below k, h.rh.below k, h.dj⟩
theorem SpI.heads (h : SpI w wr kv hv ks hs) (hgrow : wr.grownBy w2 hv.ownBlock) {g cap y : Nat} (ho : w2.ownsRow w.heap.size 3 1 (.slice (some ⟨g, 0, none⟩) (hs.length + 1) cap) (hs.length + 1) (natCells hs ++ [.int .i64 (y : Int)])) (hl : hv.ownBlock = some g ∨ g = wr.heap.size) :
    SpI w (w2.setCell ⟨w.heap.size + 1, 1, none⟩ (.slice (some ⟨g, 0, none⟩) (hs.length + 1) cap)) kv (.slice (some ⟨g, 0, none⟩) (hs.length + 1) cap) ks (hs ++ [y]) := by
  have e1 := own_off h.rh h.bR (by decide)
  have e2 := own_off h.rh h.bF (by decide)
  have g1 := grown_at hgrow h.bR (fun e => e1 _ e rfl)
  have g2 := grown_at hgrow h.bF (fun e => e2 _ e rfl)
  refine ⟨(h.below.grown hgrow h.below.size (fun k hk => (h.rh.lt k hk).1)).setCell (by simp) _, ?_, by rw [heap_setCell_same _ _ _ _ _ _ g2]; rfl, keep2 hgrow g2 h.rk h.dj (by decide), own_set_any (NRow.of ho) g2 (by decide) _ _, h.dj.lies hl (fun q hq => (h.rk.lt q hq).2)⟩
  rw [Below.heap_setCell _ _ _ _ (by simp)]; exact g1
theorem SpI.kinds (h : SpI w wr kv hv ks hs) (hgrow : wr.grownBy w2 kv.ownBlock) {g cap y : Nat} (ho : w2.ownsRow w.heap.size 3 1 (.slice (some ⟨g, 0, none⟩) (ks.length + 1) cap) (ks.length + 1) (natCells ks ++ [.int .i64 (y : Int)])) (hl : kv.ownBlock = some g ∨ g = wr.heap.size) :
    SpI w (w2.setCell ⟨w.heap.size + 1, 0, none⟩ (.slice (some ⟨g, 0, none⟩) (ks.length + 1) cap)) (.slice (some ⟨g, 0, none⟩) (ks.length + 1) cap) hv (ks ++ [y]) hs := by
  have e1 := own_off h.rk h.bR (by decide)
  have e2 := own_off h.rk h.bF (by decide)
  have g1 := grown_at hgrow h.bR (fun e => e1 _ e rfl)
  have g2 := grown_at hgrow h.bF (fun e => e2 _ e rfl)
  refine ⟨(h.below.grown hgrow h.below.size (fun k hk => (h.rk.lt k hk).1)).setCell (by simp) _, ?_, by rw [heap_setCell_same _ _ _ _ _ _ g2]; rfl, own_set_any (NRow.of ho) g2 (by decide) _ _, keep2 hgrow g2 h.rh h.dj.symm (by decide), (h.dj.symm.lies hl (fun q hq => (h.rh.lt q hq).2)).symm⟩
  rw [Below.heap_setCell _ _ _ _ (by simp)]; exact g1
end sp

theorem own_put2 {w : World} {B e z : Nat} {v : Value} {n : Nat} {xs : List Value} {b : Nat} {cs : Array Value} {ty : TypeId} (h : w.ownsRow B e z v n xs) (hb : w.heap[b]? = some (.cells cs ty (0, 0))) (hne : e ≠ ty) (x y : Value) : ((w.setCell ⟨b, 0, none⟩ x).setCell ⟨b, 1, none⟩ y).ownsRow B e z v n xs :=
  own_set_any (own_set_any h hb hne _ _) (heap_setCell_same _ _ _ _ _ _ hb) hne _ _
theorem below_put2 {B b : Nat} {a w : World} (h : Below B a w) (hb : B ≤ b) (x y : Value) : Below B a ((w.setCell ⟨b, 0, none⟩ x).setCell ⟨b, 1, none⟩ y) := (h.setCell (by simpa using hb) _).setCell (by simpa using hb) _
/-- What split answers. -/
def SplitPost (E : Nat → Nat → Prop) (n0 : Nat) (ks hs : List Nat) : Prop := (hs.length = 25 ∧ ∃ n kd, n ≤ n0 ∧ Sorted n E hs kd) ∨ (hs.length ≤ 24 ∧ ks.length = n0 ∧ Sorted n0 E hs (fun i => ks.getD i 0))

set_option maxRecDepth 20000 in
set_option maxHeartbeats 2000000 in
theorem split_any (w : World) (g M : Nat) (F : Nat → Nat) (grs : List Bool) (nxs : List Nat) (h : GraphB w g M F grs nxs) (hs : Small M grs nxs) (B : Nat) (kv : Value) (ks0 : List Nat) (hK : NRow w B kv ks0) (hk : ks0.length ≤ 10000) :
    Calls Try.prog 89 #[.pointer (some ⟨g, 0, none⟩), kv] w fun e w' => ∃ kv2 hv ks hs, e = .returned (.agg #[kv2, hv]) ∧ Below w.heap.size w w' ∧ NRow w' w.heap.size kv2 ks ∧ NRow w' w.heap.size hv hs ∧ SplitPost (EsL (fun i => grs.getD i false) (nlM nxs M) M (fun i => ks0.getD i 0)) ks0.length ks hs := by
  have HSAME : Hid (∀ (W : World), Below w.heap.size w W → ∀ a b : Nat, a ≤ 10000 → b ≤ 10000 → Calls Try.prog 100 #[.pointer (some ⟨g, 0, none⟩), kv, .int .i64 (a : Int), .int .i64 (b : Int)] W fun e w' => (∃ y, e = .returned (.bool y) ∧ (y = true ↔ EsL (fun i => grs.getD i false) (nlM nxs M) M (fun i => ks0.getD i 0) a b)) ∧ w' = W) :=
    fun W hW a b ha hb => tsame_any W g M F grs nxs (h.below hW) hs B kv ks0 (hK.below hW) hk a b ha hb
  have HEQ : Hid (Equivalence (EsL (fun i => grs.getD i false) (nlM nxs M) M (fun i => ks0.getD i 0))) := EsL_eqv _ _ _ _
  generalize EsL (fun i => grs.getD i false) (nlM nxs M) M (fun i => ks0.getD i 0) = E at *
  obtain ⟨ka, kc, rfl⟩ := hK.form
  have hkI : (ks0.length : Int) ≤ 10000 := by omega
  have HKL := hide hk
  generalize ks0.length = n0 at *
  have H0 : Hid (SpI w ((w.alloc (.cells #[.slice none 0 0, .slice none 0 0] 126)).alloc (.cells #[.slice none 0 0, .slice none 0 0] 126)) (.slice none 0 0) (.slice none 0 0) [] []) :=
    ⟨((Below.refl _ _).alloc (Nat.le_refl _) _).alloc (by simp) _, heap_alloc2_old w _ _, heap_alloc2_new w _ _, World.ownsRow_nil _ _ _ _, World.ownsRow_nil _ _ _ _, Dj.nil _⟩
  obtain ⟨i, i0, i1, i2, i3⟩ := info_of info3
  have HI := hide (And.intro i0 (And.intro i1 (And.intro i2 i3)))
  clear i0 i1 i2 i3 h hs hK hk
  go_enter Try.func89, Try.ntmps89
  go_wp2_with fail
  go_loopw [6] (fun sx wr => ∃ (s : Nat) (kv2 hv : Value) (ks hs : List Nat), sx = .int .i64 (s : Int) ∧ Hid (s ≤ n0 ∧ SpI w wr kv2 hv ks hs ∧ ks.length = s ∧ hs.length ≤ 24 ∧ Sorted s E hs (fun i => ks.getD i 0))) (fun sx _ => n0 - (intOf sx).toNat)
  case atStart => exact ⟨0, _, _, [], [], rfl, Nat.zero_le _, unhide H0, rfl, by simp, Sorted.nil _ _⟩
  case round =>
    rename World => wr
    obtain ⟨s, kv2, hv, ks, hs, rfl, HH⟩ := hrel
    clear H0
    by_cases hlt : s < n0
    · have hltI : (s : Int) < (n0 : Int) := by omega
      have HLT := hide hlt
      obtain ⟨-, hI, hkl, hhl, hso⟩ := unhide HH
      obtain ⟨ha, hc, rfl⟩ := hI.rh.form
      obtain ⟨kka, kkc, rfl⟩ := hI.rk.form
      have HI1 := hide hI
      have HHL := hide hhl
      have HSO := hide hso
      have HKS := hide hkl
      have hhI : (hs.length : Int) ≤ 24 := by omega
      have HSM : Hid (∀ b : Nat, b ≤ 10000 → Calls Try.prog 100 #[.pointer (some ⟨g, 0, none⟩), .slice ka n0 kc, .int .i64 (s : Int), .int .i64 (b : Int)] wr fun e w' => (∃ y, e = .returned (.bool y) ∧ (y = true ↔ E s b)) ∧ w' = wr) := fun b hb => unhide HSAME wr hI.below s b (by have := unhide HKL; omega) hb
      clear hlt HH hI hkl hhl hso
      go_wp2_with fail
      go_loopw [7] (fun kx wx => ∃ k : Nat, kx = .int .i64 (k : Int) ∧ k ≤ hs.length ∧ Hid (∀ j, j < k → ¬ E s (hs.getD j 0)) ∧ wx = wr) (fun kx _ => hs.length - (intOf kx).toNat)
      case atStart => exact ⟨0, rfl, Nat.zero_le _, fun j hj => absurd hj (Nat.not_lt_zero _), rfl⟩
      case round =>
        rename World => wx
        obtain ⟨k, rfl, hk, HNO, hwx⟩ := hrel
        obtain rfl : wr = wx := hwx.symm
        clear hwx
        have c1 : wr.cell? ⟨w.heap.size + 1, 1, none⟩ = some (.slice ha hs.length hc) := by rw [cell_of_row _ _ _ _ _ _ (unhide HI1).bF]; rfl
        have c0 : wr.cell? ⟨w.heap.size + 1, 0, none⟩ = some (.slice kka ks.length kkc) := by rw [cell_of_row _ _ _ _ _ _ (unhide HI1).bF]; rfl
        have z0 := frozen_of_row wr (w.heap.size + 1) 0 _ _ (unhide HI1).bF
        have z1 := frozen_of_row wr (w.heap.size + 1) 1 _ _ (unhide HI1).bF
        have hl1 := (unhide HI1).lt
        have HOK := hide (World.ownsRow.alloc (unhide HI1).rk (Obj.cells #[.int .i64 (k : Int)] 3))
        have HSK := hide ((unhide HI1).alloc (Obj.cells #[.int .i64 (k : Int)] 3))
        have HSZ : Hid (w.heap.size ≤ wr.heap.size) := (unhide HI1).below.size
        have HKN : Hid (ks.length ≤ 10000) := by have := unhide HKS; have := unhide HLT; have := unhide HKL; show _ ≤ _; omega
        by_cases hkl : k < hs.length
        · obtain ⟨gh, ch, he, hx⟩ := (unhide HI1).rh.at hkl
          simp only [Value.slice.injEq, true_and] at he
          obtain ⟨rfl, rfl⟩ := he
          have hkI2 : (k : Int) < (hs.length : Int) := by omega
          have HKL2 := hide hkl
          have hxb : hs.getD k 0 ≤ 10000 := by
            have := ((unhide HSO).head k hkl).1
            have := unhide HKL
            have := unhide HLT
            omega
          have HC := hide (unhide HSM _ hxb)
          have HNO2 : Hid (¬ E s (hs.getD k 0) → ∀ j, j < k + 1 → ¬ E s (hs.getD j 0)) := fun hne j hj => by
            by_cases e : j = k
            · subst e; exact hne
            · exact unhide HNO j (by omega)
          have HYES : Hid (E s (hs.getD k 0) → Sorted (s + 1) E hs (fun i => (ks ++ [k]).getD i 0)) := fun hE => (unhide HSO).old (unhide HEQ) hkl hE (fun a ha => getD_snoc_old (by rw [unhide HKS]; exact ha)) (by rw [← unhide HKS]; exact getD_snoc_new _ _)
          generalize hs.getD k 0 = x at *
          clear hkl hxb
          go_wp2_with fail
          refine (unhide HC).mono ?_
          rintro e w1 ⟨⟨y, rfl, hy⟩, hww⟩
          obtain rfl : wr = w1 := hww.symm
          clear hww
          cases y
          · have HN : Hid (¬ E s x) := fun hE => by have := hy.2 hE; cases this
            clear hy
            go_wp2_with fail
            go_roundw
            case rel => exact ⟨k + 1, by go_num, unhide HKL2, unhide HNO2 (unhide HN), by first | rfl | trivial⟩
            case measure => have := unhide HKL2; simp [intOf]; omega
          · have HY := hide (hy.1 rfl)
            clear hy
            have hkne : ¬ (k : Int) = (hs.length : Int) := by omega
            go_wp2_with (at_builtin; refine wpList_append_lies _ rfl (.tmp 51) (.tmp 53) 53 rfl w.heap.size 3 i (.int .i64 0) 1 8 Try.underlying53 (unhide HI).1 (unhide HI).2.1 (unhide HI).2.2.1 (unhide HI).2.2.2 rfl (by decide) _ _ _ rfl (unhide HOK) ⟨wr.heap.size, 0, none⟩ 1 1 [.int .i64 (k : Int)] rfl rfl (cell_one_new _ _ _) (by intro u hu; simp at hu; subst hu; rfl) (by decide) (by have := unhide HKN; unfold maxLen; omega) (by have := unhide HKN; omega) (by have := unhide HSZ; simp; omega) (wr.heap.size + 1) (by simp) ?_; intro g5 cap5 w8 ho hgrow hlies hlt5; have hb3 : w8.heap[w.heap.size + 1]? = _ := grown_at hgrow (unhide HSK).bF (fun e => own_off (unhide HSK).rk (unhide HSK).bF (by decide) _ e rfl); have y8 : w8.cell? ⟨w.heap.size + 1, 0, none⟩ = some (.slice kka ks.length kkc) := (by rw [cell_of_row _ _ _ _ _ _ hb3]; rfl); have z8 := frozen_of_row w8 (w.heap.size + 1) 0 _ _ hb3; have HN := hide (SpI.kinds (unhide HSK) hgrow ho (hlies.elim Or.inl (fun e => Or.inr (by rw [e]; simp)))); clear hb3 ho hgrow hlies)
            go_roundw
            case rel => exact ⟨s + 1, _, _, _, _, by go_num, unhide HLT, unhide HN, by simp [unhide HKS], unhide HHL, unhide HYES (unhide HY)⟩
            case measure => have := unhide HLT; simp [intOf]; omega
        · have hk2 : k = hs.length := by omega
          subst hk2
          have HOH := hide (World.ownsRow.alloc (unhide HI1).rh (Obj.cells #[.int .i64 (s : Int)] 3))
          have HSH := hide ((unhide HI1).alloc (Obj.cells #[.int .i64 (s : Int)] 3))
          have HNEW : Hid (Sorted (s + 1) E (hs ++ [s]) (fun i => (ks ++ [hs.length]).getD i 0)) := (unhide HSO).new (unhide HEQ) (unhide HNO) (fun a ha => getD_snoc_old (by rw [unhide HKS]; exact ha)) (by rw [← unhide HKS]; exact getD_snoc_new _ _)
          clear HOK HSK
          go_upto_region 10 with (at_builtin; refine wpList_append_lies _ rfl (.tmp 40) (.tmp 42) 53 rfl w.heap.size 3 i (.int .i64 0) 1 8 Try.underlying53 (unhide HI).1 (unhide HI).2.1 (unhide HI).2.2.1 (unhide HI).2.2.2 rfl (by decide) _ _ _ rfl (unhide HOH) ⟨wr.heap.size, 0, none⟩ 1 1 [.int .i64 (s : Int)] rfl rfl (cell_one_new _ _ _) (by intro u hu; simp at hu; subst hu; rfl) (by decide) (by have := unhide HHL; unfold maxLen; omega) (by have := unhide HHL; omega) (by have := unhide HSZ; simp; omega) (wr.heap.size + 1) (by simp) ?_; intro g5 cap5 w8 ho hgrow hlies hlt5; have hb3 : w8.heap[w.heap.size + 1]? = _ := grown_at hgrow (unhide HSH).bF (fun e => own_off (unhide HSH).rh (unhide HSH).bF (by decide) _ e rfl); have y8 : w8.cell? ⟨w.heap.size + 1, 1, none⟩ = some (.slice ha hs.length hc) := (by rw [cell_of_row _ _ _ _ _ _ hb3]; rfl); have z8 := frozen_of_row w8 (w.heap.size + 1) 1 _ _ hb3; have HN := hide (SpI.heads (unhide HSH) hgrow ho (hlies.elim Or.inl (fun e => Or.inr (by rw [e]; simp)))); clear hb3 ho hgrow hlies)
          generalize hW : w8.setCell ⟨w.heap.size + 1, 1, none⟩ (.slice (some ⟨g5, 0, none⟩) (hs.length + 1) cap5) = W at *
          clear hW y8 z8 c0 c1 z0 z1 HSZ hl1
          have c1 : W.cell? ⟨w.heap.size + 1, 1, none⟩ = some (.slice (some ⟨g5, 0, none⟩) (hs.length + 1) cap5) := by rw [cell_of_row _ _ _ _ _ _ (unhide HN).bF]; rfl
          have c0 : W.cell? ⟨w.heap.size + 1, 0, none⟩ = some (.slice kka ks.length kkc) := by rw [cell_of_row _ _ _ _ _ _ (unhide HN).bF]; rfl
          have hl1 := (unhide HN).lt
          have HSZ : Hid (w.heap.size ≤ W.heap.size) := (unhide HN).below.size
          by_cases h24 : hs.length = 24
          · have h25 : (24 : Int) < (hs.length : Int) + 1 := by omega
            have H24 := hide h24
            clear h24
            have r0 : W.cell? ⟨w.heap.size, 0, none⟩ = some (.slice none 0 0) := by rw [cell_of_row _ _ _ _ _ _ (unhide HN).bR]; rfl
            have r1 : W.cell? ⟨w.heap.size, 1, none⟩ = some (.slice none 0 0) := by rw [cell_of_row _ _ _ _ _ _ (unhide HN).bR]; rfl
            have f0 := frozen_of_row W w.heap.size 0 _ _ (unhide HN).bR
            have f1 := frozen_of_row W w.heap.size 1 _ _ (unhide HN).bR
            go_wp2_with fail
            refine bodyPost_ret (v := .agg #[.slice kka ks.length kkc, .slice (some ⟨g5, 0, none⟩) (hs.length + 1) cap5]) (by simp [results, Try.results89, go_sem, *]) rfl
              ⟨_, _, _, _, rfl, below_put2 (unhide HN).below (Nat.le_refl _) _ _, own_put2 (unhide HN).rk (unhide HN).bR (by decide) _ _, own_put2 (unhide HN).rh (unhide HN).bR (by decide) _ _, .inl ⟨by simp [unhide H24], _, _, unhide HLT, unhide HNEW⟩⟩
          · have h25 : (hs.length : Int) + 1 ≤ 24 := by omega
            have H24 : Hid (hs.length + 1 ≤ 24) := by show _ ≤ _; omega
            have HOK := hide (World.ownsRow.alloc (unhide HN).rk (Obj.cells #[.int .i64 ((hs.length : Nat) : Int)] 3))
            have HSK := hide ((unhide HN).alloc (Obj.cells #[.int .i64 ((hs.length : Nat) : Int)] 3))
            clear h24 HN
            go_wp2_with (at_builtin; refine wpList_append_lies _ rfl (.tmp 51) (.tmp 53) 53 rfl w.heap.size 3 i (.int .i64 0) 1 8 Try.underlying53 (unhide HI).1 (unhide HI).2.1 (unhide HI).2.2.1 (unhide HI).2.2.2 rfl (by decide) _ _ _ rfl (unhide HOK) ⟨W.heap.size, 0, none⟩ 1 1 [.int .i64 ((hs.length : Nat) : Int)] rfl rfl (cell_one_new _ _ _) (by intro u hu; simp at hu; subst hu; rfl) (by decide) (by have := unhide HKN; unfold maxLen; omega) (by have := unhide HKN; omega) (by have := unhide HSZ; simp; omega) (W.heap.size + 1) (by simp) ?_; intro g6 cap6 w9 ho hgrow hlies hlt5; have hb3 : w9.heap[w.heap.size + 1]? = _ := grown_at hgrow (unhide HSK).bF (fun e => own_off (unhide HSK).rk (unhide HSK).bF (by decide) _ e rfl); have y8 : w9.cell? ⟨w.heap.size + 1, 0, none⟩ = some (.slice kka ks.length kkc) := (by rw [cell_of_row _ _ _ _ _ _ hb3]; rfl); have z8 := frozen_of_row w9 (w.heap.size + 1) 0 _ _ hb3; have HN := hide (SpI.kinds (unhide HSK) hgrow ho (hlies.elim Or.inl (fun e => Or.inr (by rw [e]; simp)))); clear hb3 ho hgrow hlies)
            go_roundw
            case rel => exact ⟨s + 1, _, _, _, _, by go_num, unhide HLT, unhide HN, by simp [unhide HKS], by rw [List.length_append]; exact unhide H24, unhide HNEW⟩
            case measure => have := unhide HLT; simp [intOf]; omega
    · obtain ⟨hsn, hI, hkl, hhl, hso⟩ := unhide HH
      have hs2 : s = n0 := by omega
      subst hs2
      obtain ⟨ha, hc, rfl⟩ := hI.rh.form
      obtain ⟨kka, kkc, rfl⟩ := hI.rk.form
      have HN := hide hI
      have HR : Hid (SplitPost E s ks hs) := .inr ⟨hhl, hkl, hso⟩
      clear hsn hI hkl hhl hso HH hlt
      have c1 : wr.cell? ⟨w.heap.size + 1, 1, none⟩ = some (.slice ha hs.length hc) := by rw [cell_of_row _ _ _ _ _ _ (unhide HN).bF]; rfl
      have c0 : wr.cell? ⟨w.heap.size + 1, 0, none⟩ = some (.slice kka ks.length kkc) := by rw [cell_of_row _ _ _ _ _ _ (unhide HN).bF]; rfl
      have r0 : wr.cell? ⟨w.heap.size, 0, none⟩ = some (.slice none 0 0) := by rw [cell_of_row _ _ _ _ _ _ (unhide HN).bR]; rfl
      have r1 : wr.cell? ⟨w.heap.size, 1, none⟩ = some (.slice none 0 0) := by rw [cell_of_row _ _ _ _ _ _ (unhide HN).bR]; rfl
      have f0 := frozen_of_row wr w.heap.size 0 _ _ (unhide HN).bR
      have f1 := frozen_of_row wr w.heap.size 1 _ _ (unhide HN).bR
      go_wp2_with fail
      refine bodyPost_ret (v := .agg #[.slice kka ks.length kkc, .slice ha hs.length hc]) (by simp [results, Try.results89, go_sem, *]) rfl
        ⟨_, _, _, _, rfl, below_put2 (unhide HN).below (Nat.le_refl _) _ _, own_put2 (unhide HN).rk (unhide HN).bR (by decide) _ _, own_put2 (unhide HN).rh (unhide HN).bR (by decide) _ _, unhide HR⟩

end Go.Proofs.Ytobfpgoepaeknaa
