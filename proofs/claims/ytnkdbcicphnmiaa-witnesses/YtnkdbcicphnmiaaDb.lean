/-
  veilref: sameNumbers, Reach.behind, Reach.number.
-/
import Derived.Test.YtnkdbcicphnmiaaT22
namespace Go.Proofs.Ytnkdbcicphnmiaa
namespace Mc
open Go.RowKit
attribute [local go_sem ↓] Go.wp_at_zero Go.wp_at_succ

theorem getD_ext {a b : List Nat} (hl : a.length = b.length) (h : ∀ j, j < a.length → a.getD j 0 = b.getD j 0) : a = b := by
  apply List.ext_getElem hl
  intro i h1 h2
  have := h i h1
  rwa [List.getD_eq_getElem?_getD, List.getD_eq_getElem?_getD, List.getElem?_eq_getElem h1, List.getElem?_eq_getElem h2] at this
set_option maxRecDepth 20000 in
set_option maxHeartbeats 1000000 in
theorem sameNumbers_any (w : World) (B B' : Nat) (u v : Value) (a b : List Nat) (ha : NR w B u a) (hb : NR w B' v b) (hl : a.length ≤ 1000) (hl' : b.length ≤ 1000) :
    Calls Try.prog 104 #[u, v] w fun e w' => e = .returned (.bool (decide (a = b))) ∧ ∃ n, w' = w.drewN n := by
  obtain ⟨ua, uc, rfl⟩ := ha.form
  obtain ⟨va, vc, rfl⟩ := hb.form
  have haI : (a.length : Int) ≤ 1000 := by omega
  have hbI : (b.length : Int) ≤ 1000 := by omega
  have HA := hide ha
  have HB := hide hb
  clear ha hb
  by_cases hlen : a.length = b.length
  · have HLN := hide hlen
    have hlI : (a.length : Int) = (b.length : Int) := by omega
    clear hlen hl hl'
    go_enter Try.func104, Try.ntmps104
    go_wp2_with fail
    go_loopw [5] (fun ix wr => ∃ i : Nat, ix = .int .i64 (i : Int) ∧ Hid (i ≤ a.length ∧ (∃ n, wr = w.drewN n) ∧ ∀ j, j < i → a.getD j 0 = b.getD j 0)) (fun ix _ => lenLeft a.length ix)
    case atStart => exact ⟨0, rfl, Nat.zero_le _, ⟨0, rfl⟩, fun j hj => by omega⟩
    case round =>
      rename World => wr
      obtain ⟨i, rfl, HH⟩ := hrel
      obtain ⟨hi, ⟨n, rfl⟩, hs⟩ := unhide HH
      clear HH
      by_cases hlt : i < a.length
      · have hiI : (i : Int) < (a.length : Int) := by omega
        have hiI2 : (i : Int) < (b.length : Int) := by omega
        have hi0 : (0 : Int) ≤ (i : Int) := by omega
        have hi1 : ((i : Int)).toNat = i := by omega
        obtain ⟨ga, ca, he, c1⟩ := (unhide HA).at hlt
        simp only [Value.slice.injEq, true_and] at he
        obtain ⟨rfl, rfl⟩ := he
        obtain ⟨gb, cb, he, c2⟩ := (unhide HB).at (k := i) (by have := unhide HLN; omega)
        simp only [Value.slice.injEq, true_and] at he
        obtain ⟨rfl, rfl⟩ := he
        have g1 : ga < w.heap.size := (World.ownsRow.lt (unhide HA) ga rfl).2
        have g2 : gb < w.heap.size := (World.ownsRow.lt (unhide HB) gb rfl).2
        have HLT := hide hlt
        have HS := hide hs
        by_cases he : a.getD i 0 = b.getD i 0
        · have HN : Hid (∀ j, j < i + 1 → a.getD j 0 = b.getD j 0) := fun j hj => by
            by_cases e : j = i
            · rw [e]; exact he
            · exact hs j (by omega)
          rw [← he] at c2
          clear hlt hi hs he HS
          generalize a.getD i 0 = y at *
          go_wp2_with fail
          go_quiet (fail)
          go_wp2_with fail
          go_roundw
          case rel => exact ⟨i + 1, by go_num, unhide HLT, ⟨n + nq, by simp⟩, unhide HN⟩
          case measure => have := unhide HLT; simp [lenLeft, intOf]; omega
        · have hne : ¬ ((a.getD i 0 : Nat) : Int) = ((b.getD i 0 : Nat) : Int) := by omega
          have HF : Hid (decide (a = b) = false) := decide_eq_false (fun e => he (by rw [e]))
          clear hlt hi hs he
          generalize a.getD i 0 = y at *
          generalize b.getD i 0 = y' at *
          go_wp2_with fail
          go_quiet (fail)
          go_wp2_with fail
          go_ret
          exact ⟨by rw [unhide HF]; rfl, n + nq, by simp⟩
      · have hi2 : i = a.length := by omega
        subst hi2
        have HT : Hid (decide (a = b) = true) := decide_eq_true (getD_ext (unhide HLN) hs)
        clear hlt hi hs
        go_wp2_with fail
        go_ret
        exact ⟨by rw [unhide HT]; rfl, _, rfl⟩
  · have hlI : ¬ (a.length : Int) = (b.length : Int) := by omega
    have HF : Hid (decide (a = b) = false) := decide_eq_false (fun e => hlen (by rw [e]))
    clear hlen hl hl'
    go_enter Try.func104, Try.ntmps104
    go_wp2_with fail
    go_ret
    exact ⟨by rw [unhide HF]; rfl, 0, rfl⟩

/-- The document's tables: what step and granted answer. -/
structure TbD (m : Nat) (tb : Nat → ByteArray) (ts : Nat → TabN) : Prop where
  ok : ∀ i, i < m → (ts i).Ok
  step : ∀ i, i < m → ∀ (q b : Nat) (W : World), q < (ts i).S → b < 256 → Calls Try.prog 65 #[.string (tb i), .int .i64 (q : Int), .int .i64 (b : Int)] W fun e w' => e = .returned (.int .i64 (((ts i).nx q ((ts i).cl b) : Nat) : Int)) ∧ w' = W
  gr : ∀ i, i < m → ∀ (q : Nat) (W : World), q < (ts i).S → Calls Try.prog 66 #[.string (tb i), .int .i64 (q : Int)] W fun e w' => e = .returned (.bool ((ts i).gr q)) ∧ w' = W
theorem TbD.of {x : ByteArray} (h : ImOk x) : TbD (bt x 3) (fun i => tblX x (tpos x (5 + bt x 4) i)) (imT x) :=
  ⟨imT_ok h, fun i hi q b W hq hb => step_any W x _ q b (h.ts.1 i hi) hq hb, fun i hi q W hq => granted_any W x _ q (h.ts.1 i hi) hq⟩
theorem TbD.join {m m' : Nat} {tb tb' : Nat → ByteArray} {ts ts' : Nat → TabN} (h : TbD m tb ts) (h' : TbD m' tb' ts') : TbD (m + m') (fun i => if i < m then tb i else tb' (i - m)) (joinT m ts ts') := by
  refine ⟨joinT_ok h.ok h'.ok, fun i hi q b W hq hb => ?_, fun i hi q W hq => ?_⟩
  · unfold joinT at hq ⊢
    by_cases e : i < m
    · simp only [if_pos e] at hq ⊢
      exact h.step i e q b W hq hb
    · simp only [if_neg e] at hq ⊢
      exact h'.step _ (by omega) q b W hq hb
  · unfold joinT at hq ⊢
    by_cases e : i < m
    · simp only [if_pos e] at hq ⊢
      exact h.gr i e q W hq
    · simp only [if_neg e] at hq ⊢
      exact h'.gr _ (by omega) q W hq
theorem stpT_eq (m : Nat) (ts : Nat → TabN) (t : List Nat) (b : Nat) : stpT m ts t b = (List.range m).map fun j => (ts j).nx (t.getD j 0) ((ts j).cl b) := by
  unfold stpT nxT
  apply List.map_congr_left
  intro i hi
  unfold clT
  rw [rmap_getD _ (List.mem_range.1 hi)]
/-- A row of numbers in the making. -/
structure NrI (w wr : World) (va : Option Addr) (vc : Nat) (xs : List Nat) : Prop where
  below : Below w.heap.size w wr
  row : NR wr w.heap.size (.slice va xs.length vc) xs
section
variable {w wr w2 : World} {va : Option Addr} {vc : Nat} {xs : List Nat}
theorem NrI.start (w : World) : NrI w w none 0 [] := ⟨Below.refl _ _, NR.nil _ _⟩
theorem NrI.alloc (h : NrI w wr va vc xs) (o : Obj) : NrI w (wr.alloc o) va vc xs := ⟨h.below.alloc h.below.size _, (Fr.ofAlloc wr o).own h.row (by simp)⟩
theorem NrI.drewN (h : NrI w wr va vc xs) (n : Nat) : NrI w (wr.drewN n) va vc xs := ⟨below_drewN h.below n, h.row⟩
theorem NrI.push (h : NrI w wr va vc xs) {g cap y : Nat} (hgrow : wr.grownBy w2 (.slice va xs.length vc : Value).ownBlock) (ho : w2.ownsRow w.heap.size 3 1 (.slice (some ⟨g, 0, none⟩) (xs.length + 1) cap) (xs.length + 1) (ncs xs ++ [.int .i64 (y : Int)])) : NrI w w2 (some ⟨g, 0, none⟩) cap (xs ++ [y]) := by
  refine ⟨below_grown h.below hgrow h.below.size (fun q hq => (World.ownsRow.lt h.row q hq).1), ?_⟩
  rw [List.length_append]
  exact NR.of ho
end
set_option maxRecDepth 20000 in
set_option maxHeartbeats 1000000 in
theorem behind_any (w : World) (gr gt m tc : Nat) (tb : Nat → ByteArray) (ts : Nat → TabN) (hT : TbD m tb ts) (h8 : m ≤ 8) (hc0 : w.cell? ⟨gr, 0, none⟩ = some (.slice (some ⟨gt, 0, none⟩) m tc)) (hct : ∀ i, i < m → w.cell? ⟨gt, i, none⟩ = some (.string (tb i))) (B : Nat) (u : Value) (t : List Nat) (ht : NR w B u t) (htl : t.length = m) (hts : ∀ i, i < m → t.getD i 0 < (ts i).S) (b : Nat) (hb : b < 256) :
    Calls Try.prog 75 #[.pointer (some ⟨gr, 0, none⟩), u, .int .i64 (b : Int)] w fun e w' => ∃ va vc, e = .returned (.slice va m vc) ∧ NrI w w' va vc (stpT m ts t b) := by
  obtain ⟨ua, uc, rfl⟩ := ht.form
  rw [htl] at ht ⊢
  have hmI : (m : Int) ≤ 8 := by omega
  have hbI : (b : Int) < 256 := by omega
  have HT := hide hT
  have H8 := hide h8
  have HC0 := hide hc0
  have HCT := hide hct
  have HTR : Hid (NR w B (.slice ua t.length uc) t) := by rw [htl]; exact ht
  have HTL := hide htl
  have HTS := hide hts
  have HBB := hide hb
  rw [stpT_eq]
  clear hT h8 hc0 hct ht htl hts hb
  go_enter Try.func75, Try.ntmps75
  go_wp2_with fail
  go_loopw [7, 8] (fun vx ix wr => ∃ (i : Nat) (va : Option Addr) (vc : Nat), vx = .slice va i vc ∧ ix = .int .i64 (i : Int) ∧ Hid (i ≤ m ∧ NrI w wr va vc ((List.range i).map fun j => (ts j).nx (t.getD j 0) ((ts j).cl b)))) (fun _ ix _ => lenLeft m ix)
  case atStart => exact ⟨0, none, 0, rfl, rfl, Nat.zero_le _, NrI.start w⟩
  case round =>
    rename World => wr
    obtain ⟨i, va, vc, rfl, rfl, HH⟩ := hrel
    obtain ⟨hi, hI⟩ := unhide HH
    clear HH
    have c0 := below_cell hI.below (unhide HC0)
    have hgr : gr < wr.heap.size := World.block_lt_of_cell? wr ⟨gr, 0, none⟩ c0
    by_cases hlt : i < m
    · have hiI : (i : Int) < (m : Int) := by omega
      have hi0 : (0 : Int) ≤ (i : Int) := by omega
      have hi1 : ((i : Int)).toNat = i := by omega
      have c1 := below_cell hI.below (unhide HCT i hlt)
      have hgt : gt < wr.heap.size := World.block_lt_of_cell? wr ⟨gt, i, none⟩ c1
      obtain ⟨gu, cu, he, hcu⟩ := (unhide HTR).at (k := i) (by have := unhide HTL; omega)
      simp only [Value.slice.injEq, true_and] at he
      obtain ⟨rfl, rfl⟩ := he
      have c2 := below_cell hI.below hcu
      have hgu : gu < wr.heap.size := World.block_lt_of_cell? wr ⟨gu, i, none⟩ c2
      have HST := hide (fun W => (unhide HT).step i hlt (t.getD i 0) b W (unhide HTS i hlt) (unhide HBB))
      have HSN := hide (rmap_snoc i (fun j => (ts j).nx (t.getD j 0) ((ts j).cl b)))
      have HLN := hide (rmap_len i (fun j => (ts j).nx (t.getD j 0) ((ts j).cl b)))
      have HLT := hide hlt
      have HI := hide hI
      have HSZ : Hid (w.heap.size ≤ wr.heap.size) := hI.below.size
      clear hlt hi hI hcu
      generalize (ts i).nx (t.getD i 0) ((ts i).cl b) = y at *
      generalize t.getD i 0 = q at *
      generalize tb i = tx at *
      generalize (List.range i).map (fun j => (ts j).nx (t.getD j 0) ((ts j).cl b)) = xs at *
      have hxl := unhide HLN
      subst hxl
      go_wp2_with fail
      go_quiet ((go_at_call 65; exact Calls.quiet_of_same (unhide HST _)))
      have HXA := hide (((unhide HI).drewN nq).alloc (Obj.cells #[.int .i64 (y : Int)] 3))
      go_wp2_with (at_builtin; refine app1 rfl (.tmp 32) (.tmp 34) rfl w.heap.size _ xs rfl (unhide HXA).row (wr.drewN nq).heap.size _ rfl (new_cell rfl) (by have := unhide HLT; have := unhide H8; omega) (by have := unhide HSZ; simp; omega) (wr.heap.size + 1) (by simp) ?_; intro g5 cap5 w8 ho hgrow hlies hlt5; have HP9 := hide ((unhide HXA).push hgrow ho); clear ho hgrow hlies)
      go_roundw
      case rel => exact ⟨xs.length + 1, some ⟨g5, 0, none⟩, cap5, rfl, by go_num, unhide HLT, by rw [unhide HSN]; exact unhide HP9⟩
      case measure => have := unhide HLT; simp [lenLeft, intOf]; omega
    · have hi2 : i = m := by omega
      subst hi2
      have HI := hide hI
      clear hlt hi hI
      go_wp2_with fail
      go_ret
      exact ⟨va, vc, rfl, unhide HI⟩

set_option maxRecDepth 20000 in
set_option maxHeartbeats 2000000 in
theorem number_any (w : World) (gr : Nat) (W : World) (tv : Value) (fa : Option Addr) (fc : Nat) (F : List (List Nat)) (us : List Value) (na : Option Addr) (nc : Nat) (Nx : List (List Nat)) (ns : List Value) (h : ReI w gr W tv fa fc F us na nc Nx ns) (u : Value) (t : List Nat) (hu : NR W w.heap.size u t) (hl : t.length ≤ 8) (hF : F.length ≤ 256) (hr : ∀ r ∈ F, r.length ≤ 8) :
    Calls Try.prog 74 #[.pointer (some ⟨gr, 0, none⟩), u] W fun e w' => ∃ (k : Nat) (F' : List (List Nat)) (us' : List Value) (fa' : Option Addr) (fc' : Nat), e = .returned (.int .i64 (k : Int)) ∧ F'[k]? = some t ∧ ReI w gr w' tv fa' fc' F' us' na nc Nx ns ∧ Fr (gr :: (Value.slice fa F.length fc).ownBlock.toList) W w' ∧ ((F' = F ∧ us' = us) ∨ (F' = F ++ [t] ∧ us' = us ++ [u] ∧ ∀ k : Nat, F[k]? ≠ some t)) := by
  obtain ⟨ua, uc, rfl⟩ := hu.form
  have HRE := hide h
  have HU := hide hu
  have HL := hide hl
  have HR := hide hr
  have HFL := hide hF
  have hFI : (F.length : Int) ≤ 256 := by omega
  have c1 := h.c1
  have hgr := h.lt
  clear h hu hl hr hF
  go_enter Try.func74, Try.ntmps74
  go_wp2_with fail
  go_loopw [5] (fun ix wr => ∃ i : Nat, ix = .int .i64 (i : Int) ∧ Hid (i ≤ F.length ∧ (∃ n, wr = W.drewN n) ∧ ∀ k : Nat, k < i → F[k]? ≠ some t)) (fun ix _ => lenLeft F.length ix)
  case atStart => exact ⟨0, rfl, Nat.zero_le _, ⟨0, rfl⟩, fun j hj => by omega⟩
  case round =>
    rename World => wr
    obtain ⟨i, rfl, HH⟩ := hrel
    obtain ⟨hi, ⟨n, rfl⟩, hs⟩ := unhide HH
    clear HH
    by_cases hlt : i < F.length
    · have hiI : (i : Int) < (F.length : Int) := by omega
      have hi0 : (0 : Int) ≤ (i : Int) := by omega
      have hi1 : ((i : Int)).toNat = i := by omega
      obtain ⟨r, hFi⟩ : ∃ r, F[i]? = some r := ⟨_, List.getElem?_eq_getElem hlt⟩
      obtain ⟨gf, x, rfl, hgf, -, cx, hx⟩ := (unhide HRE).at1 hFi
      have HSM := hide (fun n => sameNumbers_any (W.drewN n) w.heap.size w.heap.size x _ r t hx (unhide HU) (by have := unhide HR r (List.mem_of_getElem? hFi); omega) (by have := unhide HL; omega))
      obtain ⟨xa, xc, rfl⟩ := hx.form
      have HLT := hide hlt
      by_cases he : r = t
      · have hd : decide (r = t) = true := decide_eq_true he
        rw [hd] at HSM
        have HFI : Hid (F[i]? = some t) := by rw [← he]; exact hFi
        clear hlt hi hs he hFi hx hd
        go_wp2_with fail
        refine (unhide HSM _).mono ?_
        rintro e w2 ⟨rfl, n2, rfl⟩
        clear HSM
        go_wp2_with fail
        go_ret
        exact ⟨i, F, us, _, _, rfl, unhide HFI, (unhide HRE).drewN _, (Fr.refl _ _).drewN _, .inl ⟨rfl, rfl⟩⟩
      · have hd : decide (r = t) = false := decide_eq_false he
        rw [hd] at HSM
        have HS : Hid (∀ k : Nat, k < i + 1 → F[k]? ≠ some t) := fun k hk e => by
          by_cases e2 : k = i
          · subst e2; rw [hFi] at e; exact he (Option.some.inj e)
          · exact hs k (by omega) e
        clear hlt hi hs he hFi hx hd
        go_wp2_with fail
        refine (unhide HSM _).mono ?_
        rintro e w2 ⟨rfl, n2, rfl⟩
        clear HSM
        go_wp2_with fail
        go_roundw
        case rel => exact ⟨i + 1, by go_num, unhide HLT, ⟨n + n2, by first | rfl | simp⟩, unhide HS⟩
        case measure => have := unhide HLT; simp [lenLeft, intOf]; omega
    · have hi2 : i = F.length := by omega
      subst hi2
      have HNO : Hid (∀ k : Nat, F[k]? ≠ some t) := fun k e => hs k (List.getElem?_eq_some_iff.1 e).1 e
      have HXA := hide (((unhide HRE).drewN n).alloc (Obj.cells #[.slice ua t.length uc] 23))
      have HUA : Hid (NR ((W.drewN n).alloc (Obj.cells #[.slice ua t.length uc] 23)) w.heap.size (.slice ua t.length uc) t) := (Fr.ofAlloc _ _).own (unhide HU) (by simp)
      have HWS : Hid (w.heap.size ≤ W.heap.size) := (unhide HRE).le
      have HFR : Hid (Fr [] W ((W.drewN n).alloc (Obj.cells #[.slice ua t.length uc] 23))) := ((Fr.refl _ _).drewN n).alloc _
      have HEQ : Hid (((F ++ [t]).length : Int) - 1 = (F.length : Int)) := by show _ = _; rw [List.length_append]; simp
      clear hlt hi hs
      go_wp2_with (at_builtin; refine appII rfl (.tmp 31) (.tmp 33) rfl w.heap.size _ F.length us rfl (unhide HXA).fo W.heap.size _ rfl rfl (new_cell rfl) (by have := unhide HFL; omega) (by have := unhide HWS; simp; omega) (W.heap.size + 1) (by simp) ?_; intro g5 cap5 w8 ho hgrow hlies hlt5; obtain ⟨y1, z1, hg8, hP, hfr⟩ := (unhide HXA).push1 (unhide HUA) hgrow ho (hlies.elim Or.inl (fun e => Or.inr (by rw [e]; simp))); have HP9 := hide hP; have HF9 := hide hfr; have s1 := hP.c1; clear ho hgrow hlies hP hfr)
      rw [List.length_append] at s1
      go_ret
      exact ⟨F.length, F ++ [t], _, some ⟨g5, 0, none⟩, cap5, rfl, snoc_at F t, unhide HP9, ((unhide HFR).mono (by simp)).and (unhide HF9) (fun x hx => .inl hx), .inr ⟨rfl, rfl, unhide HNO⟩⟩

end Mc
end Go.Proofs.Ytnkdbcicphnmiaa
