/-
  table.sortLetters: the classes of letters.
  The cells of a table; a table in the making.
-/
import Derived.Test.YtobfpgoepaeknaaVk
import Derived.Laws.ResultCell
namespace Go.Proofs.Ytobfpgoepaeknaa
open Go.RowKit
attribute [local go_sem ↓] Go.wp_at_zero Go.wp_at_succ

/-- While the letters are sorted. -/
structure SlI (w wr : World) (cv fv : Value) (cs fs : List Nat) : Prop where
  below : Below w.heap.size w wr
  rc : NRow wr w.heap.size cv cs
  rf : NRow wr w.heap.size fv fs
  dj : Dj cv fv
section sl
variable {w wr w2 : World} {cv fv : Value} {cs fs : List Nat}
theorem SlI.next (h : SlI w wr cv fv cs fs) (k : Below wr.heap.size wr w2) : SlI w w2 cv fv cs fs := ⟨h.below.trans (k.mono h.below.size), h.rc.below k, h.rf.below k, h.dj⟩
theorem SlI.alloc (h : SlI w wr cv fv cs fs) (o : Obj) : SlI w (wr.alloc o) cv fv cs fs := h.next ((Below.refl _ _).alloc (Nat.le_refl _) _)
theorem keep1 {w0 w2 : World} {row : Option Nat} (hgrow : w0.grownBy w2 row) {B e z : Nat} {v : Value} {n : Nat} {xs : List Value} (h : w0.ownsRow B e z v n xs) (hd : ∀ q, v.ownBlock = some q → row = some q → False) : w2.ownsRow B e z v n xs :=
  Fr.own (Fr.ofGrown hgrow) h (fun q hq hm => hd q hq (Option.mem_toList.1 hm))
theorem SlI.firsts (h : SlI w wr cv fv cs fs) (hgrow : wr.grownBy w2 fv.ownBlock) {g cap y : Nat} (ho : w2.ownsRow w.heap.size 3 1 (.slice (some ⟨g, 0, none⟩) (fs.length + 1) cap) (fs.length + 1) (natCells fs ++ [.int .i64 (y : Int)])) (hl : fv.ownBlock = some g ∨ g = wr.heap.size) :
    SlI w w2 cv (.slice (some ⟨g, 0, none⟩) (fs.length + 1) cap) cs (fs ++ [y]) :=
  ⟨h.below.grown hgrow h.below.size (fun k hk => (h.rf.lt k hk).1), keep1 hgrow h.rc h.dj, NRow.of ho, h.dj.lies hl (fun q hq => (h.rc.lt q hq).2)⟩
theorem SlI.classes (h : SlI w wr cv fv cs fs) (hgrow : wr.grownBy w2 cv.ownBlock) {g cap y : Nat} (ho : w2.ownsRow w.heap.size 3 1 (.slice (some ⟨g, 0, none⟩) (cs.length + 1) cap) (cs.length + 1) (natCells cs ++ [.int .i64 (y : Int)])) (hl : cv.ownBlock = some g ∨ g = wr.heap.size) :
    SlI w w2 (.slice (some ⟨g, 0, none⟩) (cs.length + 1) cap) fv (cs ++ [y]) fs :=
  ⟨h.below.grown hgrow h.below.size (fun k hk => (h.rc.lt k hk).1), NRow.of ho, keep1 hgrow h.rf h.dj.symm, (h.dj.symm.lies hl (fun q hq => (h.rf.lt q hq).2)).symm⟩
end sl
theorem SlI.start (w : World) : SlI w ((w.alloc (.cells #[] 3)).alloc (.cells #[] 3)) (.slice (some ⟨w.heap.size, 0, none⟩) 0 0) (.slice (some ⟨w.heap.size + 1, 0, none⟩) 0 0) [] [] := by
  have h1 := World.ownsRow_made (base := w.heap.size) (e := 3) (size := 1) w #[] 0 (by simp) (by simp) rfl
  have h2 := World.ownsRow_made (base := w.heap.size) (e := 3) (size := 1) (w.alloc (.cells #[] 3)) #[] 0 (by simp) (by simp) rfl
  refine ⟨((Below.refl _ _).alloc (Nat.le_refl _) _).alloc (by simp) _, World.ownsRow.alloc (by simpa [natCells, NRow] using h1) _, by simpa [natCells, NRow] using h2, fun q a b => ?_⟩
  simp [Value.ownBlock] at a b
  omega

set_option maxRecDepth 20000 in
set_option maxHeartbeats 2000000 in
theorem sortLetters_any (w : World) (g gf M : Nat) (F : Nat → Nat) (grs : List Bool) (nxs ks hs : List Nat) (h : GraphB w g M F grs nxs) (hf : FoldB w gf ks hs) (sm : Small M grs nxs) (sf : SmallF ks hs) :
    Calls Try.prog 72 #[.pointer (some ⟨g, 0, none⟩), .pointer (some ⟨gf, 0, none⟩)] w fun e w' => ∃ cv fv cs fs, e = .returned (.tuple #[cv, fv]) ∧ Below w.heap.size w w' ∧ NRow w' w.heap.size cv cs ∧ NRow w' w.heap.size fv fs ∧ SplitPost (ElT hs.length (nfT ks hs nxs M)) M cs fs := by
  have HLA : Hid (∀ W, Below w.heap.size w W → ∀ a b : Nat, a ≤ 256 → b ≤ 256 → Calls Try.prog 91 #[.pointer (some ⟨g, 0, none⟩), .pointer (some ⟨gf, 0, none⟩), .int .i64 (a : Int), .int .i64 (b : Int)] W fun e w' => (∃ y, e = .returned (.bool y) ∧ (y = true ↔ ElT hs.length (nfT ks hs nxs M) a b)) ∧ Below W.heap.size W w') :=
    fun W hW a b ha hb => leadAlike_any W g gf M F grs nxs ks hs (h.below hW) (hf.below hW) sm sf a b ha hb
  have HLE : Hid (∀ W, Below w.heap.size w W → Calls Try.prog 90 #[.pointer (some ⟨g, 0, none⟩)] W fun e w' => e = .returned (.int .i64 (M : Int)) ∧ w' = W) := fun W hW => Letters_any W g M F grs nxs (h.below hW)
  have HEQ := hide (ElT_eqv hs.length (nfT ks hs nxs M))
  have HM := hide sm.m
  have hMI : (M : Int) ≤ 256 := by have := sm.m; omega
  generalize ElT hs.length (nfT ks hs nxs M) = E at *
  have H0 := hide (SlI.start w)
  obtain ⟨i, i0, i1, i2, i3⟩ := info_of info3
  have HI := hide (And.intro i0 (And.intro i1 (And.intro i2 i3)))
  clear i0 i1 i2 i3 h hf sm sf
  go_enter Try.func72, Try.ntmps72
  go_wp2_with fail
  go_loopw [6, 7, 8] (fun cv fv lx wr => ∃ (l : Nat) (ca cc fa fc : _) (cs fs : List Nat), cv = .slice ca cs.length cc ∧ fv = .slice fa fs.length fc ∧ lx = .int .i64 (l : Int) ∧ Hid (l ≤ M ∧ SlI w wr (.slice ca cs.length cc) (.slice fa fs.length fc) cs fs ∧ cs.length = l ∧ fs.length ≤ 24 ∧ Sorted l E fs (fun i => cs.getD i 0))) (fun _ _ lx _ => M - (intOf lx).toNat)
  case atStart => exact ⟨0, _, _, _, _, [], [], rfl, rfl, rfl, Nat.zero_le _, unhide H0, rfl, by simp, Sorted.nil _ _⟩
  case round =>
    rename World => wr
    obtain ⟨l, ca, cc, fa, fc, cs, fs, rfl, rfl, rfl, HH⟩ := hrel
    obtain ⟨hl, hI, hcl, hfl, hso⟩ := unhide HH
    have HI1 := hide hI
    have HCL := hide hcl
    have HFL := hide hfl
    have HSO := hide hso
    have HLL := hide (unhide HLE wr hI.below)
    have hfI : (fs.length : Int) ≤ 24 := by omega
    by_cases hlt : l < M
    · have hltI : (l : Int) < (M : Int) := by omega
      have HLT := hide hlt
      clear H0 HH hI hcl hfl hso hl hlt
      go_wp2_with fail
      refine (unhide HLL).mono ?_
      rintro e w1 ⟨rfl, hww⟩
      obtain rfl : wr = w1 := hww.symm
      clear hww HLL
      go_wp2_with fail
      go_loopw [9] (fun kx wx => ∃ k : Nat, kx = .int .i64 (k : Int) ∧ k ≤ fs.length ∧ Hid ((∀ j, j < k → ¬ E l (fs.getD j 0)) ∧ SlI w wx (.slice ca cs.length cc) (.slice fa fs.length fc) cs fs)) (fun kx _ => fs.length - (intOf kx).toNat)
      case atStart => exact ⟨0, rfl, Nat.zero_le _, fun j hj => absurd hj (Nat.not_lt_zero _), unhide HI1⟩
      case round =>
        clear HI1
        rename World => wx
        obtain ⟨k, rfl, hk, HKK⟩ := hrel
        obtain ⟨hno, hI⟩ := unhide HKK
        have HNO := hide hno
        have HI1 := hide hI
        by_cases hkl : k < fs.length
        · obtain ⟨gh, ch, he, hx⟩ := hI.rf.at hkl
          simp only [Value.slice.injEq, true_and] at he
          obtain ⟨rfl, rfl⟩ := he
          have hkI2 : (k : Int) < (fs.length : Int) := by omega
          have HKL2 := hide hkl
          have hxb : fs.getD k 0 ≤ 256 := by
            have := ((unhide HSO).head k hkl).1
            have := unhide HM
            have := unhide HLT
            omega
          have HC := hide (unhide HLA wx hI.below l _ (by have := unhide HM; have := unhide HLT; omega) hxb)
          have HNO2 : Hid (¬ E l (fs.getD k 0) → ∀ j, j < k + 1 → ¬ E l (fs.getD j 0)) := fun hne j hj => by
            by_cases e : j = k
            · subst e; exact hne
            · exact hno j (by omega)
          have HYES : Hid (E l (fs.getD k 0) → Sorted (l + 1) E fs (fun i => (cs ++ [k]).getD i 0)) := fun hE => (unhide HSO).old (unhide HEQ) hkl hE (fun a ha => getD_snoc_old (by rw [unhide HCL]; exact ha)) (by rw [← unhide HCL]; exact getD_snoc_new _ _)
          generalize fs.getD k 0 = x at *
          clear hkl hxb hno hI HKK
          go_wp2_with fail
          refine (unhide HC).mono ?_
          rintro e w1 ⟨⟨y, rfl, hy⟩, hww⟩
          have HI2 := hide ((unhide HI1).next hww)
          clear hww
          cases y
          · have HN : Hid (¬ E l x) := fun hE => by have := hy.2 hE; cases this
            clear hy
            go_wp2_with fail
            go_roundw
            case rel => exact ⟨k + 1, by go_num, unhide HKL2, unhide HNO2 (unhide HN), unhide HI2⟩
            case measure => have := unhide HKL2; simp [intOf]; omega
          · have HY := hide (hy.1 rfl)
            clear hy
            have hkne : ¬ (k : Int) = (fs.length : Int) := by omega
            have HOK := hide (World.ownsRow.alloc (unhide HI2).rc (Obj.cells #[.int .i64 (k : Int)] 3))
            have HSK := hide ((unhide HI2).alloc (Obj.cells #[.int .i64 (k : Int)] 3))
            have HSZ : Hid (w.heap.size ≤ w1.heap.size) := (unhide HI2).below.size
            have HKN : Hid (cs.length ≤ 256) := by have := unhide HCL; have := unhide HLT; have := unhide HM; show _ ≤ _; omega
            go_wp2_with (at_builtin; refine wpList_append_lies _ rfl (.tmp 48) (.tmp 50) 53 rfl w.heap.size 3 i (.int .i64 0) 1 8 Try.underlying53 (unhide HI).1 (unhide HI).2.1 (unhide HI).2.2.1 (unhide HI).2.2.2 rfl (by decide) _ _ _ rfl (unhide HOK) ⟨w1.heap.size, 0, none⟩ 1 1 [.int .i64 (k : Int)] rfl rfl (cell_one_new _ _ _) (by intro u hu; simp at hu; subst hu; rfl) (by decide) (by have := unhide HKN; unfold maxLen; omega) (by have := unhide HKN; omega) (by have := unhide HSZ; simp; omega) (w1.heap.size + 1) (by simp) ?_; intro g5 cap5 w8 ho hgrow hlies hlt5; have HN := hide (SlI.classes (unhide HSK) hgrow ho (hlies.elim Or.inl (fun e => Or.inr (by rw [e]; simp)))); clear ho hgrow hlies)
            go_roundw
            case rel => exact ⟨l + 1, some ⟨g5, 0, none⟩, cap5, _, _, cs ++ [k], fs, by simp, rfl, by go_num, unhide HLT, by simpa using unhide HN, by simp [unhide HCL], unhide HFL, unhide HYES (unhide HY)⟩
            case measure => have := unhide HLT; simp [intOf]; omega
        · have hk2 : k = fs.length := by omega
          subst hk2
          have HOH := hide (World.ownsRow.alloc hI.rf (Obj.cells #[.int .i64 (l : Int)] 3))
          have HSH := hide (hI.alloc (Obj.cells #[.int .i64 (l : Int)] 3))
          have HSZ : Hid (w.heap.size ≤ wx.heap.size) := hI.below.size
          have HNEW : Hid (Sorted (l + 1) E (fs ++ [l]) (fun i => (cs ++ [fs.length]).getD i 0)) := (unhide HSO).new (unhide HEQ) hno (fun a ha => getD_snoc_old (by rw [unhide HCL]; exact ha)) (by rw [← unhide HCL]; exact getD_snoc_new _ _)
          have HKN : Hid (cs.length ≤ 256) := by have := unhide HCL; have := unhide HLT; have := unhide HM; show _ ≤ _; omega
          clear hno hI HKK
          go_upto_region 11 with (at_builtin; refine wpList_append_lies _ rfl (.tmp 39) (.tmp 41) 53 rfl w.heap.size 3 i (.int .i64 0) 1 8 Try.underlying53 (unhide HI).1 (unhide HI).2.1 (unhide HI).2.2.1 (unhide HI).2.2.2 rfl (by decide) _ _ _ rfl (unhide HOH) ⟨wx.heap.size, 0, none⟩ 1 1 [.int .i64 (l : Int)] rfl rfl (cell_one_new _ _ _) (by intro u hu; simp at hu; subst hu; rfl) (by decide) (by have := unhide HFL; unfold maxLen; omega) (by have := unhide HFL; omega) (by have := unhide HSZ; simp; omega) (wx.heap.size + 1) (by simp) ?_; intro g5 cap5 W ho hgrow hlies hlt5; have HN := hide (SlI.firsts (unhide HSH) hgrow ho (hlies.elim Or.inl (fun e => Or.inr (by rw [e]; simp)))); clear ho hgrow hlies)
          by_cases h24 : fs.length = 24
          · have h25 : (24 : Int) < (fs.length : Int) + 1 := by omega
            have H24 := hide h24
            clear h24
            go_wp2_with fail
            go_ret2
            exact ⟨_, _, _, _, rfl, (unhide HN).below, (unhide HN).rc, (unhide HN).rf, .inl ⟨by simp [unhide H24], _, _, unhide HLT, unhide HNEW⟩⟩
          · have h25 : (fs.length : Int) + 1 ≤ 24 := by omega
            have H24 : Hid (fs.length + 1 ≤ 24) := by show _ ≤ _; omega
            have HOK := hide (World.ownsRow.alloc (unhide HN).rc (Obj.cells #[.int .i64 ((fs.length : Nat) : Int)] 3))
            have HSK := hide ((unhide HN).alloc (Obj.cells #[.int .i64 ((fs.length : Nat) : Int)] 3))
            have HSZ2 : Hid (w.heap.size ≤ W.heap.size) := (unhide HN).below.size
            clear h24 HN
            go_wp2_with (at_builtin; refine wpList_append_lies _ rfl (.tmp 48) (.tmp 50) 53 rfl w.heap.size 3 i (.int .i64 0) 1 8 Try.underlying53 (unhide HI).1 (unhide HI).2.1 (unhide HI).2.2.1 (unhide HI).2.2.2 rfl (by decide) _ _ _ rfl (unhide HOK) ⟨W.heap.size, 0, none⟩ 1 1 [.int .i64 ((fs.length : Nat) : Int)] rfl rfl (cell_one_new _ _ _) (by intro u hu; simp at hu; subst hu; rfl) (by decide) (by have := unhide HKN; unfold maxLen; omega) (by have := unhide HKN; omega) (by have := unhide HSZ2; simp; omega) (W.heap.size + 1) (by simp) ?_; intro g6 cap6 w9 ho hgrow hlies hlt6; have HN := hide (SlI.classes (unhide HSK) hgrow ho (hlies.elim Or.inl (fun e => Or.inr (by rw [e]; simp)))); clear ho hgrow hlies)
            go_roundw
            case rel => exact ⟨l + 1, some ⟨g6, 0, none⟩, cap6, some ⟨g5, 0, none⟩, cap5, cs ++ [fs.length], fs ++ [l], by simp, by simp, by go_num, unhide HLT, by simpa using unhide HN, by simp [unhide HCL], by rw [List.length_append]; exact unhide H24, unhide HNEW⟩
            case measure => have := unhide HLT; simp [intOf]; omega
    · have hl2 : l = M := by omega
      subst hl2
      have HR : Hid (SplitPost E l cs fs) := .inr ⟨hfl, hcl, hso⟩
      clear H0 HH hI hcl hfl hso hl hlt
      go_wp2_with fail
      refine (unhide HLL).mono ?_
      rintro e w1 ⟨rfl, hww⟩
      obtain rfl : wr = w1 := hww.symm
      clear hww HLL
      go_wp2_with fail
      go_ret2
      exact ⟨_, _, _, _, rfl, (unhide HI1).below, (unhide HI1).rc, (unhide HI1).rf, unhide HR⟩

end Go.Proofs.Ytobfpgoepaeknaa
namespace Go.Proofs.Ytobfpgoepaeknaa
open Go.RowKit

theorem results_cell_row_tmp {P : Program} {fn : Func} {p u : Tmp} {ty : TypeId} (h : fn.results = #[.cell p ty, .tmp u]) (tmps : Array Value) (w : World) (g : Nat) (t : TypeId) (cs : Array Value) (fr : Nat × Nat) (d : TypeDesc)
    (hp : tmps.getD p undef = .pointer (some ⟨g, 0, none⟩)) (hg : w.heap[g]? = some (.cells cs t fr)) (hu : P.underlying ty = some d) (hd : (match d with | .struct _ | .array _ _ => true | _ => false) = true) (hi : (P.info? ty).map (·.size) = some cs.size)
    (x : Value) (hx : tmps.getD u undef = x) : (results fn tmps).run P w = .ok (.tuple #[.agg cs, x]) w := by
  rw [results_cell_tmp h, hp, hx]
  simp [asAddr, run_loadVar_row w g t ty cs fr d hg hu hd hi]

theorem wrapB (b : Nat) (h : b < 256) : IntKind.u8.wrap (b : Int) = (b : Int) := by
  rw [IntKind.wrap_u8]; omega

/-- The cells of a table. -/
def tabA (cl : Nat → Nat) (C : Nat) (gv nv : Value) : Array Value := rowN [] cl [.int .i64 (C : Int), gv, nv]
def zcT : Array Value := tabA (fun _ => 0) 0 (.slice none 0 0) (.slice none 0 0)
theorem tabA_size (cl : Nat → Nat) (C : Nat) (gv nv : Value) : (tabA cl C gv nv).size = 259 := rowN_size _ _ _
theorem zcT_size : zcT.size = 259 := tabA_size _ _ _ _
theorem zcT_ne : zcT ≠ #[] := rowN_ne _ _ _
theorem zvT (w : World) : (zeroValue 68).run Try.prog w = .ok (.agg zcT) w := by kernel_rfl
theorem tabA_b (cl : Nat → Nat) (C : Nat) (gv nv : Value) {b : Nat} (h : b < 256) : (tabA cl C gv nv)[b]? = some (.int .i64 ((cl b : Nat) : Int)) := by
  have := rowN_mid [] [.int .i64 (C : Int), gv, nv] cl h
  rwa [List.length_nil, Nat.zero_add] at this
theorem tabA_256 (cl : Nat → Nat) (C : Nat) (gv nv : Value) : (tabA cl C gv nv)[256]? = some (.int .i64 (C : Int)) := rowN_post [] _ _ 0
theorem tabA_257 (cl : Nat → Nat) (C : Nat) (gv nv : Value) : (tabA cl C gv nv)[257]? = some gv := rowN_post [] _ _ 1
theorem tabA_258 (cl : Nat → Nat) (C : Nat) (gv nv : Value) : (tabA cl C gv nv)[258]? = some nv := rowN_post [] _ _ 2
theorem tabA_set (cl : Nat → Nat) (C : Nat) (gv nv : Value) {b : Nat} (h : b < 256) (x : Nat) : (tabA cl C gv nv).setIfInBounds b (.int .i64 ((x : Nat) : Int)) = tabA (fun c => if c = b then x else cl c) C gv nv := by
  have := rowN_set [] [.int .i64 (C : Int), gv, nv] cl h x
  rwa [List.length_nil, Nat.zero_add] at this
theorem tabA_set257 (cl : Nat → Nat) (C : Nat) (gv nv v : Value) : (tabA cl C gv nv).setIfInBounds 257 v = tabA cl C v nv := rowN_set_post [] _ _ 1 v
theorem tabA_set258 (cl : Nat → Nat) (C : Nat) (gv nv v : Value) : (tabA cl C gv nv).setIfInBounds 258 v = tabA cl C gv v := rowN_set_post [] _ _ 2 v
theorem tabA_build (C : Nat) : zcT.setIfInBounds 256 (.int .i64 (C : Int)) = tabA (fun _ => 0) C (.slice none 0 0) (.slice none 0 0) := rowN_set_post [] _ _ 0 _
theorem tabA_one (a b : Option Addr) (n1 n2 c1 c2 : Nat) (cl : Nat → Nat) (C : Nat) : (tabA cl C (.slice a n1 c1) (.slice b n2 c2)).all (·.oneCell') = true := rowN_one cl rfl rfl
theorem tabA_congr {cl cl' : Nat → Nat} (h : ∀ b, b < 256 → cl b = cl' b) (C : Nat) (gv nv : Value) : tabA cl C gv nv = tabA cl' C gv nv := rowN_congr h

/-- A table in the making. -/
structure OgI (w3 wr : World) (cl : Nat → Nat) (C : Nat) (gv nv : Value) (bs : List Bool) (ns : List Nat) : Prop where
  below : Below w3.heap.size w3 wr
  bT : wr.heap[w3.heap.size]? = some (.cells (tabA cl C gv nv) 68 (0, 0))
  rg : BRow wr w3.heap.size gv bs
  rn : NRow wr w3.heap.size nv ns
section og
variable {w3 wr w2 : World} {cl : Nat → Nat} {C : Nat} {gv nv : Value} {bs : List Bool} {ns : List Nat}
theorem OgI.lt (h : OgI w3 wr cl C gv nv bs ns) : w3.heap.size < wr.heap.size := (Array.getElem?_eq_some_iff.1 h.bT).1
theorem OgI.start (w3 : World) (C : Nat) : OgI w3 (w3.alloc (.cells (tabA (fun _ => 0) C (.slice none 0 0) (.slice none 0 0)) 68)) (fun _ => 0) C (.slice none 0 0) (.slice none 0 0) [] [] :=
  ⟨(Below.refl _ _).alloc (Nat.le_refl _) _, heap_alloc_new _ _, World.ownsRow_nil _ _ _ _, World.ownsRow_nil _ _ _ _⟩
theorem OgI.next (h : OgI w3 wr cl C gv nv bs ns) (k : Below wr.heap.size wr w2) : OgI w3 w2 cl C gv nv bs ns :=
  ⟨h.below.trans (k.mono h.below.size), (k.block _ h.lt).trans h.bT, h.rg.below k, h.rn.below k⟩
theorem OgI.drew (h : OgI w3 wr cl C gv nv bs ns) : OgI w3 wr.drew cl C gv nv bs ns := ⟨h.below.drew, h.bT, h.rg, h.rn⟩
theorem OgI.alloc (h : OgI w3 wr cl C gv nv bs ns) (o : Obj) : OgI w3 (wr.alloc o) cl C gv nv bs ns := h.next ((Below.refl _ _).alloc (Nat.le_refl _) _)
theorem OgI.congr (h : OgI w3 wr cl C gv nv bs ns) {cl' : Nat → Nat} (he : ∀ b, b < 256 → cl b = cl' b) : OgI w3 wr cl' C gv nv bs ns := ⟨h.below, by rw [← tabA_congr he]; exact h.bT, h.rg, h.rn⟩
theorem OgI.cls (h : OgI w3 wr cl C gv nv bs ns) {b : Nat} (hb : b < 256) (x : Nat) : OgI w3 (wr.setCell ⟨w3.heap.size, b, none⟩ (.int .i64 ((x : Nat) : Int))) (fun c => if c = b then x else cl c) C gv nv bs ns :=
  ⟨h.below.setCell (by simp) _, by rw [heap_setCell_same _ _ _ _ _ _ h.bT, tabA_set _ _ _ _ hb], own_set_any h.rg h.bT (by decide) _ _, own_set_any h.rn h.bT (by decide) _ _⟩
theorem OgI.grant (h : OgI w3 wr cl C gv nv bs ns) (hgrow : wr.grownBy w2 gv.ownBlock) {v' : Value} {y : Bool} (ho : w2.ownsRow w3.heap.size 4 1 v' (bs.length + 1) (boolCells bs ++ [.bool y])) :
    OgI w3 (w2.setCell ⟨w3.heap.size, 257, none⟩ v') cl C v' nv (bs ++ [y]) ns := by
  have e2 := own_off h.rg h.bT (by decide)
  have g2 := grown_at hgrow h.bT (fun e => e2 _ e rfl)
  exact ⟨(h.below.grown hgrow h.below.size (fun k hk => (h.rg.lt k hk).1)).setCell (by simp) _, by rw [heap_setCell_same _ _ _ _ _ _ g2, tabA_set257], own_set_any (BRow.of ho) g2 (by decide) _ _, keep2 hgrow g2 h.rn (own_own h.rn h.rg (by decide)) (by decide)⟩
theorem OgI.edge (h : OgI w3 wr cl C gv nv bs ns) (hgrow : wr.grownBy w2 nv.ownBlock) {v' : Value} {y : Nat} (ho : w2.ownsRow w3.heap.size 3 1 v' (ns.length + 1) (natCells ns ++ [.int .i64 (y : Int)])) :
    OgI w3 (w2.setCell ⟨w3.heap.size, 258, none⟩ v') cl C gv v' bs (ns ++ [y]) := by
  have e2 := own_off h.rn h.bT (by decide)
  have g2 := grown_at hgrow h.bT (fun e => e2 _ e rfl)
  exact ⟨(h.below.grown hgrow h.below.size (fun k hk => (h.rn.lt k hk).1)).setCell (by simp) _, by rw [heap_setCell_same _ _ _ _ _ _ g2, tabA_set258], keep2 hgrow g2 h.rg (own_own h.rg h.rn (by decide)) (by decide), own_set_any (NRow.of ho) g2 (by decide) _ _⟩
end og

/-- A table, as a value. -/
def TabV (w : World) (B : Nat) (v : Value) (L : List Nat → Prop) : Prop := ∃ S C nx gr cl nc gv nv, v = .agg (tabA cl C gv nv) ∧ BRow w B gv ((List.range S).map gr) ∧ NRow w B nv ((List.range S).flatMap (fun i => (List.range C).map (nc i))) ∧ TabOf L S C nx gr cl nc
theorem flat_len (C : Nat) (nc : Nat → Nat → Nat) : ∀ k, ((List.range k).flatMap (fun i => (List.range C).map (nc i))).length = k * C
  | 0 => by simp
  | k + 1 => by rw [List.range_succ, List.flatMap_append, List.length_append, flat_len C nc k]; simp [Nat.add_mul]
theorem flat_snoc (C : Nat) (nc : Nat → Nat → Nat) (k : Nat) : (List.range (k + 1)).flatMap (fun i => (List.range C).map (nc i)) = (List.range k).flatMap (fun i => (List.range C).map (nc i)) ++ (List.range C).map (nc k) := by
  rw [List.range_succ, List.flatMap_append]; simp
theorem map_snoc {α : Type} (f : Nat → α) (k : Nat) : (List.range (k + 1)).map f = (List.range k).map f ++ [f k] := by rw [List.range_succ, List.map_append]; rfl

end Go.Proofs.Ytobfpgoepaeknaa
