/-
  veilref.Differ.
-/
import Derived.Test.YtnkdbcicphnmiaaT23
namespace Go.Proofs.Ytnkdbcicphnmiaa
namespace Mc
open Go.RowKit

/-- Strings are appended to a row of strings, in a region that draws its order. -/
theorem appSs {ops : Array Oper} {o : Oper} {a : Act} {W : World} {K : Act → World → Prop} {Q : Exit → Act → World → Prop} {E : Prop} (hgd : o.guard = none) (s x : Operand)
    (ho : o.op = .call { callee := .builtin .append, args := #[s, x], argTypes := #[73, 73] }) (B : Nat) (v : Value) (xs : List ByteArray) (hs : a.eval s = v) (hown : SR W B v xs) (g0 m c : Nat) (ys : List ByteArray)
    (hx : a.eval x = .slice (some ⟨g0, 0, none⟩) m c) (hl : ys.length = m) (hc : ∀ i y, ys[i]? = some y → W.cell? ⟨g0, i, none⟩ = some (.string y)) (hm : 0 < m) (hlen : xs.length + m ≤ 1000) (hB : B ≤ W.heap.size) (H : Nat) (hH : W.heap.size = H)
    (h : ∀ g cap w', w'.ownsRow B 9 1 (.slice (some ⟨g, 0, none⟩) (xs.length + m) cap) (xs.length + m) (scs xs ++ scs ys) → W.grownBy w' v.ownBlock → (v.ownBlock = some g ∨ g = H) → g < w'.heap.size → K (a.put o.dst (.slice (some ⟨g, 0, none⟩) (xs.length + m) cap)) w') :
    if Region.wanted o (yielded ops a.tmps) = true then Oper.wp Try.prog o a W K Q else E := by
  obtain ⟨i, i0, i1, i2, i3⟩ := info_of infoSt
  refine step_append_lies W hgd s x 73 ho B 9 i (.string ⟨#[]⟩) 1 16 Try.underlying73 i0 i1 i2 i3 rfl (by decide) v xs.length (scs xs) hs hown ⟨g0, 0, none⟩ m c (scs ys) hx (by unfold scs; rw [List.length_map, hl, Nat.mul_one]) (fun j u hu => ?_) (fun u hu => ?_) hm (by unfold maxLen; omega) (by omega) hB H hH h
  · unfold scs at hu
    rw [List.getElem?_map] at hu
    cases hy : ys[j]? with
    | none => rw [hy] at hu; cases hu
    | some y =>
      rw [hy] at hu
      cases hu
      rw [add0]
      exact hc j y hy
  · obtain ⟨y, -, rfl⟩ := List.mem_map.1 hu
    rfl
/-- The search before it begins: its tables. -/
structure TaI (w : World) (gr : Nat) (wr : World) (ta : Option Addr) (tc : Nat) (ss : List ByteArray) : Prop where
  fr : Fr [gr] w wr
  hg : gr < w.heap.size
  im : wr.heap[gr]? = some (.cells #[.slice ta ss.length tc, .slice none 0 0, .slice none 0 0] 90 (0, 0))
  row : SR wr w.heap.size (.slice ta ss.length tc) ss
section
variable {w wr w2 : World} {gr : Nat} {ta : Option Addr} {tc : Nat} {ss : List ByteArray}
theorem TaI.start (h : w.heap[gr]? = some (.cells #[.slice none 0 0, .slice none 0 0, .slice none 0 0] 90 (0, 0))) : TaI w gr w none 0 [] := ⟨Fr.refl _ _, (Array.getElem?_eq_some_iff.1 h).1, h, World.ownsRow_nil _ _ _ _⟩
theorem TaI.drew (h : TaI w gr wr ta tc ss) : TaI w gr wr.drew ta tc ss := ⟨h.fr.drew, h.hg, h.im, h.row⟩
theorem TaI.push (h : TaI w gr wr ta tc ss) {g cap m : Nat} {ys : List ByteArray} (hm : ys.length = m) (hgrow : wr.grownBy w2 (.slice ta ss.length tc : Value).ownBlock) (ho : w2.ownsRow w.heap.size 9 1 (.slice (some ⟨g, 0, none⟩) (ss.length + m) cap) (ss.length + m) (scs ss ++ scs ys)) :
    w2.cell? ⟨gr, 0, none⟩ = some (.slice ta ss.length tc) ∧ w2.frozen? ⟨gr, 0, none⟩ = false ∧ gr < w2.heap.size ∧ TaI w gr (w2.setCell ⟨gr, 0, none⟩ (.slice (some ⟨g, 0, none⟩) (ss.length + m) cap)) (some ⟨g, 0, none⟩) cap (ss ++ ys) := by
  have e2 := own_off h.row h.im (by decide)
  have g2 : w2.heap[gr]? = _ := (Fr.ofGrown hgrow).at h.im (fun hm => e2 _ (Option.mem_toList.1 hm) rfl)
  have hlen : (ss ++ ys).length = ss.length + m := by rw [List.length_append, hm]
  refine ⟨by rw [cell_of_row _ _ _ _ _ _ g2]; rfl, frozen_of_row _ _ _ _ _ g2, (Array.getElem?_eq_some_iff.1 g2).1, (h.fr.grown hgrow (fun k hk => .inr (World.ownsRow.lt h.row k hk).1)).set (.inl (by simp)) _ _, h.hg, by rw [heap_setCell_same _ _ _ _ _ _ g2, hlen]; rfl, ?_⟩
  have : SR w2 w.heap.size (.slice (some ⟨g, 0, none⟩) (ss ++ ys).length cap) (ss ++ ys) := by unfold SR; rw [hlen]; unfold scs; rw [List.map_append]; exact ho
  exact (Fr.ofSet _ _ _ _).own this (fun q hq => by simpa using own_off this g2 (by decide) q hq)
theorem TaI.c0 (h : TaI w gr wr ta tc ss) : wr.cell? ⟨gr, 0, none⟩ = some (.slice ta ss.length tc) := by rw [cell_of_row _ _ _ _ _ _ h.im]; rfl
theorem TaI.lt (h : TaI w gr wr ta tc ss) : gr < wr.heap.size := (Array.getElem?_eq_some_iff.1 h.im).1
theorem TaI.at {gt : Nat} (h : TaI w gr wr (some ⟨gt, 0, none⟩) tc ss) {i : Nat} {s : ByteArray} (hi : ss[i]? = some s) : wr.cell? ⟨gt, i, none⟩ = some (.string s) := by
  have := World.ownsRow.cells h.row (g := gt) rfl i (.string s) (by unfold scs; rw [List.getElem?_map, hi]; rfl)
  rwa [add0] at this
end
theorem rmapT_at {m i : Nat} {tb : Nat → ByteArray} {y : ByteArray} (h : ((List.range m).map tb)[i]? = some y) : i < m ∧ tb i = y := by
  have hl := (List.getElem?_eq_some_iff.1 h).1
  rw [List.length_map, List.length_range] at hl
  rw [List.getElem?_map, List.getElem?_range hl] at h
  exact ⟨hl, Option.some.inj h⟩
theorem joinB_at {m m' i : Nat} {tb tb' : Nat → ByteArray} (hi : i < m + m') : ((List.range m).map tb ++ (List.range m').map tb')[i]? = some (if i < m then tb i else tb' (i - m)) := by
  by_cases h : i < m
  · rw [if_pos h, List.getElem?_append_left (by simpa using h), List.getElem?_map, List.getElem?_range h]; rfl
  · rw [if_neg h, List.getElem?_append_right (by simpa using Nat.le_of_not_lt h), List.length_map, List.length_range, List.getElem?_map, List.getElem?_range (by omega)]; rfl
/-- What the document's Differ answers. -/
def RDiA (x y : ByteArray) (e : Ending) : Prop :=
  (ImOk x ∧ ImOk y ∧ WitA 256 (fun v => truX x v != truX y v) (Many (stT (bt x 3 + bt y 3) (joinT (bt x 3) (imT x) (imT y)))) e) ∨ (¬ (ImOk x ∧ ImOk y) ∧ e = .returned (.tuple #[.string ⟨#[]⟩, .bool false, .int .i64 7]))
/-- An image of the document, in memory. -/
structure DiB (w : World) (gi : Nat) (N : Nat) (f : ByteArray) (g m tc : Nat) (tb : Nat → ByteArray) : Prop where
  im : w.heap[gi]? = some (.cells #[.int .i64 (N : Int), .string f, .slice (some ⟨g, 0, none⟩) m tc] 75 (0, 0))
  tbs : ∀ i, i < m → w.cell? ⟨g, i, none⟩ = some (.string (tb i))
section
variable {w w' : World} {gi N g m tc : Nat} {f : ByteArray} {tb : Nat → ByteArray}
theorem DiB.fr (h : DiB w gi N f g m tc tb) {S : List Nat} (hf : Fr S w w') (h1 : gi ∉ S) (h2 : g ∉ S) : DiB w' gi N f g m tc tb := ⟨hf.at h.im h1, fun i hi => hf.cell (h.tbs i hi) h2⟩
theorem DiB.next (h : DiB w gi N f g m tc tb) (hb : Below w.heap.size w w') : DiB w' gi N f g m tc tb := h.fr (Fr.ofBelow hb) (by simp) (by simp)
theorem DiB.c1 (h : DiB w gi N f g m tc tb) : w.cell? ⟨gi, 1, none⟩ = some (.string f) := by rw [cell_of_row _ _ _ _ _ _ h.im]; rfl
theorem DiB.c2 (h : DiB w gi N f g m tc tb) : w.cell? ⟨gi, 2, none⟩ = some (.slice (some ⟨g, 0, none⟩) m tc) := by rw [cell_of_row _ _ _ _ _ _ h.im]; rfl
theorem DiB.lt (h : DiB w gi N f g m tc tb) : gi < w.heap.size := (Array.getElem?_eq_some_iff.1 h.im).1
theorem DiB.cells (h : DiB w gi N f g m tc tb) : ∀ i y, ((List.range m).map tb)[i]? = some y → w.cell? ⟨g, i, none⟩ = some (.string y) := fun i y hy => by
  obtain ⟨hi, rfl⟩ := rmapT_at hy
  exact h.tbs i hi
end
section
attribute [local go_sem ↓] Go.wp_at_zero Go.wp_at_succ
set_option maxRecDepth 20000 in
set_option maxHeartbeats 4000000 in
/-- From the boxed search on. -/
theorem RDiffer_any (w : World) (x y : ByteArray) (hx : x.size ≤ 9223372036854775807) (hy : y.size ≤ 9223372036854775807) :
    Calls Try.prog 19 #[.string x, .string y] w fun e w' => Below w.heap.size w w' ∧ RDiA x y e := by
  have HRX := hide (VRead_any w x hx)
  have HRY := hide (fun W => VRead_any W y hy)
  clear hx hy
  go_enter Try.func19, Try.ntmps19
  go_wp2_with fail
  refine (unhide HRX).mono ?_
  rintro e w1 ⟨hb1, h⟩
  clear HRX
  rcases h with ⟨hok, g, tc, hg1, hg2, rfl, hct⟩ | ⟨hno, N, f, ta, n, tc, rfl⟩
  · have HOK := hide hok
    have HD1 : Hid (DiB (w1.alloc (.cells #[.int .i64 ((bt x 2 : Nat) : Int), .string (imF x), .slice (some ⟨g, 0, none⟩) (bt x 3) tc] 75)) w1.heap.size (bt x 2) (imF x) g (bt x 3) tc (fun i => tblX x (tpos x (5 + bt x 4) i))) := ⟨heap_alloc_new _ _, fun i hi => (Fr.ofAlloc w1 _).cell (hct i hi) (by simp)⟩
    have HB2 : Hid (Below w.heap.size w (w1.alloc (.cells #[.int .i64 ((bt x 2 : Nat) : Int), .string (imF x), .slice (some ⟨g, 0, none⟩) (bt x 3) tc] 75))) := hb1.alloc hb1.size _
    have HG : Hid (g < w1.heap.size) := hg2
    clear hb1 hok hct hg1 hg2
    go_wp2_with fail
    generalize w1.alloc (.cells #[.int .i64 ((bt x 2 : Nat) : Int), .string (imF x), .slice (some ⟨g, 0, none⟩) (bt x 3) tc] 75) = w2 at *
    have HGA := hide (unhide HD1).lt
    have HGL : Hid (g < w2.heap.size) := by have := unhide HG; have := unhide HGA; show _ < _; omega
    generalize w1.heap.size = ga at *
    refine (unhide HRY _).mono ?_
    rintro e w3 ⟨hb3, h⟩
    clear HRY
    have HB3 := hide (bel_up4 (unhide HB2) hb3)
    rcases h with ⟨hok', g', tc', hg1', hg2', rfl, hct'⟩ | ⟨hno, N, f, ta, n, tc', rfl⟩
    · have HOK' := hide hok'
      have HD3 := hide ((unhide HD1).next hb3)
      have HG3 : Hid (g < w3.heap.size) := by have := unhide HGL; have := hb3.size; show _ < _; omega
      have HBB := hide (below2 w3 (.cells #[.int .i64 ((bt y 2 : Nat) : Int), .string (imF y), .slice (some ⟨g', 0, none⟩) (bt y 3) tc'] 75) (.cells #[.slice none 0 0, .slice none 0 0, .slice none 0 0] 90))
      have HDX := hide ((unhide HD3).next (unhide HBB))
      have HDY : Hid (DiB ((w3.alloc (.cells #[.int .i64 ((bt y 2 : Nat) : Int), .string (imF y), .slice (some ⟨g', 0, none⟩) (bt y 3) tc'] 75)).alloc (.cells #[.slice none 0 0, .slice none 0 0, .slice none 0 0] 90)) w3.heap.size (bt y 2) (imF y) g' (bt y 3) tc' (fun i => tblX y (tpos y (5 + bt y 4) i))) := ⟨heap_alloc2_old _ _ _, fun i hi => (Fr.ofBelow (unhide HBB)).cell (hct' i hi) (by simp)⟩
      have HTA : Hid (TaI ((w3.alloc (.cells #[.int .i64 ((bt y 2 : Nat) : Int), .string (imF y), .slice (some ⟨g', 0, none⟩) (bt y 3) tc'] 75)).alloc (.cells #[.slice none 0 0, .slice none 0 0, .slice none 0 0] 90)) (w3.heap.size + 1) ((w3.alloc (.cells #[.int .i64 ((bt y 2 : Nat) : Int), .string (imF y), .slice (some ⟨g', 0, none⟩) (bt y 3) tc'] 75)).alloc (.cells #[.slice none 0 0, .slice none 0 0, .slice none 0 0] 90)) none 0 []) := TaI.start (heap_alloc2_new _ _ _)
      have HB5 := hide (bel_up4 (unhide HB3) (unhide HBB))
      have HGA3 := hide (unhide HD3).lt
      have HG' : Hid (g' < w3.heap.size) := hg2'
      have HWS : Hid (w.heap.size ≤ w3.heap.size) := (unhide HB3).size
      clear hb3 hok' hct' hg1' hg2' HD1 HD3 HBB HB3 HB2 HG HGA HGL
      go_upto_region 8 with fail
      generalize ((w3.alloc (.cells #[.int .i64 ((bt y 2 : Nat) : Int), .string (imF y), .slice (some ⟨g', 0, none⟩) (bt y 3) tc'] 75)).alloc (.cells #[.slice none 0 0, .slice none 0 0, .slice none 0 0] 90)) = w5 at *
      generalize w3.heap.size = gb at *
      have HTX := hide (TbD.of (unhide HOK))
      have HTY := hide (TbD.of (unhide HOK'))
      have HX1 := hide (unhide HOK).r1
      have HX4 := hide (unhide HOK).r2
      have HY1 := hide (unhide HOK').r1
      have HY4 := hide (unhide HOK').r2
      have HFX : Hid ((imF x).size ≤ 1000) := by show _ ≤ _; rw [imF_size (unhide HOK).fl]; have := (unhide HOK).f2; omega
      have HFY : Hid ((imF y).size ≤ 1000) := by show _ ≤ _; rw [imF_size (unhide HOK').fl]; have := (unhide HOK').f2; omega
      have HMX := hide (unhide HOK).fm
      have HMY := hide (unhide HOK').fm
      have HPQ : Hid (∀ v, (fun σ => truS (imF x) (bt x 3) (imT x) 0 σ != truS (imF y) (bt y 3) (imT y) (bt x 3) σ) (stT (bt x 3 + bt y 3) (joinT (bt x 3) (imT x) (imT y)) v) = (truX x v != truX y v)) := fun v => by
        show (truS (imF x) (bt x 3) (imT x) 0 _ != truS (imF y) (bt y 3) (imT y) (bt x 3) _) = _
        rw [truS_st (by omega) (fun i hi => joinT_left i hi), truS_st (Nat.le_refl _) (fun i _ => joinT_right i)]
        rfl
      have HAN : Hid (∀ s b, WitA 256 (fun v => truX x v != truX y v) (Many (stT (bt x 3 + bt y 3) (joinT (bt x 3) (imT x) (imT y)))) (.returned (.tuple #[.string s, .bool b, .int .i64 0])) → RDiA x y (.returned (.tuple #[.string s, .bool b, .int .i64 0]))) := fun s b h => .inl ⟨unhide HOK, unhide HOK', h⟩
      have HAM : Hid (Many (stT (bt x 3 + bt y 3) (joinT (bt x 3) (imT x) (imT y))) → RDiA x y (.returned (.tuple #[.string ⟨#[]⟩, .bool false, .int .i64 3]))) := fun h => .inl ⟨unhide HOK, unhide HOK', .inl ⟨h, rfl⟩⟩
      clear HOK HOK'
      generalize bt x 3 = m at *
      generalize bt y 3 = m' at *
      generalize bt x 2 = N at *
      generalize bt y 2 = N' at *
      generalize imF x = f at *
      generalize imF y = f' at *
      generalize imT x = ts at *
      generalize imT y = ts' at *
      generalize (fun i => tblX x (tpos x (5 + bt x 4) i)) = tb at *
      generalize (fun i => tblX y (tpos y (5 + bt y 4) i)) = tb' at *
      have hmI : (m : Int) ≤ 4 := by have := unhide HX4; omega
      have hmI' : (m' : Int) ≤ 4 := by have := unhide HY4; omega
      have HL1 : Hid (((List.range m).map tb).length = m) := by show _ = _; simp
      have HL2 : Hid (((List.range m').map tb').length = m') := by show _ = _; simp
      go_cut [] (fun wx => ∃ ta tc0, Hid (TaI w5 (gb + 1) wx ta tc0 ((List.range m).map tb)))
      case first =>
        have c0 := (unhide HTA).c0
        have c2 := (unhide HDX).c2
        have hga := (unhide HDX).lt
        have hgr := (unhide HTA).lt
        have HXT := hide (unhide HTA).drew
        have HXD := hide ((unhide HDX).next ((Below.refl _ _).drew))
        simp only [List.length_nil] at c0
        go_region_law (refine appSs (by rfl) _ _ (by rfl) w5.heap.size _ [] (by rfl) (by exact (unhide HXT).row) g m tc ((List.range m).map tb) (by rfl) (unhide HL1) (by exact (unhide HXD).cells) (unhide HX1) (by have := unhide HX4; simp; omega) (by simp) w5.heap.size (by simp) ?_; intro g5 cap5 w8 ho hgrow hlies hlt5; obtain ⟨c9, f9, hg9, hP9⟩ := (unhide HXT).push (unhide HL1) hgrow ho; rw [List.length_nil, Nat.zero_add, List.nil_append] at hP9; have HP9 := hide hP9; clear ho hgrow hlies hP9)
        all_goals
          go_wp2_with fail
          go_meet
          exact ⟨_, _, unhide HP9⟩
      case rest =>
        rename World => w6
        obtain ⟨ta1, tc1, HT6⟩ := hcut
        have HNA : Hid (ga ≠ gb + 1 ∧ g ≠ gb + 1 ∧ gb ≠ gb + 1 ∧ g' ≠ gb + 1) := by have := unhide HGA3; have := unhide HG3; have := unhide HG'; show _ ∧ _; omega
        have HDX6 := hide ((unhide HDX).fr (unhide HT6).fr (by simpa using (unhide HNA).1) (by simpa using (unhide HNA).2.1))
        have HDY6 := hide ((unhide HDY).fr (unhide HT6).fr (by simp) (by simpa using (unhide HNA).2.2.2))
        clear HTA
        go_upto_region 9 with fail
        go_cut [] (fun wx => ∃ ta tc0, Hid (TaI w5 (gb + 1) wx ta tc0 ((List.range m).map tb ++ (List.range m').map tb')))
        case first =>
          have c0 := (unhide HT6).c0
          rw [unhide HL1] at c0
          have c2 := (unhide HDY6).c2
          have hga := (unhide HDY6).lt
          have hgr := (unhide HT6).lt
          have HXT := hide (unhide HT6).drew
          have HXD := hide ((unhide HDY6).next ((Below.refl _ _).drew))
          have HZ := hide (unhide HT6).fr.size
          go_region_law (refine appSs (by rfl) _ _ (by rfl) w5.heap.size _ ((List.range m).map tb) (by rfl) (by have := (unhide HXT).row; rw [unhide HL1] at this; exact this) g' m' tc' ((List.range m').map tb') (by rfl) (unhide HL2) (by exact (unhide HXD).cells) (unhide HY1) (by rw [unhide HL1]; have := unhide HX4; have := unhide HY4; omega) (by exact unhide HZ) w6.heap.size (by simp) ?_; intro g5 cap5 w8 ho hgrow hlies hlt5; obtain ⟨c9, f9, hg9, hP9⟩ := (unhide HXT).push (unhide HL2) (by rw [unhide HL1]; exact hgrow) ho; rw [unhide HL1] at c9 hP9; have HP9 := hide hP9; clear ho hgrow hlies hP9)
          all_goals
            go_wp2_with fail
            go_meet
            exact ⟨_, _, unhide HP9⟩
        case rest =>
          rename World => w7
          obtain ⟨ta2, tc2, HT7⟩ := hcut
          have HDX7 := hide ((unhide HDX).fr (unhide HT7).fr (by simpa using (unhide HNA).1) (by simpa using (unhide HNA).2.1))
          have HDY7 := hide ((unhide HDY).fr (unhide HT7).fr (by simp) (by simpa using (unhide HNA).2.2.2))
          have HL3 : Hid (((List.range m).map tb ++ (List.range m').map tb').length = m + m') := by show _ = _; simp
          obtain ⟨gt, cgt, he⟩ := own_form (show w7.ownsRow w5.heap.size 9 1 (.slice ta2 ((List.range m).map tb ++ (List.range m').map tb').length tc2) ((List.range m).map tb ++ (List.range m').map tb').length _ from (unhide HT7).row) (by rw [unhide HL3]; have := unhide HX1; omega)
          simp only [Value.slice.injEq, true_and] at he
          obtain ⟨rfl, rfl⟩ := he
          have him := (unhide HT7).im
          rw [unhide HL3] at him
          have hne : gt ≠ gb + 1 := own_off (unhide HT7).row (unhide HT7).im (by decide) gt rfl
          have hct : ∀ i, i < m + m' → w7.cell? ⟨gt, i, none⟩ = some (.string (if i < m then tb i else tb' (i - m))) := fun i hi => (unhide HT7).at (joinB_at hi)
          have HB7 : Hid (Below w.heap.size w w7) := (unhide HT7).fr.belowOf (unhide HB5) (unhide HB5).size (by have := unhide HWS; omega)
          have HJT := hide ((unhide HTX).join (unhide HTY))
          have HCT := hide hct
          have HNE := hide hne
          have HRA := hide (rall_any w7 (gb + 1) gt (m + m') tc2 _ _ (unhide HJT) (by have := unhide HX1; omega) (by have := unhide HX4; have := unhide HY4; omega) him hne hct)
          clear HT6 HT7 HDX6 HDY6 him hne hct
          go_wp2_with fail
          refine (unhide HRA).mono ?_
          rintro e w8 hA
          clear HRA
          rcases hA with ⟨fa, fc, F, us, na, nc, Nx, ns, rfl, hre, hdl, hfew, hnl, hnx⟩ | ⟨hM, rfl, hfr⟩
          · have h0 := hdl.zero
            have HZ := hide h0
            have HF0 : Hid (0 < F.length) := (List.getElem?_eq_some_iff.1 h0).1
            have HRE := hide hre
            have HDL := hide hdl
            have HFE := hide hfew
            have HNL := hide hnl
            have HNX := hide hnx
            have HNM := hide (hdl.few hfew)
            have HDX8 := hide ((unhide HDX7).fr hre.fr (by simpa using (unhide HNA).1) (by simpa using (unhide HNA).2.1))
            have HDY8 := hide ((unhide HDY7).fr hre.fr (by simp) (by simpa using (unhide HNA).2.2.2))
            have hFI : (F.length : Int) ≤ 256 := by omega
            have HB8 : Hid (Below w.heap.size w w8) := hre.fr.belowOf (unhide HB7) (unhide HB7).size (by have := unhide HWS; omega)
            clear hre hdl hfew hnl hnx h0 HDX7 HDY7 HDX HDY HB5 HB7
            go_wp2_with fail
            go_loopw [12, 13] (fun vx ix wr => ∃ (i : Nat) (va : Option Addr) (vc : Nat), vx = .slice va i vc ∧ ix = .int .i64 (i : Int) ∧ Hid (i ≤ F.length ∧ BgI w8 wr va vc (wnF F (fun σ => truS f m ts 0 σ != truS f' m' ts' m σ) i))) (fun _ ix _ => lenLeft F.length ix)
            case atStart => exact ⟨0, none, 0, rfl, rfl, Nat.zero_le _, BgI.start⟩
            case round =>
              rename World => wr
              obtain ⟨i, va, vc, rfl, rfl, HH⟩ := hrel
              obtain ⟨hi, hI⟩ := unhide HH
              clear HH
              have hRE := (unhide HRE).next hI.below
              have c1 := hRE.c1
              have hgr := hRE.lt
              by_cases hlt : i < F.length
              · have hiI : (i : Int) < (F.length : Int) := by omega
                have hi0 : (0 : Int) ≤ (i : Int) := by omega
                have hi1 : ((i : Int)).toNat = i := by omega
                have hX := (unhide HDX8).next hI.below
                have hY := (unhide HDY8).next hI.below
                have a1 := hX.c1
                have a2 := hX.c2
                have b1 := hY.c1
                have b2 := hY.c2
                have hga := hX.lt
                have hgb := hY.lt
                obtain ⟨σ, hσ⟩ : ∃ σ, F[i]? = some σ := ⟨_, List.getElem?_eq_getElem hlt⟩
                obtain ⟨gf, u, hfa, hgf, -, cu, hu⟩ := hRE.at1 hσ
                subst hfa
                obtain ⟨hsl, hss⟩ := (unhide HDL).byt (unhide HJT).ok hσ
                have HSX : Hid (∀ n, Calls Try.prog 47 #[.pointer (some ⟨gb + 1, 0, none⟩), .string f, u, .int .i64 0, .int .i64 (m : Int)] (wr.drewN n) fun e w' => e = .returned (.bool (truS f m ts 0 σ)) ∧ ∃ k, w' = (wr.drewN n).drewN k) := fun n => by
                  have := says_any (wr.drewN n) (gb + 1) gt (m + m') tc2 _ _ (unhide HJT) (by have := unhide HX4; have := unhide HY4; omega) hRE.c0 (fun q hq => (hRE.fr.cell (unhide HCT q hq) (by simpa using unhide HNE) : wr.cell? ⟨gt, q, none⟩ = _)) w7.heap.size u σ hu hsl hss f 0 m m (by omega) (unhide HX4) (unhide HX4) (unhide HFX) (unhide HMX)
                  have e : truS f m ts 0 σ = trueF f ((List.range m).map fun i => (joinT m ts ts' (0 + i)).gr (σ.getD (0 + i) 0)) := by
                    unfold truS
                    congr 1
                    apply List.map_congr_left
                    intro i hi
                    rw [joinT_left i (List.mem_range.1 hi)]
                  rw [e]
                  exact this
                have HSY : Hid (∀ n, Calls Try.prog 47 #[.pointer (some ⟨gb + 1, 0, none⟩), .string f', u, .int .i64 (m : Int), .int .i64 (m' : Int)] (wr.drewN n) fun e w' => e = .returned (.bool (truS f' m' ts' m σ)) ∧ ∃ k, w' = (wr.drewN n).drewN k) := fun n => by
                  have := says_any (wr.drewN n) (gb + 1) gt (m + m') tc2 _ _ (unhide HJT) (by have := unhide HX4; have := unhide HY4; omega) hRE.c0 (fun q hq => (hRE.fr.cell (unhide HCT q hq) (by simpa using unhide HNE) : wr.cell? ⟨gt, q, none⟩ = _)) w7.heap.size u σ hu hsl hss f' m m' m' (by omega) (unhide HY4) (unhide HY4) (unhide HFY) (unhide HMY)
                  have e : truS f' m' ts' m σ = trueF f' ((List.range m').map fun i => (joinT m ts ts' (m + i)).gr (σ.getD (m + i) 0)) := by
                    unfold truS
                    congr 1
                    apply List.map_congr_left
                    intro i hi
                    rw [joinT_right i]
                  rw [e]
                  exact this
                obtain ⟨ua, uc, rfl⟩ := hu.form
                have HSN : Hid (wnF F (fun σ => truS f m ts 0 σ != truS f' m' ts' m σ) (i + 1) = wnF F (fun σ => truS f m ts 0 σ != truS f' m' ts' m σ) i ++ [truS f m ts 0 σ != truS f' m' ts' m σ]) := by
                  show _ = _
                  unfold wnF
                  rw [bmap_snoc, List.getD_eq_getElem?_getD, hσ]; rfl
                have HLN : Hid ((wnF F (fun σ => truS f m ts 0 σ != truS f' m' ts' m σ) i).length = i) := bmap_len _ _
                have HLT := hide hlt
                have HI := hide hI
                have HSZ : Hid (w8.heap.size ≤ wr.heap.size) := hI.below.size
                clear hi hI hlt hσ hu hsl hss hRE hX hY
                generalize wnF F (fun σ => truS f m ts 0 σ != truS f' m' ts' m σ) i = xs at *
                generalize truS f m ts 0 σ = y1 at *
                generalize truS f' m' ts' m σ = y2 at *
                have hxl := unhide HLN
                subst hxl
                go_wp2_with fail
                go_quiet ((go_at_call 47; exact Calls.quiet_of (unhide HSX _)))
                have c1' : (wr.drewN nq).cell? ⟨gb + 1, 1, none⟩ = some (.slice (some ⟨gf, 0, none⟩) F.length fc) := c1
                have cu' : (wr.drewN nq).cell? ⟨gf, xs.length, none⟩ = some (.slice ua σ.length uc) := cu
                have a2' : (wr.drewN nq).cell? ⟨ga, 2, none⟩ = some (.slice (some ⟨g, 0, none⟩) m tc) := a2
                have b1' : (wr.drewN nq).cell? ⟨gb, 1, none⟩ = some (.string f') := b1
                have b2' : (wr.drewN nq).cell? ⟨gb, 2, none⟩ = some (.slice (some ⟨g', 0, none⟩) m' tc') := b2
                have hgr' : gb + 1 < (wr.drewN nq).heap.size := hgr
                have hgf' : gf < (wr.drewN nq).heap.size := hgf
                have hga' : ga < (wr.drewN nq).heap.size := hga
                have hgb' : gb < (wr.drewN nq).heap.size := hgb
                have HSY' : Hid (∀ n, Calls Try.prog 47 #[.pointer (some ⟨gb + 1, 0, none⟩), .string f', .slice ua σ.length uc, .int .i64 (m : Int), .int .i64 (m' : Int)] ((wr.drewN nq).drewN n) fun e w' => e = .returned (.bool y2) ∧ ∃ k, w' = ((wr.drewN nq).drewN n).drewN k) := fun n => by
                  have := unhide HSY (nq + n)
                  rwa [← World.drewN_drewN] at this
                have HI' := hide ((unhide HI).drewN nq)
                have HSZ' : Hid (w8.heap.size ≤ (wr.drewN nq).heap.size) := unhide HSZ
                clear HSX HSY HI HSZ c1 cu a1 a2 b1 b2 hgr hgf hga hgb
                generalize wr.drewN nq = wq at *
                clear nq
                go_wp2_with fail
                go_quiet ((go_at_call 47; exact Calls.quiet_of (unhide HSY' _)))
                cases y1 <;> cases y2
                · have HXA := hide (((unhide HI').drewN nq).alloc (Obj.cells #[.bool false] 4))
                  go_wp2_with (at_builtin; refine appB rfl (.tmp 98) (.tmp 102) rfl w8.heap.size _ xs rfl (unhide HXA).row wq.heap.size false rfl (new_cell rfl) (by have := unhide HLT; have := unhide HFE; omega) (by have := unhide HSZ'; simp; omega) (wq.heap.size + 1) (by simp) ?_; intro g5 cap5 w9 ho hgrow hlies hlt5; have HP9 := hide ((unhide HXA).push hgrow ho); clear ho hgrow hlies)
                  go_roundw
                  case rel => exact ⟨xs.length + 1, some ⟨g5, 0, none⟩, cap5, rfl, by go_num, unhide HLT, by rw [unhide HSN]; exact unhide HP9⟩
                  case measure => have := unhide HLT; simp [lenLeft, intOf]; omega
                · have HXA := hide (((unhide HI').drewN nq).alloc (Obj.cells #[.bool true] 4))
                  go_wp2_with (at_builtin; refine appB rfl (.tmp 98) (.tmp 102) rfl w8.heap.size _ xs rfl (unhide HXA).row wq.heap.size true rfl (new_cell rfl) (by have := unhide HLT; have := unhide HFE; omega) (by have := unhide HSZ'; simp; omega) (wq.heap.size + 1) (by simp) ?_; intro g5 cap5 w9 ho hgrow hlies hlt5; have HP9 := hide ((unhide HXA).push hgrow ho); clear ho hgrow hlies)
                  go_roundw
                  case rel => exact ⟨xs.length + 1, some ⟨g5, 0, none⟩, cap5, rfl, by go_num, unhide HLT, by rw [unhide HSN]; exact unhide HP9⟩
                  case measure => have := unhide HLT; simp [lenLeft, intOf]; omega
                · have HXA := hide (((unhide HI').drewN nq).alloc (Obj.cells #[.bool true] 4))
                  go_wp2_with (at_builtin; refine appB rfl (.tmp 98) (.tmp 102) rfl w8.heap.size _ xs rfl (unhide HXA).row wq.heap.size true rfl (new_cell rfl) (by have := unhide HLT; have := unhide HFE; omega) (by have := unhide HSZ'; simp; omega) (wq.heap.size + 1) (by simp) ?_; intro g5 cap5 w9 ho hgrow hlies hlt5; have HP9 := hide ((unhide HXA).push hgrow ho); clear ho hgrow hlies)
                  go_roundw
                  case rel => exact ⟨xs.length + 1, some ⟨g5, 0, none⟩, cap5, rfl, by go_num, unhide HLT, by rw [unhide HSN]; exact unhide HP9⟩
                  case measure => have := unhide HLT; simp [lenLeft, intOf]; omega
                · have HXA := hide (((unhide HI').drewN nq).alloc (Obj.cells #[.bool false] 4))
                  go_wp2_with (at_builtin; refine appB rfl (.tmp 98) (.tmp 102) rfl w8.heap.size _ xs rfl (unhide HXA).row wq.heap.size false rfl (new_cell rfl) (by have := unhide HLT; have := unhide HFE; omega) (by have := unhide HSZ'; simp; omega) (wq.heap.size + 1) (by simp) ?_; intro g5 cap5 w9 ho hgrow hlies hlt5; have HP9 := hide ((unhide HXA).push hgrow ho); clear ho hgrow hlies)
                  go_roundw
                  case rel => exact ⟨xs.length + 1, some ⟨g5, 0, none⟩, cap5, rfl, by go_num, unhide HLT, by rw [unhide HSN]; exact unhide HP9⟩
                  case measure => have := unhide HLT; simp [lenLeft, intOf]; omega
              · have hi2 : i = F.length := by omega
                subst hi2
                have hiI : ¬ (F.length : Int) < (F.length : Int) := by omega
                have hwl : (wnF F (fun σ => truS f m ts 0 σ != truS f' m' ts' m σ) F.length).length = F.length := bmap_len _ _
                have hrow := hI.row
                rw [hwl] at hrow
                have HFI := hide (rfirst_any w7 (gb + 1) wr _ _ _ F us _ _ Nx ns hRE (m + m') (joinT m ts ts') (unhide HNX) (unhide HNL) (unhide HF0) (unhide HFE) w8.heap.size _ _ hrow hwl 256 (Nat.le_refl _))
                have HBW := hide (bel_up4 (unhide HB8) hI.below)
                clear hi hI hlt hRE hwl hrow
                go_wp2_with fail
                refine (unhide HFI).mono ?_
                rintro e w9 ⟨hb9, ha⟩
                have HB9 := hide (bel_up4 (unhide HBW) hb9)
                obtain ⟨s, b, rfl⟩ := fi_form ha
                have HAA := hide (unhide HAN s b (fi_wit ha (wnF_run (unhide HNX) (unhide HNL) (unhide HZ) (unhide HPQ)) (unhide HNM)))
                clear ha hb9
                go_wp2_with fail
                refine bodyPost_ret (v := .tuple #[.string s, .bool b, .int .i64 0]) (by simp [results, Try.results19, go_sem]) rfl ?_
                exact ⟨unhide HB9, unhide HAA⟩
          · have HMM := hide hM
            have HB8 : Hid (Below w.heap.size w w8) := hfr.belowOf (unhide HB7) (unhide HB7).size (by have := unhide HWS; omega)
            clear hM hfr
            go_wp2_with fail
            refine bodyPost_ret (v := .tuple #[.string ⟨#[]⟩, .bool false, .int .i64 3]) (by simp [results, Try.results19, go_sem]) rfl ?_
            exact ⟨unhide HB8, unhide HAM (unhide HMM)⟩
    · have HF := hide hno
      clear hb3 hno HD1
      go_wp2_with fail
      refine bodyPost_ret (v := .tuple #[.string ⟨#[]⟩, .bool false, .int .i64 7]) (by simp [results, Try.results19, go_sem]) rfl ?_
      exact ⟨(unhide HB3).alloc (unhide HB3).size _, .inr ⟨fun h => unhide HF h.2, rfl⟩⟩
  · have HB1 := hide hb1
    have HF := hide hno
    clear hb1 hno HRY
    go_wp2_with fail
    refine bodyPost_ret (v := .tuple #[.string ⟨#[]⟩, .bool false, .int .i64 7]) (by simp [results, Try.results19, go_sem]) rfl ?_
    exact ⟨(unhide HB1).alloc (unhide HB1).size _, .inr ⟨fun h => unhide HF h.1, rfl⟩⟩
end

end Mc
end Go.Proofs.Ytnkdbcicphnmiaa
