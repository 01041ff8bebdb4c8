/-
  The graph: the roll of the states that were met.
-/
import Derived.Test.YtohefinejdfhaabVc
import Derived.Deep.AppendLies
namespace Go.Proofs.Ytohefinejdfhaab
open Go.RowKit
attribute [local go_sem ↓] Go.wp_at_zero Go.wp_at_succ

/-- Two rows share no block. -/
def Dj (u v : Value) : Prop := ∀ q, u.ownBlock = some q → v.ownBlock = some q → False
theorem Dj.symm {u v : Value} (h : Dj u v) : Dj v u := fun q h1 h2 => h q h2 h1
theorem Dj.nil (v : Value) : Dj (.slice none 0 0) v := fun q h _ => by cases h
/-- The row behind an append: where it was, or new. -/
theorem Dj.lies {u v : Value} {g n cap H : Nat} (h : Dj u v) (hl : v.ownBlock = some g ∨ g = H) (hu : ∀ q, u.ownBlock = some q → q < H) : Dj u (.slice (some ⟨g, 0, none⟩) n cap) := fun q h1 h2 => by
  have : g = q := by simpa [Value.ownBlock] using h2
  subst this
  rcases hl with hl | hl
  · exact h g h1 hl
  · have := hu g h1; omega

/-- What the numbers of a roll say. -/
structure RollOk (B : Nat) (st nus : List Nat) : Prop where
  len : nus.length = B
  no : ∀ s, s < B → nus.getD s 0 = 0 → ∀ i, i < st.length → st.getD i 0 ≠ s
  yes : ∀ s, s < B → nus.getD s 0 ≠ 0 → nus.getD s 0 - 1 < st.length ∧ st.getD (nus.getD s 0 - 1) 0 = s
theorem getD_set {l : List Nat} {s x : Nat} (hs : s < l.length) (c : Nat) : (l.set s x).getD c 0 = if c = s then x else l.getD c 0 := by
  rw [List.getD_eq_getElem?_getD, List.getD_eq_getElem?_getD, List.getElem?_set]
  by_cases h : c = s
  · subst h; rw [if_pos rfl, if_pos hs, if_pos rfl]; rfl
  · rw [if_neg (fun e => h e.symm), if_neg h]
theorem RollOk.new {B : Nat} {st nus : List Nat} {s : Nat} (h : RollOk B st nus) (hs : s < B) : RollOk B (st ++ [s]) (nus.set s (st.length + 1)) := by
  have hl : s < nus.length := by rw [h.len]; exact hs
  have hl2 : (st ++ [s]).length = st.length + 1 := by simp
  refine ⟨by rw [List.length_set]; exact h.len, fun t ht e i hi => ?_, fun t ht e => ?_⟩
  · rw [getD_set hl] at e
    by_cases hts : t = s
    · rw [if_pos hts] at e; omega
    · rw [if_neg hts] at e
      by_cases hi2 : i = st.length
      · rw [hi2, getD_snoc_new]; exact fun q => hts q.symm
      · rw [getD_snoc_old (by omega)]; exact h.no t ht e i (by omega)
  · rw [getD_set hl] at e ⊢
    by_cases hts : t = s
    · rw [if_pos hts, Nat.add_sub_cancel, getD_snoc_new]; exact ⟨by omega, hts.symm⟩
    · rw [if_neg hts] at e ⊢
      have := h.yes t ht e
      rw [getD_snoc_old this.1]; exact ⟨by omega, this.2⟩
theorem RollOk.start {B : Nat} : RollOk B [] (List.replicate B 0) :=
  ⟨List.length_replicate, fun _ _ _ i hi => absurd hi (Nat.not_lt_zero _), fun s hs e => absurd (by simp [List.getD_eq_getElem?_getD, hs]) e⟩
theorem own_free {w : World} {B g cap : Nat} {e z n : Nat} {xs : List Value} (h : w.ownsRow B e z (.slice (some ⟨g, 0, none⟩) n cap) n xs) (k : Nat) : w.frozen? ⟨g, k, none⟩ = false := by
  rcases h.2 with ⟨he, _⟩ | ⟨g', cap', cur, he, h1, hg, rest⟩
  · cases he
  · simp only [Value.slice.injEq, Option.some.injEq, Addr.mk.injEq, and_true, true_and] at he
    obtain ⟨rfl, rfl⟩ := he
    exact frozen_of_row w g k _ _ hg
/-- A number of a row is changed. -/
theorem natCells_set (xs : List Nat) (k x : Nat) : (natCells xs).set k (.int .i64 ((x : Nat) : Int)) = natCells (xs.set k x) := by
  unfold natCells; rw [List.map_set]
theorem NRow.put {w : World} {B g cap : Nat} {xs : List Nat} (h : NRow w B (.slice (some ⟨g, 0, none⟩) xs.length cap) xs) (k x : Nat) : NRow (w.setCell ⟨g, k, none⟩ (.int .i64 ((x : Nat) : Int))) B (.slice (some ⟨g, 0, none⟩) xs.length cap) (xs.set k x) := by
  rcases h.2 with ⟨he, _⟩ | ⟨g', cap', cur, he, h1, hg, h2, h3, h4, h5⟩
  · cases he
  · simp only [Value.slice.injEq, Option.some.injEq, Addr.mk.injEq, and_true, true_and] at he
    obtain ⟨rfl, rfl⟩ := he
    have hl : (xs.set k x).length = xs.length := List.length_set
    show World.ownsRow _ _ _ _ _ _ _
    rw [hl]
    refine ⟨by rw [← natCells_set, List.length_set]; exact h.1, .inr ⟨g, cap, _, rfl, h1, heap_setCell_same _ _ _ _ _ _ hg, h2, h3, by simpa using h4, ?_⟩⟩
    rw [Array.toList_setIfInBounds, List.take_set, h5, natCells_set]

set_option maxRecDepth 20000 in
theorem number_old (w : World) (gM B : Nat) (stv nuv : Value) (nus : List Nat) (s j : Nat) (hb : w.heap[gM]? = some (.cells #[stv, nuv] 166 (0, 0))) (hn : NRow w B nuv nus) (hs : s < nus.length) (hl : nus.length ≤ 10000) (h0 : nus.getD s 0 = j + 1) (hj : j < 10000) :
    Calls Try.prog 98 #[.pointer (some ⟨gM, 0, none⟩), .int .i64 (s : Int)] w fun e w' => e = .returned (.int .i64 (j : Int)) ∧ w' = w := by
  obtain ⟨g, cap, rfl, hc⟩ := hn.at hs
  have c1 : w.cell? ⟨gM, 1, none⟩ = some (.slice (some ⟨g, 0, none⟩) nus.length cap) := by rw [cell_of_row _ _ _ _ _ _ hb]; rfl
  rw [h0] at hc
  have hsI : (s : Int) < (nus.length : Int) := by omega
  have hs0 : ¬ (s : Int) < 0 := by omega
  have hsN : ¬ nus.length ≤ s := by omega
  have hlI : (nus.length : Int) ≤ 10000 := by omega
  obtain ⟨x, hx⟩ : ∃ x : Int, x = ((j + 1 : Nat) : Int) := ⟨_, rfl⟩
  rw [← hx] at hc
  have HX : Hid (x - 1 = (j : Int)) := by show _ = _; omega
  have hx1 : 1 ≤ x := by omega
  have hx2 : x ≤ 10000 := by omega
  have hne : ¬ x = 0 := by omega
  clear hb hn hs hl h0 hj hx
  go_enter Try.func98, Try.ntmps98
  go_wp2
  go_ret
  exact ⟨ret_int (unhide HX), rfl⟩

set_option maxRecDepth 20000 in
set_option maxHeartbeats 1000000 in
theorem number_new (w : World) (gM B : Nat) (stv nuv : Value) (st nus : List Nat) (s : Nat) (hb : w.heap[gM]? = some (.cells #[stv, nuv] 166 (0, 0))) (ht : NRow w B stv st) (hn : NRow w B nuv nus) (hd : Dj stv nuv) (hB : B ≤ w.heap.size) (hs : s < nus.length) (hl : nus.length ≤ 10000) (hst : st.length ≤ 10000) (h0 : nus.getD s 0 = 0) :
    Calls Try.prog 98 #[.pointer (some ⟨gM, 0, none⟩), .int .i64 (s : Int)] w fun e w' => e = .returned (.int .i64 ((st.length : Nat) : Int)) ∧ ∃ g cap, Fr (gM :: (stv.ownBlock.toList ++ nuv.ownBlock.toList)) w w' ∧ (stv.ownBlock = some g ∨ w.heap.size ≤ g) ∧
      w'.heap[gM]? = some (.cells #[.slice (some ⟨g, 0, none⟩) (st.length + 1) cap, nuv] 166 (0, 0)) ∧ NRow w' B (.slice (some ⟨g, 0, none⟩) (st.length + 1) cap) (st ++ [s]) ∧ NRow w' B nuv (nus.set s (st.length + 1)) := by
  obtain ⟨gn, capn, rfl, hc⟩ := hn.at hs
  obtain ⟨sa, sc, rfl⟩ := ht.form
  have c0 : w.cell? ⟨gM, 0, none⟩ = some (.slice sa st.length sc) := by rw [cell_of_row _ _ _ _ _ _ hb]; rfl
  have c1 : w.cell? ⟨gM, 1, none⟩ = some (.slice (some ⟨gn, 0, none⟩) nus.length capn) := by rw [cell_of_row _ _ _ _ _ _ hb]; rfl
  have hgM := (Array.getElem?_eq_some_iff.1 hb).1
  have hgn : gn < w.heap.size := (hn.lt gn rfl).2
  rw [h0] at hc
  have hsI : (s : Int) < (nus.length : Int) := by omega
  have hs0 : ¬ (s : Int) < 0 := by omega
  have hsN : ¬ nus.length ≤ s := by omega
  have hlI : (nus.length : Int) ≤ 10000 := by omega
  have hstI : (st.length : Int) ≤ 10000 := by omega
  have HB := hide hb
  have HT := hide ht
  have HN := hide hn
  have HD := hide hd
  have HBS := hide hB
  have HS := hide hs
  have HST := hide hst
  have HO2 := hide (World.ownsRow.alloc ht (Obj.cells #[.int .i64 (s : Int)] 3))
  obtain ⟨i, i0, i1, i2, i3⟩ := info_of info3
  have HI := hide (And.intro i0 (And.intro i1 (And.intro i2 i3)))
  clear i0 i1 i2 i3 hb ht hn hd hB hs hl hst h0
  go_enter Try.func98, Try.ntmps98
  have HNG : Hid (gn ≠ gM) := own_off (unhide HN) (unhide HB) (by decide) gn rfl
  have HTG : Hid (∀ q, (Value.slice sa st.length sc).ownBlock = some q → q ≠ gM) := own_off (unhide HT) (unhide HB) (by decide)
  have hz0 : (0 : Int) = ((0 : Nat) : Int) := rfl
  rw [← hz0] at hc
  clear hz0
  go_wp2_with (at_builtin; refine wpList_append_lies _ rfl (.tmp 28) (.tmp 30) 48 rfl B 3 i (.int .i64 0) 1 8 Try.underlying48 (unhide HI).1 (unhide HI).2.1 (unhide HI).2.2.1 (unhide HI).2.2.2 rfl (by decide) _ _ _ rfl (unhide HO2) ⟨w.heap.size, 0, none⟩ 1 1 [.int .i64 (s : Int)] rfl rfl (cell_one_new _ _ _) (by intro u hu; simp at hu; subst hu; rfl) (by decide) (by have := unhide HST; unfold maxLen; omega) (by have := unhide HST; omega) (by have := unhide HBS; simp; omega) (w.heap.size + 1) (by simp) ?_; intro g cap w1 ho hgrow hlies hlt; have hfr : Fr (gM :: ((Value.slice sa st.length sc).ownBlock.toList ++ (Value.slice (some ⟨gn, 0, none⟩) nus.length capn).ownBlock.toList)) w w1 := (Fr.ofAlloc w _).mono (fun x hx => by cases hx) |>.grown hgrow (fun k hk => .inl (by simp only [List.mem_cons, List.mem_append]; exact .inr (.inl (by rw [show (Value.slice sa st.length sc).ownBlock = some k from hk]; simp)))); have hb1 : w1.heap[gM]? = some (.cells #[.slice sa st.length sc, .slice (some ⟨gn, 0, none⟩) nus.length capn] 166 (0, 0)) := (hgrow.block gM (by simp; omega) (fun e => unhide HTG gM e.symm rfl)).trans ((Below.heap_alloc _ _ _ hgM).trans (unhide HB)); have hn1 : NRow w1 B (.slice (some ⟨gn, 0, none⟩) nus.length capn) nus := Fr.own (Fr.ofGrown hgrow) (World.ownsRow.alloc (unhide HN) _) (fun q hq hm => unhide HD q (Option.mem_toList.1 hm) hq); have hgg : g ≠ gM := own_off ho hb1 (by decide) g rfl; have hgn2 : g ≠ gn := (fun e => by subst e; rcases hlies with hl | hl; exact unhide HD _ hl rfl; omega); have y0 : w1.cell? ⟨gM, 0, none⟩ = some (.slice sa st.length sc) := (by rw [cell_of_row _ _ _ _ _ _ hb1]; rfl); have y1 : w1.cell? ⟨gM, 1, none⟩ = some (.slice (some ⟨gn, 0, none⟩) nus.length capn) := (by rw [cell_of_row _ _ _ _ _ _ hb1]; rfl); have z0 := frozen_of_row w1 gM 0 _ _ hb1; obtain ⟨gn', capn', hen, yn⟩ := hn1.at (unhide HS); simp only [Value.slice.injEq, Option.some.injEq, Addr.mk.injEq, and_true, true_and] at hen; obtain ⟨rfl, rfl⟩ := hen; have zn : w1.frozen? ⟨gn, s, none⟩ = false := own_free hn1 s; have HFR := hide hfr; have HB1 := hide hb1; have HN1 := hide hn1; have HGG := hide hgg; have HGN2 := hide hgn2; have HO := hide ho; have HL := hide hlies; have hng := unhide HNG; clear hfr hb1 hn1 hgg hgn2 ho hgrow hlies)
  have hlI2 : ((st.length + 1 : Nat) : Int) = (st.length : Int) + 1 := by omega
  go_region
  all_goals
    go_wp2
    go_ret
    have hb2 := heap_setCell_same _ _ 0 _ _ (.slice (some ⟨g, 0, none⟩) (st.length + 1) cap) (unhide HB1)
    refine ⟨ret_int (by omega), g, cap, ((unhide HFR).set (.inl (by simp)) _ _).set (.inl (by simp [Value.ownBlock])) _ _ |>.drew, ?_, ?_, ?_, ?_⟩
    · rcases unhide HL with h | h
      · exact .inl h
      · exact .inr (by omega)
    · show (World.setCell _ _ _).heap[gM]? = _
      rw [Below.heap_setCell _ _ _ _ (fun e => hng e.symm)]
      exact hb2
    · have h1 : NRow (w1.setCell ⟨gM, 0, none⟩ (.slice (some ⟨g, 0, none⟩) (st.length + 1) cap)) B (.slice (some ⟨g, 0, none⟩) (st.length + 1) cap) (st ++ [s]) := own_set_any (NRow.of (unhide HO)) (unhide HB1) (by decide) _ _
      exact Fr.own (Fr.ofSet _ gn s _) h1 (fun q hq hm => by simp [Value.ownBlock] at hq hm; exact unhide HGN2 (by omega))
    · have h1 : NRow (w1.setCell ⟨gM, 0, none⟩ (.slice (some ⟨g, 0, none⟩) (st.length + 1) cap)) B (.slice (some ⟨gn, 0, none⟩) nus.length capn) nus := own_set_any (unhide HN1) (unhide HB1) (by decide) _ _
      have h2 := NRow.put h1 s (st.length + 1)
      have hl : (nus.set s (st.length + 1)).length = nus.length := List.length_set
      exact h2

end Go.Proofs.Ytohefinejdfhaab
