/-
  The document's answer: read, branch and atom together; tree; weight.
  The document's answer: Pattern. The law Patterns, where the document's answer agrees.
-/
import Derived.Test.YtobfpgoepaeknaaT19
import Derived.Test.YtobfpgoepaeknaaT09
import Derived.Test.YtobfpgoepaeknaaT00
namespace Go.Proofs.Ytobfpgoepaeknaa
open Go.RowKit

theorem tree_all : ∀ n, DoesT 47 0 n ∧ DoesT 67 2 n ∧ DoesT 87 4 n := by
  intro n
  induction n using Nat.strongRecOn with
  | _ n ih => exact ⟨read_of n (fun m hm => (ih m hm).1) (fun m hm => (ih m hm).2.1), branch_of n (fun m hm => (ih m hm).2.1) (fun m hm => (ih m hm).2.2), atom_of n (fun m hm => (ih m hm).1)⟩

set_option maxHeartbeats 400000 in
theorem tree_any (p : ByteArray) (w : World) (n : Nat) (r : List Rn × Int) (hp : p.size ≤ 60) (hr : r.1.length ≤ 1000) (h : rfF n 0 p 0 0 [] = some r) :
    Calls Try.prog 30 #[.string p] w fun e w' => e = .returned (.tuple #[.pointer (some ⟨w.heap.size, 0, none⟩), .int .i64 r.2]) ∧ Below w.heap.size w w' ∧ RtS w' w.heap.size r.1 := by
  have R0 : RtS (w.alloc (Obj.cells #[.slice none 0 0] 93)) w.heap.size [] := ⟨.slice none 0 0, heap_alloc_new w _, World.ownsRow_nil _ _ _ _⟩
  have HC := hide ((tree_all n).1 p [] r _ _ hp hr h R0)
  have HB : Hid (Below w.heap.size w (w.alloc (Obj.cells #[.slice none 0 0] 93))) := (Below.refl _ _).alloc (Nat.le_refl _) _
  clear h R0
  go_enter Try.func30, Try.ntmps30
  go_wp2_with fail
  refine (unhide HC).mono ?_
  rintro e w1 ⟨rfl, hw1⟩
  go_wp2
  go_ret2
  exact ⟨rfl, (unhide HB).trans hw1.1, hw1.2⟩

theorem rn_cells {w : World} {B g cap : Nat} {rs : List Rn} (h : w.ownsRow B 95 261 (.slice (some ⟨g, 0, none⟩) rs.length cap) rs.length (rnCells rs)) (k : Nat) (r : Rn) (hk : rs[k]? = some r) :
    ∀ j v, (rnA r).toList[j]? = some v → w.cell? ((⟨g, k * 261, none⟩ : Addr).add j) = some v := by
  have key : ∀ (l : List Rn) (k : Nat) (j : Nat) (v : Value), l[k]? = some r → (rnA r).toList[j]? = some v → (rnCells l)[k * 261 + j]? = some v := by
    intro l
    induction l with
    | nil => intro k j v h; simp at h
    | cons a l ih =>
      intro k j v h hv
      have e : rnCells (a :: l) = (rnA a).toList ++ rnCells l := by simp [rnCells]
      rw [e]
      have hl : (rnA a).toList.length = 261 := by rw [Array.length_toList, size_rnA]
      have hj : j < 261 := by
        have := (List.getElem?_eq_some_iff.1 hv).1
        rwa [Array.length_toList, size_rnA] at this
      cases k with
      | zero =>
        simp only [List.getElem?_cons_zero, Option.some.injEq] at h
        subst h
        rw [List.getElem?_append_left (by rw [hl]; omega), Nat.zero_mul, Nat.zero_add]
        exact hv
      | succ k =>
        rw [List.getElem?_append_right (by rw [hl]; omega), hl]
        have := ih k j v (by simpa using h) hv
        rw [show (k + 1) * 261 + j - 261 = k * 261 + j from by omega]
        exact this
  intro j v hv
  have h1 := key rs k j v hk hv
  have h2 := h.cells (g := g) rfl _ _ h1
  have hadd : (⟨g, 0, none⟩ : Addr).add (k * 261 + j) = (⟨g, k * 261, none⟩ : Addr).add j := by unfold Addr.add; split <;> split <;> simp_all
  rwa [hadd] at h2

theorem rnA_fields (r : Rn) : (rnA r)[0]? = some (.int .i64 r.kind) ∧ (rnA r)[1]? = some (.int .i64 r.l) ∧ (rnA r)[2]? = some (.int .i64 r.r) ∧ (rnA r)[3]? = some (.int .i64 r.m) ∧ (rnA r)[4]? = some (.int .i64 r.n) := by
  unfold rnA
  refine ⟨?_, ?_, ?_, ?_, ?_⟩ <;> (rw [Array.getElem?_append_left (by simp)]; rfl)

set_option maxRecDepth 20000 in
set_option maxHeartbeats 2000000 in
theorem weight_any (rs : List Rn) (hl : rs.length ≤ 1000) (b : Nat) : ∀ (n : Nat) (k v : Int) (w : World), RtS w b rs → wF rs n k = some v →
    Calls Try.prog 46 #[.pointer (some ⟨b, 0, none⟩), .int .i64 k] w fun e w' => e = .returned (.int .i64 v) ∧ Below w.heap.size w w' := by
  intro n
  induction n with
  | zero => intro k v w _ h; simp [wF] at h
  | succ n ih =>
    intro k v w hb h
    have hl' : (rs.length : Int) ≤ 1000 := by omega
    simp only [wF] at h
    have hk0 : 0 ≤ k := by
      by_cases hk0 : 0 ≤ k
      · exact hk0
      · rw [if_neg hk0] at h; cases h
    rw [if_pos hk0, Option.bind_eq_some_iff] at h
    obtain ⟨r, hr, h⟩ := h
    obtain ⟨kn, rfl⟩ := Int.eq_ofNat_of_zero_le hk0
    rw [Int.toNat_natCast] at hr
    have hkl : kn < rs.length := (List.getElem?_eq_some_iff.1 hr).1
    have hkl' : (kn : Int) < (rs.length : Int) := by omega
    obtain ⟨vv, h1, h2⟩ := hb
    obtain ⟨m, hm⟩ : ∃ m, rs.length = m + 1 := ⟨rs.length - 1, by omega⟩
    obtain ⟨g, cap, rfl⟩ : ∃ g cap, vv = .slice (some ⟨g, 0, none⟩) rs.length cap := by
      rw [hm] at h2 ⊢; exact own_form h2
    have c0 : w.cell? ⟨b, 0, none⟩ = some (.slice (some ⟨g, 0, none⟩) rs.length cap) := by rw [cell_of_row _ _ _ _ _ _ h1]; rfl
    have HL := hide (rn_cells h2 kn r hr)
    have HRT : Hid (RtS w b rs) := ⟨_, h1, h2⟩
    have IH := hide ih
    have HN1 := hide (heap_alloc_new w (Obj.cells Try.zeroCells95 95))
    have hbt : Below w.heap.size w ((w.alloc (Obj.cells Try.zeroCells95 95)).setRow w.heap.size (rnA r)) := below_setRow ((Below.refl _ _).alloc (Nat.le_refl _) _) (Nat.le_refl _) _
    have HBT := hide hbt
    have HRT2 := hide (RtS_below (unhide HRT) hbt)
    have hN2 := setRow_heap _ _ _ (rnA r) _ _ (unhide HN1)
    obtain ⟨y0, y1, y2, y3, y4⟩ := rnA_fields r
    have x0 : ((w.alloc (Obj.cells Try.zeroCells95 95)).setRow w.heap.size (rnA r)).cell? ⟨w.heap.size, 0, none⟩ = some (.int .i64 r.kind) := by rw [cell_of_row _ _ _ _ _ _ hN2]; exact y0
    have x1 : ((w.alloc (Obj.cells Try.zeroCells95 95)).setRow w.heap.size (rnA r)).cell? ⟨w.heap.size, 1, none⟩ = some (.int .i64 r.l) := by rw [cell_of_row _ _ _ _ _ _ hN2]; exact y1
    have x2 : ((w.alloc (Obj.cells Try.zeroCells95 95)).setRow w.heap.size (rnA r)).cell? ⟨w.heap.size, 2, none⟩ = some (.int .i64 r.r) := by rw [cell_of_row _ _ _ _ _ _ hN2]; exact y2
    have x4 : ((w.alloc (Obj.cells Try.zeroCells95 95)).setRow w.heap.size (rnA r)).cell? ⟨w.heap.size, 4, none⟩ = some (.int .i64 r.n) := by rw [cell_of_row _ _ _ _ _ _ hN2]; exact y4
    clear hbt hN2 y0 y1 y2 y3 y4 h1 h2 hr ih hm hkl hk0
    have hlt : w.heap.size < ((w.alloc (Obj.cells Try.zeroCells95 95)).setRow w.heap.size (rnA r)).heap.size := by simp
    by_cases c1 : (r.kind == 1) = true
    · rw [if_pos (by rw [c1]; rfl)] at h
      simp only [Option.some.injEq] at h
      subst h
      go_enter Try.func46, Try.ntmps46
      go_wp2_with (first
        | refine wpList_load_mid rfl 95 _ rfl ⟨g, kn * 261, none⟩ rfl (rnA r) (unhide HL) _ Try.underlying95 rfl (by rw [size_rnA]; exact info78) ?_
        | refine wpList_store_row0 rfl 95 _ _ rfl rfl w.heap.size _ rfl rfl 95 _ (unhide HN1) (by rw [size_rnA]; exact info78) (by rw [zero78, size_rnA, size_rnA]) (rnA_one _) ?_)
      go_ret
      exact ⟨rfl, unhide HBT⟩
    · have c1' : (r.kind == 1) = false := by simpa using c1
      clear c1
      by_cases c2 : (r.kind == 2) = true
      · rw [if_pos (by rw [c1', c2]; rfl)] at h
        simp only [Option.some.injEq] at h
        subst h
        go_enter Try.func46, Try.ntmps46
        go_wp2_with (first
          | refine wpList_load_mid rfl 95 _ rfl ⟨g, kn * 261, none⟩ rfl (rnA r) (unhide HL) _ Try.underlying95 rfl (by rw [size_rnA]; exact info78) ?_
          | refine wpList_store_row0 rfl 95 _ _ rfl rfl w.heap.size _ rfl rfl 95 _ (unhide HN1) (by rw [size_rnA]; exact info78) (by rw [zero78, size_rnA, size_rnA]) (rnA_one _) ?_)
        go_ret
        exact ⟨rfl, unhide HBT⟩
      · have c2' : (r.kind == 2) = false := by simpa using c2
        clear c2
        rw [if_neg (by rw [c1', c2']; simp), Option.bind_eq_some_iff] at h
        obtain ⟨a, ha, h⟩ := h
        have HA := hide ha
        clear ha
        by_cases c34 : (r.kind == 3 || r.kind == 4) = true
        · rw [if_pos c34, Option.bind_eq_some_iff] at h
          obtain ⟨c, hc, h⟩ := h
          have hbd : 0 ≤ a ∧ 0 ≤ c ∧ a ≤ wTop ∧ c ≤ wTop := by
            by_cases hbd : 0 ≤ a ∧ 0 ≤ c ∧ a ≤ wTop ∧ c ≤ wTop
            · exact hbd
            · rw [if_neg hbd] at h; cases h
          rw [if_pos hbd] at h
          simp only [Option.some.injEq] at h
          subst h
          have HC := hide hc
          have t1 : 0 ≤ a + c := by omega
          have t2 : a + c ≤ 4611686018427387904 := by have := hbd.2.2; unfold wTop at this; omega
          clear hc hbd
          by_cases c3 : (r.kind == 3) = true
          · clear c34
            go_enter Try.func46, Try.ntmps46
            go_wp2_with (first
              | refine wpList_load_mid rfl 95 _ rfl ⟨g, kn * 261, none⟩ rfl (rnA r) (unhide HL) _ Try.underlying95 rfl (by rw [size_rnA]; exact info78) ?_
              | refine wpList_store_row0 rfl 95 _ _ rfl rfl w.heap.size _ rfl rfl 95 _ (unhide HN1) (by rw [size_rnA]; exact info78) (by rw [zero78, size_rnA, size_rnA]) (rnA_one _) ?_)
            refine (unhide IH r.l a _ (unhide HRT2) (unhide HA)).mono ?_
            rintro e w1 ⟨rfl, hw1⟩
            have z0 := (hw1.cell (p := ⟨w.heap.size, 0, none⟩) hlt).trans x0
            have z2 := (hw1.cell (p := ⟨w.heap.size, 2, none⟩) hlt).trans x2
            have z4 := (hw1.cell (p := ⟨w.heap.size, 4, none⟩) hlt).trans x4
            have HB1 := hide ((unhide HBT).trans (hw1.mono (Nat.le_of_lt hlt)))
            have HRT3 := hide (RtS_below (unhide HRT2) hw1)
            clear x0 x1 x2 x4 hw1
            go_wp2_with fail
            refine (unhide IH r.r c _ (unhide HRT3) (unhide HC)).mono ?_
            rintro e w2 ⟨rfl, hw2⟩
            go_wp2
            go_ret
            exact ⟨rfl, (unhide HB1).trans (hw2.mono (unhide HB1).size)⟩
          · have c3' : (r.kind == 3) = false := by simpa using c3
            have c4 : (r.kind == 4) = true := by rw [c3'] at c34; simpa using c34
            clear c34 c3
            go_enter Try.func46, Try.ntmps46
            go_wp2_with (first
              | refine wpList_load_mid rfl 95 _ rfl ⟨g, kn * 261, none⟩ rfl (rnA r) (unhide HL) _ Try.underlying95 rfl (by rw [size_rnA]; exact info78) ?_
              | refine wpList_store_row0 rfl 95 _ _ rfl rfl w.heap.size _ rfl rfl 95 _ (unhide HN1) (by rw [size_rnA]; exact info78) (by rw [zero78, size_rnA, size_rnA]) (rnA_one _) ?_)
            refine (unhide IH r.l a _ (unhide HRT2) (unhide HA)).mono ?_
            rintro e w1 ⟨rfl, hw1⟩
            have z0 := (hw1.cell (p := ⟨w.heap.size, 0, none⟩) hlt).trans x0
            have z2 := (hw1.cell (p := ⟨w.heap.size, 2, none⟩) hlt).trans x2
            have z4 := (hw1.cell (p := ⟨w.heap.size, 4, none⟩) hlt).trans x4
            have HB1 := hide ((unhide HBT).trans (hw1.mono (Nat.le_of_lt hlt)))
            have HRT3 := hide (RtS_below (unhide HRT2) hw1)
            clear x0 x1 x2 x4 hw1
            go_wp2_with fail
            refine (unhide IH r.r c _ (unhide HRT3) (unhide HC)).mono ?_
            rintro e w2 ⟨rfl, hw2⟩
            go_wp2
            go_ret
            exact ⟨rfl, (unhide HB1).trans (hw2.mono (unhide HB1).size)⟩
        · rw [if_neg c34] at h
          have c3' : (r.kind == 3) = false := by revert c34; cases (r.kind == 3) <;> simp
          have c4' : (r.kind == 4) = false := by revert c34; cases (r.kind == 4) <;> simp
          clear c34
          by_cases c8 : (r.kind == 8) = true
          · rw [if_pos c8] at h
            have hbd : 0 ≤ a * r.n ∧ a * r.n ≤ wTop := by
              by_cases hbd : 0 ≤ a * r.n ∧ a * r.n ≤ wTop
              · exact hbd
              · rw [if_neg hbd] at h; cases h
            rw [if_pos hbd] at h
            simp only [Option.some.injEq] at h
            have t1 : 0 ≤ a * r.n := hbd.1
            have t2 : a * r.n ≤ 4611686018427387904 := by have := hbd.2; unfold wTop at this; omega
            clear hbd
            by_cases hz : a * r.n < 1
            · rw [if_pos hz] at h
              subst h
              go_enter Try.func46, Try.ntmps46
              go_wp2_with (first
                | refine wpList_load_mid rfl 95 _ rfl ⟨g, kn * 261, none⟩ rfl (rnA r) (unhide HL) _ Try.underlying95 rfl (by rw [size_rnA]; exact info78) ?_
                | refine wpList_store_row0 rfl 95 _ _ rfl rfl w.heap.size _ rfl rfl 95 _ (unhide HN1) (by rw [size_rnA]; exact info78) (by rw [zero78, size_rnA, size_rnA]) (rnA_one _) ?_)
              refine (unhide IH r.l a _ (unhide HRT2) (unhide HA)).mono ?_
              rintro e w1 ⟨rfl, hw1⟩
              have z0 := (hw1.cell (p := ⟨w.heap.size, 0, none⟩) hlt).trans x0
              have z2 := (hw1.cell (p := ⟨w.heap.size, 2, none⟩) hlt).trans x2
              have z4 := (hw1.cell (p := ⟨w.heap.size, 4, none⟩) hlt).trans x4
              have HB1 := hide ((unhide HBT).trans (hw1.mono (Nat.le_of_lt hlt)))
              have HRT3 := hide (RtS_below (unhide HRT2) hw1)
              clear x0 x1 x2 x4 hw1
              go_wp2
              go_ret
              exact ⟨rfl, unhide HB1⟩
            · rw [if_neg hz] at h
              subst h
              have hz' : 1 ≤ a * r.n := by omega
              clear hz
              go_enter Try.func46, Try.ntmps46
              go_wp2_with (first
                | refine wpList_load_mid rfl 95 _ rfl ⟨g, kn * 261, none⟩ rfl (rnA r) (unhide HL) _ Try.underlying95 rfl (by rw [size_rnA]; exact info78) ?_
                | refine wpList_store_row0 rfl 95 _ _ rfl rfl w.heap.size _ rfl rfl 95 _ (unhide HN1) (by rw [size_rnA]; exact info78) (by rw [zero78, size_rnA, size_rnA]) (rnA_one _) ?_)
              refine (unhide IH r.l a _ (unhide HRT2) (unhide HA)).mono ?_
              rintro e w1 ⟨rfl, hw1⟩
              have z0 := (hw1.cell (p := ⟨w.heap.size, 0, none⟩) hlt).trans x0
              have z2 := (hw1.cell (p := ⟨w.heap.size, 2, none⟩) hlt).trans x2
              have z4 := (hw1.cell (p := ⟨w.heap.size, 4, none⟩) hlt).trans x4
              have HB1 := hide ((unhide HBT).trans (hw1.mono (Nat.le_of_lt hlt)))
              have HRT3 := hide (RtS_below (unhide HRT2) hw1)
              clear x0 x1 x2 x4 hw1
              go_wp2
              go_ret
              exact ⟨rfl, unhide HB1⟩
          · rw [if_neg c8] at h
            have c8' : (r.kind == 8) = false := by simpa using c8
            clear c8
            simp only [Option.some.injEq] at h
            subst h
            go_enter Try.func46, Try.ntmps46
            go_wp2_with (first
              | refine wpList_load_mid rfl 95 _ rfl ⟨g, kn * 261, none⟩ rfl (rnA r) (unhide HL) _ Try.underlying95 rfl (by rw [size_rnA]; exact info78) ?_
              | refine wpList_store_row0 rfl 95 _ _ rfl rfl w.heap.size _ rfl rfl 95 _ (unhide HN1) (by rw [size_rnA]; exact info78) (by rw [zero78, size_rnA, size_rnA]) (rnA_one _) ?_)
            refine (unhide IH r.l a _ (unhide HRT2) (unhide HA)).mono ?_
            rintro e w1 ⟨rfl, hw1⟩
            have z0 := (hw1.cell (p := ⟨w.heap.size, 0, none⟩) hlt).trans x0
            have z2 := (hw1.cell (p := ⟨w.heap.size, 2, none⟩) hlt).trans x2
            have z4 := (hw1.cell (p := ⟨w.heap.size, 4, none⟩) hlt).trans x4
            have HB1 := hide ((unhide HBT).trans (hw1.mono (Nat.le_of_lt hlt)))
            have HRT3 := hide (RtS_below (unhide HRT2) hw1)
            clear x0 x1 x2 x4 hw1
            go_wp2
            go_ret
            exact ⟨rfl, unhide HB1⟩

end Go.Proofs.Ytobfpgoepaeknaa
namespace Go.Proofs.Ytobfpgoepaeknaa
open Go.RowKit

set_option maxHeartbeats 400000 in
theorem RefPattern_long (w : World) (t : ByteArray) (ht : 60 < t.size) :
    Calls Try.prog 29 #[.string t] w fun e w' => e = .returned (.tuple #[.int .i64 1, .int .i64 0]) ∧ Below w.heap.size w w' := by
  have ht' : (60 : Int) < (t.size : Int) := by omega
  go_enter Try.func29, Try.ntmps29
  go_wp2
  go_ret2
  exact ⟨rfl, Below.refl _ _⟩

theorem below_trans' {w w1 w2 : World} (h : Below w.heap.size w w1) (k : Below w1.heap.size w1 w2) : Below w.heap.size w w2 := h.trans (k.mono h.size)

set_option maxHeartbeats 1000000 in
theorem RefPattern_any (w : World) (t : ByteArray) (y : St) (ht : t.size ≤ 60) (h : RefOk t y) :
    Calls Try.prog 29 #[.string t] w fun e w' => e = .returned (.tuple #[.int .i64 (readErr t y).1, .int .i64 (readErr t y).2]) ∧ Below w.heap.size w w' := by
  have ht' : (t.size : Int) ≤ 60 := by omega
  have HP := hide (place_any w t ht)
  by_cases hb : y.s.bad = true ∨ y.s.k < t.size
  · have hp := h.1 hb
    have he := readErr_bad hb
    rw [he]
    have hp0 : 0 ≤ placeS t := by rw [hp]; omega
    have HE := hide hp
    clear h hb he hp
    generalize placeS t = pl at *
    go_enter Try.func29, Try.ntmps29
    go_wp2_with fail
    refine (unhide HP).mono ?_
    rintro e w1 ⟨rfl, hw1⟩
    go_wp2
    go_ret2
    exact ⟨by rw [← unhide HE]; rfl, hw1⟩
  · obtain ⟨hp, n, r, m, W, h1, h2, h3, h4⟩ := h.2 hb
    have hb1 : y.s.bad = false := by
      cases hbb : y.s.bad
      · rfl
      · exact absurd (Or.inl hbb) hb
    have hb2 : ¬ y.s.k < t.size := fun hh => hb (Or.inr hh)
    have HT := hide (fun w1 => tree_any t w1 n r ht h2 h1)
    have HW := hide (fun b w1 hrt => weight_any r.1 h2 b m r.2 W w1 hrt h3)
    have hpn : placeS t < 0 := by rw [hp]; omega
    clear hp h1 h2 h3 h hb
    generalize placeS t = pl at *
    by_cases hbig : 12 < W
    · have he := readErr_big (t := t) (y := y) hb1 hb2 (by rw [h4]; split <;> omega)
      rw [he]
      clear he h4
      go_enter Try.func29, Try.ntmps29
      go_wp2_with fail
      refine (unhide HP).mono ?_
      rintro e w1 ⟨rfl, hw1⟩
      go_wp2_with fail
      refine (unhide HT w1).mono ?_
      rintro e w2 ⟨rfl, hw2, hr2⟩
      go_wp2_with fail
      refine (unhide HW _ w2 hr2).mono ?_
      rintro e w3 ⟨rfl, hw3⟩
      go_wp2
      go_ret2
      exact ⟨rfl, below_trans' (below_trans' hw1 hw2) hw3⟩
    · have h5 : lastW (weighAll y.ns) = W := by rw [h4]; split <;> omega
      have he := readErr_ok (t := t) (y := y) hb1 hb2 (by rw [h5]; exact hbig)
      rw [he, h5]
      have hbig' : W ≤ 12 := by omega
      clear he h4 h5 hbig
      go_enter Try.func29, Try.ntmps29
      go_wp2_with fail
      refine (unhide HP).mono ?_
      rintro e w1 ⟨rfl, hw1⟩
      go_wp2_with fail
      refine (unhide HT w1).mono ?_
      rintro e w2 ⟨rfl, hw2, hr2⟩
      go_wp2_with fail
      refine (unhide HW _ w2 hr2).mono ?_
      rintro e w3 ⟨rfl, hw3⟩
      go_wp2
      go_ret2
      exact ⟨rfl, below_trans' (below_trans' hw1 hw2) hw3⟩

set_option maxHeartbeats 400000 in
theorem num_any (n : Int) (w : World) : Calls Try.prog 10 #[.int .i64 n] w fun e w' => e = .returned (.int .i64 n) ∧ w' = w := by
  go_enter Try.func10, Try.ntmps10
  go_wp2
  go_ret
  exact ⟨rfl, rfl⟩


end Go.Proofs.Ytobfpgoepaeknaa
