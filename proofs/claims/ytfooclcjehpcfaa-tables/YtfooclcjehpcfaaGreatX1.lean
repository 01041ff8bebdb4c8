/-
  The document's answer: a node that says this is found, or put; does a part match the empty string?
  The document's answer: what a call leaves as it was while the tree grows; sets of terms: with.
-/
import Derived.Test.YtfooclcjehpcfaaGreatC9
import Derived.Test.YtfooclcjehpcfaaGreatZ1
import Derived.Deep.AppendLies
namespace Go.Proofs.YtfooclcjehpcfaaGreat
open Go.RowKit

theorem nd_begin {w : World} {b : Nat} {rs : List Rn} {kn : Nat} {r : Rn} (hb : RtS w b rs) (hr : rs[kn]? = some r) :
    ∃ g cap : Nat, (kn : Int) < (rs.length : Int) ∧ w.cell? ⟨b, 0, none⟩ = some (.slice (some ⟨g, 0, none⟩) rs.length cap) ∧ (∀ j v, (rnA r).toList[j]? = some v → w.cell? ((⟨g, kn * 261, none⟩ : Addr).add j) = some v) := by
  have hkl : kn < rs.length := (List.getElem?_eq_some_iff.1 hr).1
  obtain ⟨vv, h1, h2⟩ := hb
  obtain ⟨m, hm⟩ : ∃ m, rs.length = m + 1 := ⟨rs.length - 1, by omega⟩
  obtain ⟨g, cap, rfl⟩ : ∃ g cap, vv = .slice (some ⟨g, 0, none⟩) rs.length cap := by
    rw [hm] at h2 ⊢; exact own_form h2
  exact ⟨g, cap, by omega, by rw [cell_of_row _ _ _ _ _ _ h1]; rfl, rn_cells h2 kn r hr⟩
theorem nd_cells (w : World) (r : Rn) : ((w.alloc (Obj.cells Tryz.zeroCells110 110)).setRow w.heap.size (rnA r)).cell? ⟨w.heap.size, 0, none⟩ = some (.int .i64 r.kind) ∧ ((w.alloc (Obj.cells Tryz.zeroCells110 110)).setRow w.heap.size (rnA r)).cell? ⟨w.heap.size, 1, none⟩ = some (.int .i64 r.l) ∧ ((w.alloc (Obj.cells Tryz.zeroCells110 110)).setRow w.heap.size (rnA r)).cell? ⟨w.heap.size, 2, none⟩ = some (.int .i64 r.r) ∧ ((w.alloc (Obj.cells Tryz.zeroCells110 110)).setRow w.heap.size (rnA r)).cell? ⟨w.heap.size, 3, none⟩ = some (.int .i64 r.m) ∧ ((w.alloc (Obj.cells Tryz.zeroCells110 110)).setRow w.heap.size (rnA r)).cell? ⟨w.heap.size, 4, none⟩ = some (.int .i64 r.n) := by
  have hN2 := setRow_heap _ _ _ (rnA r) _ _ (heap_alloc_new w (Obj.cells Tryz.zeroCells110 110))
  obtain ⟨y0, y1, y2, y3, y4⟩ := rnA_fields r
  refine ⟨?_, ?_, ?_, ?_, ?_⟩ <;> rw [cell_of_row _ _ _ _ _ _ hN2]
  · exact y0
  · exact y1
  · exact y2
  · exact y3
  · exact y4

set_option maxRecDepth 20000 in
set_option maxHeartbeats 4000000 in
theorem empty_any (rs : List Rn) (hl : rs.length ≤ 1000) (b : Nat) : ∀ (R : Re) (k : Int) (w : World), RtS w b rs → Dr rs R k →
    Calls Tryz.prog 25 #[.pointer (some ⟨b, 0, none⟩), .int .i64 k] w fun e w' => e = .returned (.bool (nulB R)) ∧ Below w.heap.size w w' := by
  intro R
  induction R with
  | blank =>
    intro k w hb hd
    obtain ⟨r, h0, h1, hk⟩ := hd
    have hl' : (rs.length : Int) ≤ 1000 := by omega
    obtain ⟨kn, rfl⟩ := Int.eq_ofNat_of_zero_le h0
    rw [Int.toNat_natCast] at h1
    obtain ⟨g, cap, hkl', c0, hc⟩ := nd_begin hb h1
    have HL := hide hc
    have HN1 := hide (heap_alloc_new w (Obj.cells Tryz.zeroCells110 110))
    have hbt : Below w.heap.size w ((w.alloc (Obj.cells Tryz.zeroCells110 110)).setRow w.heap.size (rnA r)) := below_setRow ((Below.refl _ _).alloc (Nat.le_refl _) _) (Nat.le_refl _) _
    have HBT := hide hbt
    have HRT2 := hide (RtS_below hb hbt)
    obtain ⟨x0, x1, x2, x3, x4⟩ := nd_cells w r
    rw [hk] at x0
    have hlt : w.heap.size < ((w.alloc (Obj.cells Tryz.zeroCells110 110)).setRow w.heap.size (rnA r)).heap.size := by simp
    clear hbt hb h1 h0 hc
    go_enter Tryz.func25, Tryz.ntmps25
    go_wp2_with (first
      | refine wpList_load_mid rfl 110 _ rfl ⟨g, kn * 261, none⟩ rfl (rnA r) (unhide HL) _ Tryz.underlying110 rfl (by rw [size_rnA]; exact info78) ?_
      | refine wpList_store_row0 rfl 110 _ _ rfl rfl w.heap.size _ rfl rfl 110 _ (unhide HN1) (by rw [size_rnA]; exact info78) (by rw [zero78, size_rnA, size_rnA]) (rnA_one _) ?_)
    go_ret
    exact ⟨rfl, unhide HBT⟩
  | set f =>
    intro k w hb hd
    obtain ⟨r, h0, h1, hk, _⟩ := hd
    have hl' : (rs.length : Int) ≤ 1000 := by omega
    obtain ⟨kn, rfl⟩ := Int.eq_ofNat_of_zero_le h0
    rw [Int.toNat_natCast] at h1
    obtain ⟨g, cap, hkl', c0, hc⟩ := nd_begin hb h1
    have HL := hide hc
    have HN1 := hide (heap_alloc_new w (Obj.cells Tryz.zeroCells110 110))
    have hbt : Below w.heap.size w ((w.alloc (Obj.cells Tryz.zeroCells110 110)).setRow w.heap.size (rnA r)) := below_setRow ((Below.refl _ _).alloc (Nat.le_refl _) _) (Nat.le_refl _) _
    have HBT := hide hbt
    have HRT2 := hide (RtS_below hb hbt)
    obtain ⟨x0, x1, x2, x3, x4⟩ := nd_cells w r
    rw [hk] at x0
    have hlt : w.heap.size < ((w.alloc (Obj.cells Tryz.zeroCells110 110)).setRow w.heap.size (rnA r)).heap.size := by simp
    clear hbt hb h1 h0 hc
    go_enter Tryz.func25, Tryz.ntmps25
    go_wp2_with (first
      | refine wpList_load_mid rfl 110 _ rfl ⟨g, kn * 261, none⟩ rfl (rnA r) (unhide HL) _ Tryz.underlying110 rfl (by rw [size_rnA]; exact info78) ?_
      | refine wpList_store_row0 rfl 110 _ _ rfl rfl w.heap.size _ rfl rfl 110 _ (unhide HN1) (by rw [size_rnA]; exact info78) (by rw [zero78, size_rnA, size_rnA]) (rnA_one _) ?_)
    go_ret
    exact ⟨rfl, unhide HBT⟩
  | seq a c iha ihb =>
    intro k w hb hd
    obtain ⟨r, h0, h1, hk, ha, hb2⟩ := hd
    have IHA := hide iha
    have HDA := hide ha
    have IHB := hide ihb
    have HDB := hide hb2
    have hl' : (rs.length : Int) ≤ 1000 := by omega
    obtain ⟨kn, rfl⟩ := Int.eq_ofNat_of_zero_le h0
    rw [Int.toNat_natCast] at h1
    obtain ⟨g, cap, hkl', c0, hc⟩ := nd_begin hb h1
    have HL := hide hc
    have HN1 := hide (heap_alloc_new w (Obj.cells Tryz.zeroCells110 110))
    have hbt : Below w.heap.size w ((w.alloc (Obj.cells Tryz.zeroCells110 110)).setRow w.heap.size (rnA r)) := below_setRow ((Below.refl _ _).alloc (Nat.le_refl _) _) (Nat.le_refl _) _
    have HBT := hide hbt
    have HRT2 := hide (RtS_below hb hbt)
    obtain ⟨x0, x1, x2, x3, x4⟩ := nd_cells w r
    rw [hk] at x0
    have hlt : w.heap.size < ((w.alloc (Obj.cells Tryz.zeroCells110 110)).setRow w.heap.size (rnA r)).heap.size := by simp
    clear hbt hb h1 h0 hc
    clear ha hb2 iha ihb
    go_enter Tryz.func25, Tryz.ntmps25
    go_wp2_with (first
      | refine wpList_load_mid rfl 110 _ rfl ⟨g, kn * 261, none⟩ rfl (rnA r) (unhide HL) _ Tryz.underlying110 rfl (by rw [size_rnA]; exact info78) ?_
      | refine wpList_store_row0 rfl 110 _ _ rfl rfl w.heap.size _ rfl rfl 110 _ (unhide HN1) (by rw [size_rnA]; exact info78) (by rw [zero78, size_rnA, size_rnA]) (rnA_one _) ?_)
    refine (unhide IHA _ _ (unhide HRT2) (unhide HDA)).mono ?_
    rintro e w1 ⟨rfl, hw1⟩
    have z0 := (hw1.cell (p := ⟨w.heap.size, 0, none⟩) hlt).trans x0
    have z2 := (hw1.cell (p := ⟨w.heap.size, 2, none⟩) hlt).trans x2
    have z3 := (hw1.cell (p := ⟨w.heap.size, 3, none⟩) hlt).trans x3
    have z4 := (hw1.cell (p := ⟨w.heap.size, 4, none⟩) hlt).trans x4
    have HB1 := hide ((unhide HBT).trans (hw1.mono (Nat.le_of_lt hlt)))
    have HRT3 := hide (RtS_below (unhide HRT2) hw1)
    clear x0 x1 x2 x3 x4 hw1
    go_wp2_with fail
    refine (unhide IHB _ _ (unhide HRT3) (unhide HDB)).mono ?_
    rintro e w2 ⟨rfl, hw2⟩
    have HB2 := hide ((unhide HB1).trans (hw2.mono (unhide HB1).size))
    clear hw2
    cases h1 : nulB a <;> cases h2 : nulB c
    all_goals
      go_wp2_with fail
      go_ret
      exact ⟨by simp [nulB, h1, h2], unhide HB2⟩
  | alt a c iha ihb =>
    intro k w hb hd
    obtain ⟨r, h0, h1, hk, ha, hb2⟩ := hd
    have IHA := hide iha
    have HDA := hide ha
    have IHB := hide ihb
    have HDB := hide hb2
    have hl' : (rs.length : Int) ≤ 1000 := by omega
    obtain ⟨kn, rfl⟩ := Int.eq_ofNat_of_zero_le h0
    rw [Int.toNat_natCast] at h1
    obtain ⟨g, cap, hkl', c0, hc⟩ := nd_begin hb h1
    have HL := hide hc
    have HN1 := hide (heap_alloc_new w (Obj.cells Tryz.zeroCells110 110))
    have hbt : Below w.heap.size w ((w.alloc (Obj.cells Tryz.zeroCells110 110)).setRow w.heap.size (rnA r)) := below_setRow ((Below.refl _ _).alloc (Nat.le_refl _) _) (Nat.le_refl _) _
    have HBT := hide hbt
    have HRT2 := hide (RtS_below hb hbt)
    obtain ⟨x0, x1, x2, x3, x4⟩ := nd_cells w r
    rw [hk] at x0
    have hlt : w.heap.size < ((w.alloc (Obj.cells Tryz.zeroCells110 110)).setRow w.heap.size (rnA r)).heap.size := by simp
    clear hbt hb h1 h0 hc
    clear ha hb2 iha ihb
    go_enter Tryz.func25, Tryz.ntmps25
    go_wp2_with (first
      | refine wpList_load_mid rfl 110 _ rfl ⟨g, kn * 261, none⟩ rfl (rnA r) (unhide HL) _ Tryz.underlying110 rfl (by rw [size_rnA]; exact info78) ?_
      | refine wpList_store_row0 rfl 110 _ _ rfl rfl w.heap.size _ rfl rfl 110 _ (unhide HN1) (by rw [size_rnA]; exact info78) (by rw [zero78, size_rnA, size_rnA]) (rnA_one _) ?_)
    refine (unhide IHA _ _ (unhide HRT2) (unhide HDA)).mono ?_
    rintro e w1 ⟨rfl, hw1⟩
    have z0 := (hw1.cell (p := ⟨w.heap.size, 0, none⟩) hlt).trans x0
    have z2 := (hw1.cell (p := ⟨w.heap.size, 2, none⟩) hlt).trans x2
    have z3 := (hw1.cell (p := ⟨w.heap.size, 3, none⟩) hlt).trans x3
    have z4 := (hw1.cell (p := ⟨w.heap.size, 4, none⟩) hlt).trans x4
    have HB1 := hide ((unhide HBT).trans (hw1.mono (Nat.le_of_lt hlt)))
    have HRT3 := hide (RtS_below (unhide HRT2) hw1)
    clear x0 x1 x2 x3 x4 hw1
    go_wp2_with fail
    refine (unhide IHB _ _ (unhide HRT3) (unhide HDB)).mono ?_
    rintro e w2 ⟨rfl, hw2⟩
    have HB2 := hide ((unhide HB1).trans (hw2.mono (unhide HB1).size))
    clear hw2
    cases h1 : nulB a <;> cases h2 : nulB c
    all_goals
      go_wp2_with fail
      go_ret
      exact ⟨by simp [nulB, h1, h2], unhide HB2⟩
  | star a iha =>
    intro k w hb hd
    obtain ⟨r, h0, h1, hk, _⟩ := hd
    have hl' : (rs.length : Int) ≤ 1000 := by omega
    obtain ⟨kn, rfl⟩ := Int.eq_ofNat_of_zero_le h0
    rw [Int.toNat_natCast] at h1
    obtain ⟨g, cap, hkl', c0, hc⟩ := nd_begin hb h1
    have HL := hide hc
    have HN1 := hide (heap_alloc_new w (Obj.cells Tryz.zeroCells110 110))
    have hbt : Below w.heap.size w ((w.alloc (Obj.cells Tryz.zeroCells110 110)).setRow w.heap.size (rnA r)) := below_setRow ((Below.refl _ _).alloc (Nat.le_refl _) _) (Nat.le_refl _) _
    have HBT := hide hbt
    have HRT2 := hide (RtS_below hb hbt)
    obtain ⟨x0, x1, x2, x3, x4⟩ := nd_cells w r
    rw [hk] at x0
    have hlt : w.heap.size < ((w.alloc (Obj.cells Tryz.zeroCells110 110)).setRow w.heap.size (rnA r)).heap.size := by simp
    clear hbt hb h1 h0 hc
    go_enter Tryz.func25, Tryz.ntmps25
    go_wp2_with (first
      | refine wpList_load_mid rfl 110 _ rfl ⟨g, kn * 261, none⟩ rfl (rnA r) (unhide HL) _ Tryz.underlying110 rfl (by rw [size_rnA]; exact info78) ?_
      | refine wpList_store_row0 rfl 110 _ _ rfl rfl w.heap.size _ rfl rfl 110 _ (unhide HN1) (by rw [size_rnA]; exact info78) (by rw [zero78, size_rnA, size_rnA]) (rnA_one _) ?_)
    go_ret
    exact ⟨rfl, unhide HBT⟩
  | plus a iha =>
    intro k w hb hd
    obtain ⟨r, h0, h1, hk, ha⟩ := hd
    have IHA := hide iha
    have HDA := hide ha
    have hl' : (rs.length : Int) ≤ 1000 := by omega
    obtain ⟨kn, rfl⟩ := Int.eq_ofNat_of_zero_le h0
    rw [Int.toNat_natCast] at h1
    obtain ⟨g, cap, hkl', c0, hc⟩ := nd_begin hb h1
    have HL := hide hc
    have HN1 := hide (heap_alloc_new w (Obj.cells Tryz.zeroCells110 110))
    have hbt : Below w.heap.size w ((w.alloc (Obj.cells Tryz.zeroCells110 110)).setRow w.heap.size (rnA r)) := below_setRow ((Below.refl _ _).alloc (Nat.le_refl _) _) (Nat.le_refl _) _
    have HBT := hide hbt
    have HRT2 := hide (RtS_below hb hbt)
    obtain ⟨x0, x1, x2, x3, x4⟩ := nd_cells w r
    rw [hk] at x0
    have hlt : w.heap.size < ((w.alloc (Obj.cells Tryz.zeroCells110 110)).setRow w.heap.size (rnA r)).heap.size := by simp
    clear hbt hb h1 h0 hc
    clear ha iha
    go_enter Tryz.func25, Tryz.ntmps25
    go_wp2_with (first
      | refine wpList_load_mid rfl 110 _ rfl ⟨g, kn * 261, none⟩ rfl (rnA r) (unhide HL) _ Tryz.underlying110 rfl (by rw [size_rnA]; exact info78) ?_
      | refine wpList_store_row0 rfl 110 _ _ rfl rfl w.heap.size _ rfl rfl 110 _ (unhide HN1) (by rw [size_rnA]; exact info78) (by rw [zero78, size_rnA, size_rnA]) (rnA_one _) ?_)
    refine (unhide IHA _ _ (unhide HRT2) (unhide HDA)).mono ?_
    rintro e w1 ⟨rfl, hw1⟩
    have z0 := (hw1.cell (p := ⟨w.heap.size, 0, none⟩) hlt).trans x0
    have z2 := (hw1.cell (p := ⟨w.heap.size, 2, none⟩) hlt).trans x2
    have z3 := (hw1.cell (p := ⟨w.heap.size, 3, none⟩) hlt).trans x3
    have z4 := (hw1.cell (p := ⟨w.heap.size, 4, none⟩) hlt).trans x4
    have HB1 := hide ((unhide HBT).trans (hw1.mono (Nat.le_of_lt hlt)))
    have HRT3 := hide (RtS_below (unhide HRT2) hw1)
    clear x0 x1 x2 x3 x4 hw1
    go_wp2_with fail
    go_ret
    exact ⟨rfl, unhide HB1⟩
  | opt a iha =>
    intro k w hb hd
    obtain ⟨r, h0, h1, hk, _⟩ := hd
    have hl' : (rs.length : Int) ≤ 1000 := by omega
    obtain ⟨kn, rfl⟩ := Int.eq_ofNat_of_zero_le h0
    rw [Int.toNat_natCast] at h1
    obtain ⟨g, cap, hkl', c0, hc⟩ := nd_begin hb h1
    have HL := hide hc
    have HN1 := hide (heap_alloc_new w (Obj.cells Tryz.zeroCells110 110))
    have hbt : Below w.heap.size w ((w.alloc (Obj.cells Tryz.zeroCells110 110)).setRow w.heap.size (rnA r)) := below_setRow ((Below.refl _ _).alloc (Nat.le_refl _) _) (Nat.le_refl _) _
    have HBT := hide hbt
    have HRT2 := hide (RtS_below hb hbt)
    obtain ⟨x0, x1, x2, x3, x4⟩ := nd_cells w r
    rw [hk] at x0
    have hlt : w.heap.size < ((w.alloc (Obj.cells Tryz.zeroCells110 110)).setRow w.heap.size (rnA r)).heap.size := by simp
    clear hbt hb h1 h0 hc
    go_enter Tryz.func25, Tryz.ntmps25
    go_wp2_with (first
      | refine wpList_load_mid rfl 110 _ rfl ⟨g, kn * 261, none⟩ rfl (rnA r) (unhide HL) _ Tryz.underlying110 rfl (by rw [size_rnA]; exact info78) ?_
      | refine wpList_store_row0 rfl 110 _ _ rfl rfl w.heap.size _ rfl rfl 110 _ (unhide HN1) (by rw [size_rnA]; exact info78) (by rw [zero78, size_rnA, size_rnA]) (rnA_one _) ?_)
    go_ret
    exact ⟨rfl, unhide HBT⟩
  | times m n a iha =>
    intro k w hb hd
    obtain ⟨r, h0, h1, hk, hm, hn, hm9, hn9, ha⟩ := hd
    have IHA := hide iha
    have HDA := hide ha
    have hl' : (rs.length : Int) ≤ 1000 := by omega
    obtain ⟨kn, rfl⟩ := Int.eq_ofNat_of_zero_le h0
    rw [Int.toNat_natCast] at h1
    obtain ⟨g, cap, hkl', c0, hc⟩ := nd_begin hb h1
    have HL := hide hc
    have HN1 := hide (heap_alloc_new w (Obj.cells Tryz.zeroCells110 110))
    have hbt : Below w.heap.size w ((w.alloc (Obj.cells Tryz.zeroCells110 110)).setRow w.heap.size (rnA r)) := below_setRow ((Below.refl _ _).alloc (Nat.le_refl _) _) (Nat.le_refl _) _
    have HBT := hide hbt
    have HRT2 := hide (RtS_below hb hbt)
    obtain ⟨x0, x1, x2, x3, x4⟩ := nd_cells w r
    rw [hk] at x0
    have hlt : w.heap.size < ((w.alloc (Obj.cells Tryz.zeroCells110 110)).setRow w.heap.size (rnA r)).heap.size := by simp
    clear hbt hb h1 h0 hc
    rw [hm] at x3
    rw [hn] at x4
    have hm9I : (m : Int) ≤ 9 := by omega
    have hn9I : (n : Int) ≤ 9 := by omega
    clear ha iha
    go_enter Tryz.func25, Tryz.ntmps25
    go_wp2_with (first
      | refine wpList_load_mid rfl 110 _ rfl ⟨g, kn * 261, none⟩ rfl (rnA r) (unhide HL) _ Tryz.underlying110 rfl (by rw [size_rnA]; exact info78) ?_
      | refine wpList_store_row0 rfl 110 _ _ rfl rfl w.heap.size _ rfl rfl 110 _ (unhide HN1) (by rw [size_rnA]; exact info78) (by rw [zero78, size_rnA, size_rnA]) (rnA_one _) ?_)
    refine (unhide IHA _ _ (unhide HRT2) (unhide HDA)).mono ?_
    rintro e w1 ⟨rfl, hw1⟩
    have z0 := (hw1.cell (p := ⟨w.heap.size, 0, none⟩) hlt).trans x0
    have z2 := (hw1.cell (p := ⟨w.heap.size, 2, none⟩) hlt).trans x2
    have z3 := (hw1.cell (p := ⟨w.heap.size, 3, none⟩) hlt).trans x3
    have z4 := (hw1.cell (p := ⟨w.heap.size, 4, none⟩) hlt).trans x4
    have HB1 := hide ((unhide HBT).trans (hw1.mono (Nat.le_of_lt hlt)))
    have HRT3 := hide (RtS_below (unhide HRT2) hw1)
    clear x0 x1 x2 x3 x4 hw1
    by_cases q1 : m ≤ n
    · have q1I : (m : Int) ≤ (n : Int) := by omega
      by_cases q2 : m = 0
      · subst q2
        go_wp2_with fail
        go_ret
        exact ⟨by simp [nulB], unhide HB1⟩
      · have q2I : ¬ (m : Int) = 0 := by omega
        have q3 : ((m : Int) == 0) = false := by simpa using q2
        have HQ : Hid (nulB (.times m n a) = nulB a) := by simp [nulB, q1, q2, Hid]
        clear q1 q2 hm9 hn9
        go_wp2_with fail
        go_ret
        exact ⟨by rw [unhide HQ]; first | rfl | (show Ending.returned (Value.bool (((m : Int) == 0) || nulB a)) = _; rw [q3]; rfl), unhide HB1⟩
    · have q1I : (n : Int) < (m : Int) := by omega
      have HQ : Hid (nulB (.times m n a) = false) := by simp [nulB, q1, Hid]
      clear q1 hm9 hn9
      go_wp2_with fail
      go_ret
      exact ⟨by rw [unhide HQ]; rfl, unhide HB1⟩

end Go.Proofs.YtfooclcjehpcfaaGreat
namespace Go.Proofs.YtfooclcjehpcfaaGreat
open Go.RowKit

/-- All blocks but those of trees and nodes are as they were. -/
structure Fz (b : Nat) (w w' : World) : Prop where
  below : Below b w w'
  keep : ∀ (k : Nat) (cs : Array Value) (ty : TypeId) (fr : Nat × Nat), w.heap[k]? = some (.cells cs ty fr) → ty ≠ 110 → ty ≠ 75 → w'.heap[k]? = some (.cells cs ty fr)
theorem Fz.refl (b : Nat) (w : World) : Fz b w w := ⟨Below.refl _ _, fun _ _ _ _ h _ _ => h⟩
theorem Fz.trans {b : Nat} {w w1 w2 : World} (h : Fz b w w1) (k : Fz b w1 w2) : Fz b w w2 := ⟨h.below.trans k.below, fun i cs ty fr hi h1 h2 => k.keep i cs ty fr (h.keep i cs ty fr hi h1 h2) h1 h2⟩
theorem Fz.ofBelow {b : Nat} {w w' : World} (h : Below w.heap.size w w') (hb : b ≤ w.heap.size) : Fz b w w' := ⟨h.mono hb, fun k cs ty fr hk _ _ => by rw [h.block k (Array.getElem?_eq_some_iff.1 hk).1]; exact hk⟩
theorem Fz.drew {b : Nat} {w w' : World} (h : Fz b w w') : Fz b w w'.drew := ⟨h.below.drew, h.keep⟩
theorem Fz.own {b : Nat} {w w' : World} (h : Fz b w w') {B e z : Nat} {v : Value} {n : Nat} {xs : List Value} (ho : w.ownsRow B e z v n xs) (h1 : e ≠ 110) (h2 : e ≠ 75) : w'.ownsRow B e z v n xs := by
  refine ⟨ho.1, ?_⟩
  rcases ho.2 with hl | ⟨g, cap, cur, rfl, q1, hg, rest⟩
  · exact .inl hl
  · exact .inr ⟨g, cap, cur, rfl, q1, h.keep _ _ _ _ hg h1 h2, rest⟩

theorem own_belowZ {w w' : World} {B e z : Nat} {v : Value} {n : Nat} {xs : List Value} (h : w.ownsRow B e z v n xs) (hb : Below w.heap.size w w') : w'.ownsRow B e z v n xs := by
  refine ⟨h.1, ?_⟩
  rcases h.2 with hl | ⟨g, cap, cur, rfl, q1, hg, rest⟩
  · exact .inl hl
  · exact .inr ⟨g, cap, cur, rfl, q1, by rw [hb.block g (Array.getElem?_eq_some_iff.1 hg).1]; exact hg, rest⟩
def strCells (X : List ByteArray) : List Value := X.map fun s => Value.string s
/-- A list of strings in memory. -/
def SRow (w : World) (B : Nat) (v : Value) (X : List ByteArray) : Prop := w.ownsRow B 9 1 v X.length (strCells X)
theorem SRow.zero {w : World} {B : Nat} {v : Value} {X : List ByteArray} (h : SRow w B v X) : SRow w 0 v X := ownsRow_less h (Nat.zero_le _)
theorem SRow.below {w w' : World} {B : Nat} {v : Value} {X : List ByteArray} (h : SRow w B v X) (hb : Below w.heap.size w w') : SRow w' B v X := own_belowZ h hb
theorem SRow.fz {b : Nat} {w w' : World} {B : Nat} {v : Value} {X : List ByteArray} (h : SRow w B v X) (hf : Fz b w w') : SRow w' B v X := hf.own h (by decide) (by decide)
theorem SRow.form {w : World} {B : Nat} {v : Value} {X : List ByteArray} (h : SRow w B v X) : (∃ a c, v = .slice a X.length c) := by
  rcases h.2 with ⟨rfl, h0⟩ | ⟨g, cap, cur, rfl, _⟩
  · exact ⟨none, 0, by rw [h0]⟩
  · exact ⟨_, _, rfl⟩
theorem SRow.of {w : World} {B : Nat} {v : Value} {X : List ByteArray} {s : ByteArray} (h : w.ownsRow B 9 1 v (X.length + 1) (strCells X ++ [.string s])) : SRow w B v (X ++ [s]) := by
  unfold SRow strCells
  rw [List.length_append, List.map_append]; exact h
theorem SRow.at {w : World} {B : Nat} {v : Value} {X : List ByteArray} (h : SRow w B v X) {k : Nat} (hk : k < X.length) : ∃ g cap, v = .slice (some ⟨g, 0, none⟩) X.length cap ∧ w.cell? ⟨g, k, none⟩ = some (.string (X.getD k ByteArray.empty)) := by
  rcases h.2 with ⟨rfl, h0⟩ | ⟨g, cap, cur, rfl, h1, hg, h2, h3, h4, h5⟩
  · omega
  · refine ⟨g, cap, rfl, ?_⟩
    rw [cell_of_row _ _ _ _ _ _ hg]
    have e : cur.toList[k]? = (strCells X)[k]? := by
      rw [← h5, List.getElem?_take, if_pos (by simp; omega)]
    rw [← Array.getElem?_toList, e, strCells, List.getElem?_map, List.getElem?_eq_getElem hk, List.getD_eq_getElem?_getD, List.getElem?_eq_getElem hk]; rfl
theorem infoStr : (Tryz.prog.info? 9).map (fun i => (i.zero, i.size, i.bytes)) = some (some (.string ⟨#[]⟩), 1, 16) := by kernel_rfl

theorem low_take {s : ByteArray} : ∀ {X : List ByteArray} {i : Nat}, i ≤ X.length → (∀ j, j < i → lessS (X.getD j ByteArray.empty) s = true) → (i < X.length → lessS (X.getD i ByteArray.empty) s = false) → lowS s X = X.take i ∧ highS s X = X.drop i
  | [], i, hi, _, _ => by
    have : i = 0 := by simpa using hi
    subst this; exact ⟨rfl, rfl⟩
  | a :: X, 0, _, _, h => by
    have h0 : lessS a s = false := h (by simp)
    rw [lowS, highS, h0]
    exact ⟨rfl, rfl⟩
  | a :: X, i + 1, hi, h1, h2 => by
    have h0 : lessS a s = true := h1 0 (by omega)
    obtain ⟨g1, g2⟩ := low_take (s := s) (X := X) (i := i) (by simpa using hi) (fun j hj => h1 (j + 1) (by omega)) (fun hl => h2 (by simp; omega))
    rw [lowS, highS, h0, if_pos rfl, if_pos rfl, g1, g2]
    exact ⟨rfl, rfl⟩
theorem filt_snoc (s : ByteArray) (Y : List ByteArray) {k : Nat} (hk : k < Y.length) : (Y.take (k + 1)).filter (fun x => decide (x ≠ s)) = (Y.take k).filter (fun x => decide (x ≠ s)) ++ (if Y.getD k ByteArray.empty = s then [] else [Y.getD k ByteArray.empty]) := by
  have e : Y.take (k + 1) = Y.take k ++ [Y.getD k ByteArray.empty] := by
    rw [List.take_add_one, List.getD_eq_getElem?_getD, List.getElem?_eq_getElem hk]; rfl
  rw [e, List.filter_append]
  generalize Y.getD k ByteArray.empty = a
  congr 1
  by_cases h : a = s
  · rw [if_pos h]; simp [h]
  · rw [if_neg h]; simp [h]

structure WiI (w wr : World) (ov : Value) (Y : List ByteArray) : Prop where
  below : Below w.heap.size w wr
  row : SRow wr w.heap.size ov Y
theorem WiI.grown {w wr w2 : World} {ov : Value} {Y : List ByteArray} (h : WiI w wr ov Y) {o : Obj} (hgrow : (wr.alloc o).grownBy w2 ov.ownBlock) {v' : Value} {s : ByteArray} (ho : w2.ownsRow w.heap.size 9 1 v' (Y.length + 1) (strCells Y ++ [.string s])) : WiI w w2 v' (Y ++ [s]) :=
  ⟨(h.below.trans (((Below.refl _ _).alloc (Nat.le_refl _) o).mono h.below.size)).grown hgrow (by have := h.below.size; simp; omega) (fun k hk => (h.row.lt k hk).1), SRow.of ho⟩
theorem own_slice2 {w : World} {B e z : Nat} {v : Value} {n : Nat} {xs : List Value} (h : w.ownsRow B e z v n xs) (hn : 0 < n) : ∃ g cap, v = .slice (some ⟨g, 0, none⟩) n cap := by
  obtain ⟨g, cap, rfl, _⟩ := h.form hn
  exact ⟨g, cap, rfl⟩

set_option maxRecDepth 20000 in
set_option maxHeartbeats 2000000 in
theorem with_any (w : World) (B : Nat) (v : Value) (X : List ByteArray) (s : ByteArray) (h : SRow w B v X) (hl : X.length ≤ 10000) :
    Calls Tryz.prog 48 #[v, .string s] w fun e w' => ∃ v', e = .returned v' ∧ SRow w' w.heap.size v' (insS X s) ∧ Below w.heap.size w w' := by
  obtain ⟨xa, xc, rfl⟩ := h.form
  have hlI : (X.length : Int) ≤ 10000 := by omega
  have HX := hide h
  have HL := hide hl
  obtain ⟨i, i0, i1, i2, i3⟩ := info_of infoStr
  have HI := hide (And.intro i0 (And.intro i1 (And.intro i2 i3)))
  clear i0 i1 i2 i3 h hl
  go_enter Tryz.func48, Tryz.ntmps48
  go_wp2_with fail
  go_loopw [5, 6] (fun ov kx wr => ∃ (k : Nat) (oa : Option Addr) (oc : Nat), ov = .slice oa k oc ∧ kx = .int .i64 (k : Int) ∧ Hid (k ≤ X.length ∧ WiI w wr (.slice oa k oc) (X.take k) ∧ ∀ j, j < k → lessS (X.getD j ByteArray.empty) s = true)) (fun _ kx _ => X.length - (intOf kx).toNat)
  case atStart => exact ⟨0, none, 0, rfl, rfl, Nat.zero_le _, ⟨Below.refl _ _, World.ownsRow_nil _ _ _ _⟩, fun j hj => absurd hj (Nat.not_lt_zero _)⟩
  case round =>
    rename World => wr
    obtain ⟨k, oa, oc, rfl, rfl, HH⟩ := hrel
    obtain ⟨hk, hI, hall⟩ := unhide HH
    have HI1 := hide hI
    have HALL := hide hall
    have HSZ : Hid (w.heap.size ≤ wr.heap.size) := hI.below.size
    have HKL : Hid (k ≤ 10000) := by have := unhide HL; show _ ≤ _; omega
    have htl : (X.take k).length = k := by rw [List.length_take]; omega
    have HTL := hide htl
    by_cases hgo : k < X.length ∧ lessS (X.getD k ByteArray.empty) s = true
    · obtain ⟨hlt, hless⟩ := hgo
      have hltI : (k : Int) < (X.length : Int) := by omega
      have HLT := hide hlt
      obtain ⟨g, cap, he, hx⟩ := ((unhide HX).below hI.below).at hlt
      have hgx : g < wr.heap.size := by
        rw [he] at HX
        exact (((unhide HX).below hI.below).lt g rfl).2
      simp only [Value.slice.injEq, true_and] at he
      obtain ⟨rfl, rfl⟩ := he
      have HSN : Hid (X.take (k + 1) = X.take k ++ [X.getD k ByteArray.empty] ∧ ∀ j, j < k + 1 → lessS (X.getD j ByteArray.empty) s = true) := by
        refine ⟨?_, fun j hj => ?_⟩
        · rw [List.take_add_one, List.getD_eq_getElem?_getD, List.getElem?_eq_getElem hlt]; rfl
        · by_cases e : j = k
          · subst e; exact hless
          · exact hall j (by omega)
      generalize X.getD k ByteArray.empty = a at *
      have hless2 : Op.bytesLess a.toList s.toList = true := hless
      have HO2 := hide (World.ownsRow.alloc hI.row (Obj.cells #[.string a] 9))
      clear HH hk hI hall hlt hless htl
      go_wp2_with (at_builtin; refine wpList_append_own _ rfl (.tmp 19) (.tmp 24) 46 rfl w.heap.size 9 i (.string ⟨#[]⟩) 1 16 Tryz.underlying46 (unhide HI).1 (unhide HI).2.1 (unhide HI).2.2.1 (unhide HI).2.2.2 rfl (by decide) _ _ _ rfl (by have := unhide HO2; rw [unhide HTL] at this; exact this) ⟨wr.heap.size, 0, none⟩ 1 1 [.string a] rfl rfl (cell_one_new _ _ _) (by intro u hu; simp at hu; subst hu; rfl) (by have := unhide HKL; unfold maxLen; omega) (by have := unhide HKL; omega) (by have := unhide HSZ; simp; omega) ?_; intro v' w3 ho3 hg3 _; have HNW := hide (WiI.grown (unhide HI1) hg3 (by rw [unhide HTL]; exact ho3)); obtain ⟨g3, cap3, rfl⟩ := own_slice2 ho3 (by omega); clear ho3 hg3)
      go_roundw
      case rel => exact ⟨k + 1, some ⟨g3, 0, none⟩, cap3, rfl, by go_num, unhide HLT, by rw [(unhide HSN).1]; exact unhide HNW, (unhide HSN).2⟩
      case measure => have := unhide HLT; simp [intOf]; omega
    · have HKX := hide hk
      have hlow : k < X.length → lessS (X.getD k ByteArray.empty) s = false := fun hlt => by
        cases hc : lessS (X.getD k ByteArray.empty) s
        · rfl
        · exact absurd ⟨hlt, hc⟩ hgo
      have HLH := hide (low_take hk hall hlow)
      by_cases hlt0 : k < X.length
      · have hltI : (k : Int) < (X.length : Int) := by omega
        have hless2 : Op.bytesLess (X.getD k ByteArray.empty).toList s.toList = false := hlow hlt0
        obtain ⟨g, cap, he, hx⟩ := ((unhide HX).below hI.below).at hlt0
        have hgx : g < wr.heap.size := by
          rw [he] at HX
          exact (((unhide HX).below hI.below).lt g rfl).2
        simp only [Value.slice.injEq, true_and] at he
        obtain ⟨rfl, rfl⟩ := he
        generalize X.getD k ByteArray.empty = a at *
        clear hlow hlt0
        have HSW := hide (World.ownsRow.alloc hI.row (Obj.cells #[.string s] 9))
        clear HH hk hI hall hgo htl HALL
        go_wp2_with (at_builtin; refine wpList_append_own _ rfl (.tmp 28) (.tmp 30) 46 rfl w.heap.size 9 i (.string ⟨#[]⟩) 1 16 Tryz.underlying46 (unhide HI).1 (unhide HI).2.1 (unhide HI).2.2.1 (unhide HI).2.2.2 rfl (by decide) _ _ _ rfl (by have := unhide HSW; rw [unhide HTL] at this; exact this) ⟨wr.heap.size, 0, none⟩ 1 1 [.string s] rfl rfl (cell_one_new _ _ _) (by intro u hu; simp at hu; subst hu; rfl) (by have := unhide HKL; unfold maxLen; omega) (by have := unhide HKL; omega) (by have := unhide HSZ; simp; omega) ?_; intro v' w3 ho3 hg3 _; have HNW := hide (WiI.grown (unhide HI1) hg3 (by rw [unhide HTL]; exact ho3)); obtain ⟨g3, cap3, rfl⟩ := own_slice2 ho3 (by omega); clear ho3 hg3)
        go_loopw [5, 6] (fun ov kx wx => ∃ (q : Nat) (Y : List ByteArray) (oa : Option Addr) (oc : Nat), ov = .slice oa Y.length oc ∧ kx = .int .i64 (q : Int) ∧ Hid (k ≤ q ∧ q ≤ X.length ∧ Y = X.take k ++ [s] ++ ((X.drop k).take (q - k)).filter (fun x => decide (x ≠ s)) ∧ WiI w wx (.slice oa Y.length oc) Y)) (fun _ kx _ => X.length - (intOf kx).toNat)
        case atStart => exact ⟨k, X.take k ++ [s], some ⟨g3, 0, none⟩, cap3, by simp [unhide HTL], rfl, Nat.le_refl _, unhide HKX, by simp, by have := unhide HNW; simpa [unhide HTL] using this⟩
        case round =>
          clear HNW HI1 HSW HSZ
          rename World => wx
          obtain ⟨q, Y, oa2, oc2, rfl, rfl, HH⟩ := hrel
          obtain ⟨hq1, hq2, hY, hI⟩ := unhide HH
          have HI1 := hide hI
          have HSZ : Hid (w.heap.size ≤ wx.heap.size) := hI.below.size
          have HYL : Hid (Y.length ≤ 20001) := by
            have h1 : (((X.drop k).take (q - k)).filter (fun x => decide (x ≠ s))).length ≤ ((X.drop k).take (q - k)).length := List.length_filter_le _ _
            rw [List.length_take, List.length_drop] at h1
            have := unhide HTL
            have := unhide HL
            show _ ≤ _
            rw [hY]
            simp only [List.length_append, List.length_cons, List.length_nil]
            omega
          by_cases hlt : q < X.length
          · have hltI : (q : Int) < (X.length : Int) := by omega
            have HLT := hide hlt
            obtain ⟨gx, cx, he, hx⟩ := ((unhide HX).below hI.below).at hlt
            have hgx : gx < wx.heap.size := by
              rw [he] at HX
              exact (((unhide HX).below hI.below).lt gx rfl).2
            simp only [Value.slice.injEq, true_and] at he
            obtain ⟨e1, rfl⟩ := he
            first
              | subst e1
              | (obtain rfl : g = gx := by simpa using e1)
            have hf := filt_snoc s (X.drop k) (k := q - k) (by rw [List.length_drop]; omega)
            have hgd : (X.drop k).getD (q - k) ByteArray.empty = X.getD q ByteArray.empty := by
              rw [List.getD_eq_getElem?_getD, List.getD_eq_getElem?_getD, List.getElem?_drop, show k + (q - k) = q by omega]
            rw [hgd, show q - k + 1 = q + 1 - k by omega] at hf
            have HF := hide hf
            have HY := hide hY
            have HQ1 : Hid (k ≤ q + 1) := by show _ ≤ _; omega
            generalize X.getD q ByteArray.empty = a at *
            have HO2 := hide (World.ownsRow.alloc hI.row (Obj.cells #[.string a] 9))
            clear HH hq1 hq2 hY hI hlt hf hgd
            by_cases hs : a = s
            · have HS2 : Hid (Y = X.take k ++ [s] ++ ((X.drop k).take (q + 1 - k)).filter (fun x => decide (x ≠ s))) := by
                rw [unhide HF, if_pos hs, List.append_nil]; exact unhide HY
              have hs2 : (a.toList == s.toList) = true := by rw [hs]; simp
              clear hs
              go_wp2_with fail
              go_roundw
              case rel => first | exact ⟨q + 1, Y, _, _, rfl, by go_num, unhide HQ1, unhide HLT, unhide HS2, unhide HI1⟩ | (repeat apply Exists.intro; exact ⟨⟨q + 1, Y, _, _, rfl, by go_num, unhide HQ1, unhide HLT, unhide HS2, unhide HI1⟩, rfl⟩)
              case measure => have := unhide HLT; simp [intOf]; omega
            · have HS2 : Hid (Y ++ [a] = X.take k ++ [s] ++ ((X.drop k).take (q + 1 - k)).filter (fun x => decide (x ≠ s))) := by
                rw [unhide HF, if_neg hs, ← List.append_assoc, ← unhide HY]; exact rfl
              have hs2 : (a.toList == s.toList) = false := by
                rw [beq_eq_false_iff_ne]; exact fun e => hs (ba_ext e)
              clear hs
              go_wp2_with (at_builtin; refine wpList_append_own _ rfl (.tmp 42) (.tmp 47) 46 rfl w.heap.size 9 i (.string ⟨#[]⟩) 1 16 Tryz.underlying46 (unhide HI).1 (unhide HI).2.1 (unhide HI).2.2.1 (unhide HI).2.2.2 rfl (by decide) _ _ _ rfl (unhide HO2) ⟨wx.heap.size, 0, none⟩ 1 1 [.string a] rfl rfl (cell_one_new _ _ _) (by intro u hu; simp at hu; subst hu; rfl) (by have := unhide HYL; unfold maxLen; omega) (by have := unhide HYL; omega) (by have := unhide HSZ; simp; omega) ?_; intro v' w3 ho3 hg3 _; have HNW := hide (WiI.grown (unhide HI1) hg3 ho3); obtain ⟨g4, cap4, rfl⟩ := own_slice2 ho3 (by omega); clear ho3 hg3)
              go_roundw
              case rel => first | exact ⟨q + 1, Y ++ [a], some ⟨g4, 0, none⟩, cap4, by simp, by go_num, unhide HQ1, unhide HLT, unhide HS2, by simpa using unhide HNW⟩ | (repeat apply Exists.intro; exact ⟨⟨q + 1, Y ++ [a], some ⟨g4, 0, none⟩, cap4, by simp, by go_num, unhide HQ1, unhide HLT, unhide HS2, by simpa using unhide HNW⟩, rfl⟩)
              case measure => have := unhide HLT; simp [intOf]; omega
          · have hq3 : q = X.length := by omega
            subst hq3
            have HE : Hid (Y = insS X s) := by
              rw [hY, show (X.drop k).take (X.length - k) = X.drop k from List.take_of_length_le (by rw [List.length_drop]; exact Nat.le_refl _), ← (unhide HLH).1, ← (unhide HLH).2]; exact rfl
            clear HH hq1 hq2 hY hI hlt
            go_wp2_with fail
            go_ret
            exact ⟨_, rfl, by rw [← unhide HE]; exact (unhide HI1).row, (unhide HI1).below⟩
      · have hk3 : k = X.length := by omega
        have hltI : ¬ (k : Int) < (X.length : Int) := by omega
        have hltJ : (X.length : Int) ≤ (k : Int) := by omega
        clear hlow hlt0 hk3
        have HSW := hide (World.ownsRow.alloc hI.row (Obj.cells #[.string s] 9))
        clear HH hk hI hall hgo htl HALL
        go_wp2_with (at_builtin; refine wpList_append_own _ rfl (.tmp 28) (.tmp 30) 46 rfl w.heap.size 9 i (.string ⟨#[]⟩) 1 16 Tryz.underlying46 (unhide HI).1 (unhide HI).2.1 (unhide HI).2.2.1 (unhide HI).2.2.2 rfl (by decide) _ _ _ rfl (by have := unhide HSW; rw [unhide HTL] at this; exact this) ⟨wr.heap.size, 0, none⟩ 1 1 [.string s] rfl rfl (cell_one_new _ _ _) (by intro u hu; simp at hu; subst hu; rfl) (by have := unhide HKL; unfold maxLen; omega) (by have := unhide HKL; omega) (by have := unhide HSZ; simp; omega) ?_; intro v' w3 ho3 hg3 _; have HNW := hide (WiI.grown (unhide HI1) hg3 (by rw [unhide HTL]; exact ho3)); obtain ⟨g3, cap3, rfl⟩ := own_slice2 ho3 (by omega); clear ho3 hg3)
        go_loopw [5, 6] (fun ov kx wx => ∃ (q : Nat) (Y : List ByteArray) (oa : Option Addr) (oc : Nat), ov = .slice oa Y.length oc ∧ kx = .int .i64 (q : Int) ∧ Hid (k ≤ q ∧ q ≤ X.length ∧ Y = X.take k ++ [s] ++ ((X.drop k).take (q - k)).filter (fun x => decide (x ≠ s)) ∧ WiI w wx (.slice oa Y.length oc) Y)) (fun _ kx _ => X.length - (intOf kx).toNat)
        case atStart => exact ⟨k, X.take k ++ [s], some ⟨g3, 0, none⟩, cap3, by simp [unhide HTL], rfl, Nat.le_refl _, unhide HKX, by simp, by have := unhide HNW; simpa [unhide HTL] using this⟩
        case round =>
          clear HNW HI1 HSW HSZ
          rename World => wx
          obtain ⟨q, Y, oa2, oc2, rfl, rfl, HH⟩ := hrel
          obtain ⟨hq1, hq2, hY, hI⟩ := unhide HH
          have HI1 := hide hI
          have HSZ : Hid (w.heap.size ≤ wx.heap.size) := hI.below.size
          have HYL : Hid (Y.length ≤ 20001) := by
            have h1 : (((X.drop k).take (q - k)).filter (fun x => decide (x ≠ s))).length ≤ ((X.drop k).take (q - k)).length := List.length_filter_le _ _
            rw [List.length_take, List.length_drop] at h1
            have := unhide HTL
            have := unhide HL
            show _ ≤ _
            rw [hY]
            simp only [List.length_append, List.length_cons, List.length_nil]
            omega
          by_cases hlt : q < X.length
          · have hltI : (q : Int) < (X.length : Int) := by omega
            have HLT := hide hlt
            obtain ⟨gx, cx, he, hx⟩ := ((unhide HX).below hI.below).at hlt
            have hgx : gx < wx.heap.size := by
              rw [he] at HX
              exact (((unhide HX).below hI.below).lt gx rfl).2
            simp only [Value.slice.injEq, true_and] at he
            obtain ⟨e1, rfl⟩ := he
            first
              | subst e1
              | (obtain rfl : g = gx := by simpa using e1)
            have hf := filt_snoc s (X.drop k) (k := q - k) (by rw [List.length_drop]; omega)
            have hgd : (X.drop k).getD (q - k) ByteArray.empty = X.getD q ByteArray.empty := by
              rw [List.getD_eq_getElem?_getD, List.getD_eq_getElem?_getD, List.getElem?_drop, show k + (q - k) = q by omega]
            rw [hgd, show q - k + 1 = q + 1 - k by omega] at hf
            have HF := hide hf
            have HY := hide hY
            have HQ1 : Hid (k ≤ q + 1) := by show _ ≤ _; omega
            generalize X.getD q ByteArray.empty = a at *
            have HO2 := hide (World.ownsRow.alloc hI.row (Obj.cells #[.string a] 9))
            clear HH hq1 hq2 hY hI hlt hf hgd
            by_cases hs : a = s
            · have HS2 : Hid (Y = X.take k ++ [s] ++ ((X.drop k).take (q + 1 - k)).filter (fun x => decide (x ≠ s))) := by
                rw [unhide HF, if_pos hs, List.append_nil]; exact unhide HY
              have hs2 : (a.toList == s.toList) = true := by rw [hs]; simp
              clear hs
              go_wp2_with fail
              go_roundw
              case rel => first | exact ⟨q + 1, Y, _, _, rfl, by go_num, unhide HQ1, unhide HLT, unhide HS2, unhide HI1⟩ | (repeat apply Exists.intro; exact ⟨⟨q + 1, Y, _, _, rfl, by go_num, unhide HQ1, unhide HLT, unhide HS2, unhide HI1⟩, rfl⟩)
              case measure => have := unhide HLT; simp [intOf]; omega
            · have HS2 : Hid (Y ++ [a] = X.take k ++ [s] ++ ((X.drop k).take (q + 1 - k)).filter (fun x => decide (x ≠ s))) := by
                rw [unhide HF, if_neg hs, ← List.append_assoc, ← unhide HY]; exact rfl
              have hs2 : (a.toList == s.toList) = false := by
                rw [beq_eq_false_iff_ne]; exact fun e => hs (ba_ext e)
              clear hs
              go_wp2_with (at_builtin; refine wpList_append_own _ rfl (.tmp 42) (.tmp 47) 46 rfl w.heap.size 9 i (.string ⟨#[]⟩) 1 16 Tryz.underlying46 (unhide HI).1 (unhide HI).2.1 (unhide HI).2.2.1 (unhide HI).2.2.2 rfl (by decide) _ _ _ rfl (unhide HO2) ⟨wx.heap.size, 0, none⟩ 1 1 [.string a] rfl rfl (cell_one_new _ _ _) (by intro u hu; simp at hu; subst hu; rfl) (by have := unhide HYL; unfold maxLen; omega) (by have := unhide HYL; omega) (by have := unhide HSZ; simp; omega) ?_; intro v' w3 ho3 hg3 _; have HNW := hide (WiI.grown (unhide HI1) hg3 ho3); obtain ⟨g4, cap4, rfl⟩ := own_slice2 ho3 (by omega); clear ho3 hg3)
              go_roundw
              case rel => first | exact ⟨q + 1, Y ++ [a], some ⟨g4, 0, none⟩, cap4, by simp, by go_num, unhide HQ1, unhide HLT, unhide HS2, by simpa using unhide HNW⟩ | (repeat apply Exists.intro; exact ⟨⟨q + 1, Y ++ [a], some ⟨g4, 0, none⟩, cap4, by simp, by go_num, unhide HQ1, unhide HLT, unhide HS2, by simpa using unhide HNW⟩, rfl⟩)
              case measure => have := unhide HLT; simp [intOf]; omega
          · have hq3 : q = X.length := by omega
            subst hq3
            have HE : Hid (Y = insS X s) := by
              rw [hY, show (X.drop k).take (X.length - k) = X.drop k from List.take_of_length_le (by rw [List.length_drop]; exact Nat.le_refl _), ← (unhide HLH).1, ← (unhide HLH).2]; exact rfl
            clear HH hq1 hq2 hY hI hlt
            go_wp2_with fail
            go_ret
            exact ⟨_, rfl, by rw [← unhide HE]; exact (unhide HI1).row, (unhide HI1).below⟩

end Go.Proofs.YtfooclcjehpcfaaGreat
