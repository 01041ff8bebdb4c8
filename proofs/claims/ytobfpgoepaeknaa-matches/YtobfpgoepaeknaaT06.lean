/-
  The reader of patterns: pieces, branches, patterns; every pattern is read.
  The weights of nodes: weightAt, weighNode.
-/
import Derived.Test.YtobfpgoepaeknaaT05
import Derived.Test.YtobfpgoepaeknaaT00
namespace Go.Proofs.Ytobfpgoepaeknaa
open Go.RowKit

/-- What the state of a reader keeps to at the head of a loop. -/
def LoopOk (c : Nat) (t : ByteArray) (x : St) : Prop :=
  x.s.k ≤ t.size ∧ x.fs.length ≤ x.ns.length ∧ x.ns.length ≤ 960 ∧ (x.s.bad = false → x.ns.length + 4 * (t.size - x.s.k) ≤ c)

theorem not_bad_of_atom {t : ByteArray} {s : S1} (h : atAtomB (s.pk t) = true) : s.bad = false := by
  cases hb : s.bad
  · rfl
  · rw [pk_bad hb] at h; simp [atAtomB, isPlainB] at h
theorem not_bad_of_suffix {t : ByteArray} {s : S1} (h : atSuffixB (s.pk t) = true) : s.bad = false := by
  cases hb : s.bad
  · rfl
  · rw [pk_bad hb] at h; simp [atSuffixB] at h

set_option maxHeartbeats 400000 in
theorem piece_of_atom (t : ByteArray) (ht : t.size ≤ 60) (m : Nat) (ha : Does 94 6 t m) : Does 78 4 t m := by
  intro w b x h hok hm
  have HA := hide (ha w b x h hok hm)
  obtain ⟨hk, hfs, hns⟩ := hok
  clear ha
  go_enter Try.func78, Try.ntmps78
  go_wp2_with fail
  refine (unhide HA).mono ?_
  rintro e w1 ⟨y, i, rfl, hr, hw1⟩
  obtain ⟨g1, l1⟩ : Grows t 1 x y ∧ Slim x y := Rds.facts hk hr
  have hy : LoopOk 900 t y := by
    refine ⟨g1.2.1, g1.2.2.1 hfs, ?_, fun hb => ?_⟩
    · have := g1.2.2.2; have := g1.2.1; omega
    · have := (l1 hb).2; have := g1.2.1; omega
  have HR := hide hr
  have HY := hide hy
  have hlft : left t y.s ≤ t.size + 1 := by unfold left; split <;> omega
  have HLF := hide hlft
  clear hr hy g1 l1 hlft HA
  go_wp2_with fail
  go_loopg [3] (t.size + 1) (fun n p wr => ∃ (j : Int) (z : St), p = .int .i64 j ∧ Hid (left t z.s ≤ n ∧ LoopOk 900 t z ∧ PostS w wr b t z ∧ ∀ r, Rds t 5 j z r → Rds t 4 0 x r))
  case atStart => exact ⟨i, y, rfl, unhide HLF, unhide HY, hw1, fun r hr => Rds.piece (unhide HR) hr⟩
  case round =>
    obtain ⟨j, z, rfl, H⟩ := hrel
    obtain ⟨hl, hz, pz, hcont⟩ := unhide H
    have HL := hide hl
    have HZ := hide hz
    have HC := hide hcont
    have hkz := hz.1
    have hnz : z.ns.length ≤ 1000 := by have := hz.2.2.1; omega
    clear hl hz hcont H
    by_cases hc : atSuffixB (z.s.pk t) = true
    · go_wp2_with fail
      refine (atSuffix_S _ b t z pz.2 ht hkz).mono ?_
      rintro e w2 ⟨rfl, hw2⟩
      go_wp2_with fail
      refine (readSuffix_any _ b t z j hw2.2 ht hkz hnz).mono ?_
      rintro e w3 ⟨rfl, hw3⟩
      obtain ⟨a1, a2, a3, a4, a5⟩ := readSuffixS_facts (whole := j) hkz hc
      have hbz := not_bad_of_suffix hc
      have hlt := left_goes (t := t) hbz a2 (Or.inr a3)
      have hn3 : LoopOk 900 t (readSuffixS t j z) := by
        obtain ⟨z1, z2, z3, z4⟩ := unhide HZ
        have z5 := z4 hbz
        refine ⟨a2, by rw [a4, a5]; omega, by rw [a4]; omega, fun _ => by rw [a4]; omega⟩
      have H3 := hide hn3
      have HLT := hide hlt
      have HK := hide (fun r hr => unhide HC r (Rds.suffix hc hr))
      clear a1 a2 a3 a4 a5 hn3 hlt
      go_wp2
      go_roundg (gk - 1)
      case measure => have := unhide HL; have := unhide HLT; omega
      case rel => exact ⟨_, _, rfl, by have := unhide HL; have := unhide HLT; omega, unhide H3, (pz.trans hw2).trans hw3, unhide HK⟩
    · have hc' : atSuffixB (z.s.pk t) = false := by simpa using hc
      clear hc
      go_wp2_with fail
      refine (atSuffix_S _ b t z pz.2 ht hkz).mono ?_
      rintro e w2 ⟨rfl, hw2⟩
      have HE := hide (unhide HC _ (Rds.suffixEnd hc'))
      go_wp2
      go_ret
      exact ⟨_, _, rfl, unhide HE, pz.trans hw2⟩

set_option maxHeartbeats 400000 in
theorem branch_of_piece (t : ByteArray) (ht : t.size ≤ 60) (m : Nat) (ha : Does 78 4 t m) : Does 55 2 t m := by
  intro w b x h hok hm
  have HA := hide (fun w1 h1 => ha w1 b x h1 hok hm)
  obtain ⟨hk, hfs, hns⟩ := hok
  have HA2 := hide ha
  have hn0 : x.ns.length ≤ 1000 := by omega
  clear ha
  by_cases hc : atAtomB (x.s.pk t) = true
  · go_enter Try.func55, Try.ntmps55
    go_wp2_with fail
    refine (atAtom_S _ b t x h ht hk).mono ?_
    rintro e w0 ⟨rfl, hw0⟩
    go_wp2_with fail
    refine (unhide HA w0 hw0.2).mono ?_
    rintro e w1 ⟨y, i, rfl, hr, hw1⟩
    have p1 := hw0.trans hw1
    obtain ⟨g1, l1⟩ : Grows t 1 x y ∧ Slim x y := Rds.facts hk hr
    have hy : LoopOk 900 t y := by
      refine ⟨g1.2.1, g1.2.2.1 hfs, ?_, fun hb => ?_⟩
      · have := g1.2.2.2; have := g1.2.1; omega
      · have := (l1 hb).2; have := g1.2.1; omega
    have hxy : x.s.k ≤ y.s.k := g1.1.1
    have HR := hide (fun r hr' => Rds.branch (whole := 0) hc hr (r := r) hr')
    have HY := hide hy
    have hlft : left t y.s ≤ t.size + 1 := by unfold left; split <;> omega
    have HLF := hide hlft
    clear hr hy g1 l1 hlft HA hw0 hw1 hc
    go_wp2_with fail
    go_loopg [3] (t.size + 1) (fun n p wr => ∃ (j : Int) (z : St), p = .int .i64 j ∧ Hid (left t z.s ≤ n ∧ LoopOk 900 t z ∧ x.s.k ≤ z.s.k ∧ PostS w wr b t z ∧ ∀ r, Rds t 3 j z r → Rds t 2 0 x r))
    case atStart => exact ⟨i, y, rfl, unhide HLF, unhide HY, hxy, p1, unhide HR⟩
    case round =>
      obtain ⟨j, z, rfl, H⟩ := hrel
      obtain ⟨hl, hz, hxz, pz, hcont⟩ := unhide H
      have HL := hide hl
      have HZ := hide hz
      have HC := hide hcont
      have hkz := hz.1
      clear hl hz hcont H p1 HLF HY HR
      by_cases hc : atAtomB (z.s.pk t) = true
      · have hbz := not_bad_of_atom hc
        obtain ⟨z1, z2, z3, z4⟩ := unhide HZ
        have z5 := z4 hbz
        have hlz : z.s.k < t.size := by
          apply (S1.pk_lt (t := t) (s := z.s) ?_).2
          have := hc
          simp only [atAtomB, Bool.or_eq_true, beq_iff_eq] at this
          rcases this with (((g | g) | g) | g) | g
          · omega
          · omega
          · omega
          · omega
          · exact isPlainB_pos g
        have HOK := hide (show OkS t z from ⟨hkz, z2, z5⟩)
        have hm' : t.size - z.s.k ≤ m := by omega
        clear z4
        go_wp2_with fail
        refine (atAtom_S _ b t z pz.2 ht hkz).mono ?_
        rintro e w2 ⟨rfl, hw2⟩
        go_wp2_with fail
        refine (unhide HA2 w2 b z hw2.2 (unhide HOK) hm').mono ?_
        rintro e w3 ⟨y2, i2, rfl, hr2, hw3⟩
        obtain ⟨g1, l1⟩ : Grows t 1 z y2 ∧ Slim z y2 := Rds.facts hkz hr2
        have hgo : y2.s.bad = true ∨ z.s.k < y2.s.k := by
          cases hb : y2.s.bad
          · exact Or.inr (l1 hb).1
          · exact Or.inl rfl
        have HLT := hide (left_goes (t := t) hbz g1.2.1 hgo)
        have hn2 : y2.ns.length ≤ 1000 := by have := g1.2.2.2; have := g1.2.1; omega
        have H3 : Hid (LoopOk 900 t (y2.add ⟨2, j, i2, 0, 0, 0⟩)) := by
          refine ⟨g1.2.1, ?_, ?_, fun hb => ?_⟩
          · have := g1.2.2.1 z2; simp only [St.add, List.length_append, List.length_cons, List.length_nil]; omega
          · have := g1.2.2.2; have := g1.2.1; simp only [St.add, List.length_append, List.length_cons, List.length_nil]; omega
          · have := (l1 hb).2; have := g1.2.1; simp only [St.add, List.length_append, List.length_cons, List.length_nil]; omega
        have hxy2 : x.s.k ≤ y2.s.k := by have := g1.1.1; omega
        have HK := hide (fun r hr => unhide HC r (Rds.join hc hr2 hr))
        clear g1 l1 hgo hr2
        go_wp2_with fail
        refine (add_S _ b t y2 2 j i2 0 0 0 hw3.2 hn2).mono ?_
        rintro e w4 ⟨rfl, hw4⟩
        go_wp2
        go_roundg (gk - 1)
        case measure => have := unhide HL; have := unhide HLT; omega
        case rel => exact ⟨_, _, rfl, by have := unhide HL; have := unhide HLT; show left t y2.s ≤ gk - 1; omega, unhide H3, hxy2, ((pz.trans hw2).trans hw3).trans hw4, unhide HK⟩
      · have hc' : atAtomB (z.s.pk t) = false := by simpa using hc
        clear hc
        go_wp2_with fail
        refine (atAtom_S _ b t z pz.2 ht hkz).mono ?_
        rintro e w2 ⟨rfl, hw2⟩
        have HE := hide (unhide HC _ (Rds.joinEnd hc'))
        go_wp2
        go_ret
        exact ⟨_, _, rfl, unhide HE, pz.trans hw2⟩
  · have hc' : atAtomB (x.s.pk t) = false := by simpa using hc
    clear hc
    go_enter Try.func55, Try.ntmps55
    go_wp2_with fail
    refine (atAtom_S _ b t x h ht hk).mono ?_
    rintro e w0 ⟨rfl, hw0⟩
    go_wp2_with fail
    refine (add_S _ b t x 0 0 0 0 0 0 hw0.2 hn0).mono ?_
    rintro e w1 ⟨rfl, hw1⟩
    have HE := hide (Rds.branchNone (whole := 0) hc')
    go_wp2
    go_ret
    exact ⟨_, _, rfl, unhide HE, hw0.trans hw1⟩

set_option maxHeartbeats 400000 in
theorem pattern_of_branch (t : ByteArray) (ht : t.size ≤ 60) (m : Nat) (ha : Does 55 2 t m) : Does 36 0 t m := by
  intro w b x h hok hm
  have HA := hide (ha w b x h hok hm)
  obtain ⟨hk, hfs, hns⟩ := hok
  have HA2 := hide ha
  clear ha
  go_enter Try.func36, Try.ntmps36
  go_wp2_with fail
  refine (unhide HA).mono ?_
  rintro e w1 ⟨y, i, rfl, hr, p1⟩
  have g1 : Grows t 1 x y := Rds.facts hk hr
  have hy : LoopOk 901 t y := by
    refine ⟨g1.2.1, g1.2.2.1 hfs, ?_, fun hb => ?_⟩
    · have := g1.2.2.2; have := g1.2.1; omega
    · have := g1.2.2.2; have := g1.2.1; omega
  have hxy : x.s.k ≤ y.s.k := g1.1.1
  have HR := hide (fun r hr' => Rds.pattern (whole := 0) hr (r := r) hr')
  have HY := hide hy
  have hlft : left t y.s ≤ t.size + 1 := by unfold left; split <;> omega
  have HLF := hide hlft
  clear hr hy g1 hlft HA
  go_wp2_with fail
  go_loopg [3] (t.size + 1) (fun n p wr => ∃ (j : Int) (z : St), p = .int .i64 j ∧ Hid (left t z.s ≤ n ∧ LoopOk 901 t z ∧ x.s.k ≤ z.s.k ∧ PostS w wr b t z ∧ ∀ r, Rds t 1 j z r → Rds t 0 0 x r))
  case atStart => exact ⟨i, y, rfl, unhide HLF, unhide HY, hxy, p1, unhide HR⟩
  case round =>
    obtain ⟨j, z, rfl, H⟩ := hrel
    obtain ⟨hl, hz, hxz, pz, hcont⟩ := unhide H
    have HL := hide hl
    have HZ := hide hz
    have HC := hide hcont
    have hkz := hz.1
    clear hl hz hcont H p1 HLF HY HR
    by_cases hc : (z.s.pk t == 124) = true
    · obtain ⟨hbz, hlz⟩ := S1.pk_lt (t := t) (s := z.s) (by rw [beq_iff_eq] at hc; omega)
      obtain ⟨z1, z2, z3, z4⟩ := unhide HZ
      have z5 := z4 hbz
      have e1 := takeS_eq hc
      have HOK : Hid (OkS t (z.at (takeS t 124 z.s))) := by
        refine ⟨takeS_le (by omega) hkz, z2, ?_⟩
        rw [e1]; simp only [St.at]; omega
      have hm' : t.size - (z.at (takeS t 124 z.s)).s.k ≤ m := by rw [e1]; simp only [St.at]; omega
      have hks : (takeS t 124 z.s).k = z.s.k + 1 := by rw [e1]
      have HKS := hide hks
      have HC' := hide hc
      clear z4 e1 hks
      go_wp2_with fail
      refine (take_S _ b t z 124 pz.2 ht hkz).mono ?_
      rintro e w2 ⟨rfl, hw2⟩
      go_wp2_with fail
      refine (unhide HA2 w2 b _ hw2.2 (unhide HOK) hm').mono ?_
      rintro e w3 ⟨y2, i2, rfl, hr2, hw3⟩
      have g1 : Grows t 1 (z.at (takeS t 124 z.s)) y2 := Rds.facts (unhide HOK).1 hr2
      have n1 := g1.2.2.2
      have n2 := g1.1.1
      simp only [St.at, unhide HKS] at n1 n2
      have HLT := hide (left_goes (t := t) hbz g1.2.1 (Or.inr (by omega)))
      have hn2 : y2.ns.length ≤ 1000 := by have := g1.2.1; omega
      have H3 : Hid (LoopOk 901 t (y2.add ⟨3, j, i2, 0, 0, 0⟩)) := by
        refine ⟨g1.2.1, ?_, ?_, fun hb => ?_⟩
        · have := g1.2.2.1 z2; simp only [St.add, List.length_append, List.length_cons, List.length_nil]; omega
        · have := g1.2.1; simp only [St.add, List.length_append, List.length_cons, List.length_nil]; omega
        · have := g1.2.1; simp only [St.add, List.length_append, List.length_cons, List.length_nil]; omega
      have hxy2 : x.s.k ≤ y2.s.k := by omega
      have HK := hide (fun r hr => unhide HC r (Rds.alt (unhide HC') hr2 hr))
      clear g1 hr2 n1 n2
      go_wp2_with fail
      refine (add_S _ b t y2 3 j i2 0 0 0 hw3.2 hn2).mono ?_
      rintro e w4 ⟨rfl, hw4⟩
      go_wp2
      go_roundg (gk - 1)
      case measure => have := unhide HL; have := unhide HLT; omega
      case rel => exact ⟨_, _, rfl, by have := unhide HL; have := unhide HLT; show left t y2.s ≤ gk - 1; omega, unhide H3, hxy2, ((pz.trans hw2).trans hw3).trans hw4, unhide HK⟩
    · have hc' : (z.s.pk t == 124) = false := by simpa using hc
      have t1 : z.at (takeS t 124 z.s) = z := by simp only [takeS, hc']; rfl
      have HT := hide t1
      clear hc t1
      go_wp2_with fail
      refine (take_S _ b t z 124 pz.2 ht hkz).mono ?_
      rw [unhide HT]
      rintro e w2 ⟨rfl, hw2⟩
      have HE := hide (unhide HC _ (Rds.altEnd hc'))
      go_wp2
      go_ret
      exact ⟨_, _, rfl, unhide HE, pz.trans hw2⟩

/-- Every pattern is read. -/
theorem readPattern_any (t : ByteArray) (ht : t.size ≤ 60) : ∀ m, Does 36 0 t m := by
  intro m
  induction m using Nat.strongRecOn with
  | _ m ih => exact pattern_of_branch t ht m (branch_of_piece t ht m (piece_of_atom t ht m (atom_of_pattern t ht m ih)))

end Go.Proofs.Ytobfpgoepaeknaa
namespace Go.Proofs.Ytobfpgoepaeknaa
open Go.RowKit

def IntRow (w : World) (g : Nat) (ws : List Int) : Prop := ∀ j : Nat, j < ws.length → w.cell? ⟨g, j, none⟩ = some (.int .i64 (ws.getD j 0))

set_option maxHeartbeats 400000 in
theorem weightAt_any (w : World) (g cap : Nat) (ws : List Int) (i : Int) (h : IntRow w g ws) :
    Calls Try.prog 80 #[.slice (some ⟨g, 0, none⟩) ws.length cap, .int .i64 i] w fun e w' =>
      e = .returned (.int .i64 (wAt ws i)) ∧ w' = w := by
  by_cases h0 : i < 0
  · have e1 : wAt ws i = 0 := by unfold wAt; rw [if_pos (Or.inl h0)]
    rw [e1]
    clear e1
    go_enter Try.func80, Try.ntmps80
    go_wp2
    go_ret
    exact ⟨rfl, rfl⟩
  · by_cases h1 : (ws.length : Int) ≤ i
    · have e1 : wAt ws i = 0 := by unfold wAt; rw [if_pos (Or.inr h1)]
      rw [e1]
      clear e1
      go_enter Try.func80, Try.ntmps80
      go_wp2
      go_ret
      exact ⟨rfl, rfl⟩
    · have e1 : wAt ws i = ws.getD i.toNat 0 := by unfold wAt; rw [if_neg (by omega)]
      rw [e1]
      obtain ⟨j, rfl⟩ := Int.eq_ofNat_of_zero_le (by omega : 0 ≤ i)
      have hc := h j (by omega)
      rw [Int.toNat_natCast]
      generalize ws.getD j 0 = v at *
      have hj : (j : Int) < (ws.length : Int) := by omega
      clear e1 h h0
      go_enter Try.func80, Try.ntmps80
      go_wp2
      go_ret
      exact ⟨rfl, rfl⟩

theorem IntRow.alloc {w : World} {g : Nat} {ws : List Int} (h : IntRow w g ws) (o : Obj) : IntRow (w.alloc o) g ws := by
  intro j hj
  have h1 := h j hj
  have hlt := block_lt_of_cell h1
  rw [World.cell?_of_block (w := w) (Below.heap_alloc w o g hlt)]
  exact h1
theorem IntRow.drewN {w : World} {g : Nat} {ws : List Int} (h : IntRow w g ws) (n : Nat) : IntRow (w.drewN n) g ws := h

theorem clamp1 {w : Int} (h : w < 1) : (1 : Int) = clampW w := by unfold clampW; rw [if_pos h]
theorem clamp2 {w : Int} (_h1 : 1 ≤ w) (h : 13 < w) : (13 : Int) = clampW w := by unfold clampW; rw [if_neg (by omega), if_pos h]
theorem clamp3 {w : Int} (h1 : 1 ≤ w) (h : w ≤ 13) : w = clampW w := by unfold clampW; rw [if_neg (by omega), if_neg (by omega)]

set_option maxHeartbeats 1000000 in
theorem weighNode_any (w : World) (g cap : Nat) (ws : List Int) (k l r lo hi st : Int) (h : IntRow w g ws) (hb : ∀ v ∈ ws, 1 ≤ v ∧ v ≤ 13) (h0 : 0 ≤ hi) (h9 : hi ≤ 9) :
    Calls Try.prog 58 #[.agg #[.int .i64 k, .int .i64 l, .int .i64 r, .int .i64 lo, .int .i64 hi, .int .i64 st], .slice (some ⟨g, 0, none⟩) ws.length cap] w fun e w' =>
      e = .returned (.int .i64 (weighNd ws ⟨k, l, r, lo, hi, st⟩)) ∧ Below w.heap.size w w' := by
  have HI := hide (h.alloc (Obj.cells #[.int .i64 k, .int .i64 l, .int .i64 r, .int .i64 lo, .int .i64 hi, .int .i64 st] 109))
  have bl := wAt_bd hb l
  have br := wAt_bd hb r
  have B0 : Below w.heap.size w (w.alloc (Obj.cells #[.int .i64 k, .int .i64 l, .int .i64 r, .int .i64 lo, .int .i64 hi, .int .i64 st] 109)) := (Below.refl _ _).alloc (Nat.le_refl _) _
  have HB := hide B0
  have HWL := hide (fun n => weightAt_any ((w.alloc (Obj.cells #[.int .i64 k, .int .i64 l, .int .i64 r, .int .i64 lo, .int .i64 hi, .int .i64 st] 109)).drewN n) g cap ws l ((unhide HI).drewN n))
  have HWR := hide (fun n => weightAt_any ((w.alloc (Obj.cells #[.int .i64 k, .int .i64 l, .int .i64 r, .int .i64 lo, .int .i64 hi, .int .i64 st] 109)).drewN n) g cap ws r ((unhide HI).drewN n))
  have e0 : weighNd ws ⟨k, l, r, lo, hi, st⟩ = clampW (if (k == 2 || k == 3) = true then wAt ws l + wAt ws r else if (k == 4 || k == 5 || k == 6) = true then wAt ws l else if (k == 7) = true then wAt ws l * hi else 1) := rfl
  rw [e0]
  clear B0 h hb HI e0
  generalize wAt ws l = a at *
  generalize wAt ws r = c at *
  by_cases c2 : (k == 2) = true
  · rw [if_pos (by simp [c2])]
    go_enter Try.func58, Try.ntmps58
    go_wp2
    go_quiet ((first
      | (go_at_call_of 80 (Value.int IntKind.i64 l); exact Calls.quiet_of_same (unhide HWL _))
      | (go_at_call_of 80 (Value.int IntKind.i64 r); exact Calls.quiet_of_same (unhide HWR _))))
    go_wp2
    all_goals (go_ret; exact ⟨ret_int (by first | exact clamp1 ‹_› | exact clamp2 ‹_› ‹_› | exact clamp3 ‹_› ‹_›), below_drewN (unhide HB) _⟩)
  · have c2' : (k == 2) = false := by simpa using c2
    clear c2
    by_cases c3 : (k == 3) = true
    · rw [if_pos (by simp [c3])]
      go_enter Try.func58, Try.ntmps58
      go_wp2
      go_quiet ((first
      | (go_at_call_of 80 (Value.int IntKind.i64 l); exact Calls.quiet_of_same (unhide HWL _))
      | (go_at_call_of 80 (Value.int IntKind.i64 r); exact Calls.quiet_of_same (unhide HWR _))))
      go_wp2
      all_goals (go_ret; exact ⟨ret_int (by first | exact clamp1 ‹_› | exact clamp2 ‹_› ‹_› | exact clamp3 ‹_› ‹_›), below_drewN (unhide HB) _⟩)
    · have c3' : (k == 3) = false := by simpa using c3
      clear c3
      rw [if_neg (by simp [c2', c3'])]
      have HW0 := hide (unhide HWL 0)
      by_cases c4 : (k == 4) = true
      · rw [if_pos (by simp [c4])]
        go_enter Try.func58, Try.ntmps58
        go_wp2_with (go_at_call 80; refine (unhide HW0).mono ?_; rintro e w' ⟨rfl, rfl⟩)
        all_goals (go_ret; exact ⟨ret_int (by first | exact clamp1 ‹_› | exact clamp2 ‹_› ‹_› | exact clamp3 ‹_› ‹_›), below_drewN (unhide HB) _⟩)
      · have c4' : (k == 4) = false := by simpa using c4
        clear c4
        by_cases c5 : (k == 5) = true
        · rw [if_pos (by simp [c5])]
          go_enter Try.func58, Try.ntmps58
          go_wp2_with (go_at_call 80; refine (unhide HW0).mono ?_; rintro e w' ⟨rfl, rfl⟩)
          all_goals (go_ret; exact ⟨ret_int (by first | exact clamp1 ‹_› | exact clamp2 ‹_› ‹_› | exact clamp3 ‹_› ‹_›), below_drewN (unhide HB) _⟩)
        · have c5' : (k == 5) = false := by simpa using c5
          clear c5
          by_cases c6 : (k == 6) = true
          · rw [if_pos (by simp [c6])]
            go_enter Try.func58, Try.ntmps58
            go_wp2_with (go_at_call 80; refine (unhide HW0).mono ?_; rintro e w' ⟨rfl, rfl⟩)
            all_goals (go_ret; exact ⟨ret_int (by first | exact clamp1 ‹_› | exact clamp2 ‹_› ‹_› | exact clamp3 ‹_› ‹_›), below_drewN (unhide HB) _⟩)
          · have c6' : (k == 6) = false := by simpa using c6
            clear c6
            rw [if_neg (by simp [c4', c5', c6'])]
            by_cases c7 : (k == 7) = true
            · rw [if_pos c7]
              have m0 : 0 ≤ a * hi := Int.mul_nonneg bl.1 h0
              have m1 : a * hi ≤ 117 := Int.le_trans (Int.mul_le_mul_of_nonneg_right bl.2 h0) (by omega)
              go_enter Try.func58, Try.ntmps58
              go_wp2
              go_quiet ((first
      | (go_at_call_of 80 (Value.int IntKind.i64 l); exact Calls.quiet_of_same (unhide HWL _))
      | (go_at_call_of 80 (Value.int IntKind.i64 r); exact Calls.quiet_of_same (unhide HWR _))))
              go_wp2
              all_goals (go_ret; exact ⟨ret_int (by first | exact clamp1 ‹_› | exact clamp2 ‹_› ‹_› | exact clamp3 ‹_› ‹_›), below_drewN (unhide HB) _⟩)
            · have c7' : (k == 7) = false := by simpa using c7
              clear c7
              rw [if_neg (by simp [c7'])]
              go_enter Try.func58, Try.ntmps58
              go_wp2
              go_ret
              exact ⟨ret_int (by decide), unhide HB⟩

end Go.Proofs.Ytobfpgoepaeknaa
