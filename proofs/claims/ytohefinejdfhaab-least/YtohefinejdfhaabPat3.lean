/-
  The reader of patterns: pieces, branches, patterns; every pattern is read.
-/
import Derived.Test.YtohefinejdfhaabPat2
namespace Go.Proofs.Ytohefinejdfhaab
open Go.RowKit

/-- What the state of a reader keeps to at the head of a loop. -/
def LoopOk (c : Nat) (t : ByteArray) (x : St) : Prop :=
  x.s.k ≤ t.size ∧ x.fs.length ≤ x.ns.length ∧ x.ns.length ≤ 960 ∧ (x.s.bad = false → x.ns.length + 4 * (t.size - x.s.k) ≤ c)

theorem not_bad_of_atom {t : ByteArray} {s : S1} (h : atAtomB (s.pk t) = true) : s.bad = false := by
  cases hb : s.bad
  · rfl
  · rw [pk_bad hb] at h; simp [atAtomB, isPlainB] at h
theorem not_bad_of_suffix {t : ByteArray} {s : S1} (h : atSuffixB (s.pk t) = true) : s.bad = false := by
  cases hb : s.bad
  · rfl
  · rw [pk_bad hb] at h; simp [atSuffixB] at h

set_option maxHeartbeats 400000 in
theorem piece_of_atom (t : ByteArray) (ht : t.size ≤ 60) (m : Nat) (ha : Does 143 6 t m) : Does 124 4 t m := by
  intro w b x h hok hm
  have HA := hide (ha w b x h hok hm)
  obtain ⟨hk, hfs, hns⟩ := hok
  clear ha
  go_enter Try.func124, Try.ntmps124
  go_wp2_with fail
  refine (unhide HA).mono ?_
  rintro e w1 ⟨y, i, rfl, hr, hw1⟩
  obtain ⟨g1, l1⟩ : Grows t 1 x y ∧ Slim x y := Rds.facts hk hr
  have hy : LoopOk 900 t y := by
    refine ⟨g1.2.1, g1.2.2.1 hfs, ?_, fun hb => ?_⟩
    · have := g1.2.2.2; have := g1.2.1; omega
    · have := (l1 hb).2; have := g1.2.1; omega
  have HR := hide hr
  have HY := hide hy
  have hlft : left t y.s ≤ t.size + 1 := by unfold left; split <;> omega
  have HLF := hide hlft
  clear hr hy g1 l1 hlft HA
  go_wp2_with fail
  go_loopg [3] (t.size + 1) (fun n p wr => ∃ (j : Int) (z : St), p = .int .i64 j ∧ Hid (left t z.s ≤ n ∧ LoopOk 900 t z ∧ PostS w wr b t z ∧ ∀ r, Rds t 5 j z r → Rds t 4 0 x r))
  case atStart => exact ⟨i, y, rfl, unhide HLF, unhide HY, hw1, fun r hr => Rds.piece (unhide HR) hr⟩
  case round =>
    obtain ⟨j, z, rfl, H⟩ := hrel
    obtain ⟨hl, hz, pz, hcont⟩ := unhide H
    have HL := hide hl
    have HZ := hide hz
    have HC := hide hcont
    have hkz := hz.1
    have hnz : z.ns.length ≤ 1000 := by have := hz.2.2.1; omega
    clear hl hz hcont H
    by_cases hc : atSuffixB (z.s.pk t) = true
    · go_wp2_with fail
      refine (atSuffix_S _ b t z pz.2 ht hkz).mono ?_
      rintro e w2 ⟨rfl, hw2⟩
      go_wp2_with fail
      refine (readSuffix_any _ b t z j hw2.2 ht hkz hnz).mono ?_
      rintro e w3 ⟨rfl, hw3⟩
      obtain ⟨a1, a2, a3, a4, a5⟩ := readSuffixS_facts (whole := j) hkz hc
      have hbz := not_bad_of_suffix hc
      have hlt := left_goes (t := t) hbz a2 (Or.inr a3)
      have hn3 : LoopOk 900 t (readSuffixS t j z) := by
        obtain ⟨z1, z2, z3, z4⟩ := unhide HZ
        have z5 := z4 hbz
        refine ⟨a2, by rw [a4, a5]; omega, by rw [a4]; omega, fun _ => by rw [a4]; omega⟩
      have H3 := hide hn3
      have HLT := hide hlt
      have HK := hide (fun r hr => unhide HC r (Rds.suffix hc hr))
      clear a1 a2 a3 a4 a5 hn3 hlt
      go_wp2
      go_roundg (gk - 1)
      case measure => have := unhide HL; have := unhide HLT; omega
      case rel => exact ⟨_, _, rfl, by have := unhide HL; have := unhide HLT; omega, unhide H3, (pz.trans hw2).trans hw3, unhide HK⟩
    · have hc' : atSuffixB (z.s.pk t) = false := by simpa using hc
      clear hc
      go_wp2_with fail
      refine (atSuffix_S _ b t z pz.2 ht hkz).mono ?_
      rintro e w2 ⟨rfl, hw2⟩
      have HE := hide (unhide HC _ (Rds.suffixEnd hc'))
      go_wp2
      go_ret
      exact ⟨_, _, rfl, unhide HE, pz.trans hw2⟩

set_option maxHeartbeats 400000 in
theorem branch_of_piece (t : ByteArray) (ht : t.size ≤ 60) (m : Nat) (ha : Does 124 4 t m) : Does 87 2 t m := by
  intro w b x h hok hm
  have HA := hide (fun w1 h1 => ha w1 b x h1 hok hm)
  obtain ⟨hk, hfs, hns⟩ := hok
  have HA2 := hide ha
  have hn0 : x.ns.length ≤ 1000 := by omega
  clear ha
  by_cases hc : atAtomB (x.s.pk t) = true
  · go_enter Try.func87, Try.ntmps87
    go_wp2_with fail
    refine (atAtom_S _ b t x h ht hk).mono ?_
    rintro e w0 ⟨rfl, hw0⟩
    go_wp2_with fail
    refine (unhide HA w0 hw0.2).mono ?_
    rintro e w1 ⟨y, i, rfl, hr, hw1⟩
    have p1 := hw0.trans hw1
    obtain ⟨g1, l1⟩ : Grows t 1 x y ∧ Slim x y := Rds.facts hk hr
    have hy : LoopOk 900 t y := by
      refine ⟨g1.2.1, g1.2.2.1 hfs, ?_, fun hb => ?_⟩
      · have := g1.2.2.2; have := g1.2.1; omega
      · have := (l1 hb).2; have := g1.2.1; omega
    have hxy : x.s.k ≤ y.s.k := g1.1.1
    have HR := hide (fun r hr' => Rds.branch (whole := 0) hc hr (r := r) hr')
    have HY := hide hy
    have hlft : left t y.s ≤ t.size + 1 := by unfold left; split <;> omega
    have HLF := hide hlft
    clear hr hy g1 l1 hlft HA hw0 hw1 hc
    go_wp2_with fail
    go_loopg [3] (t.size + 1) (fun n p wr => ∃ (j : Int) (z : St), p = .int .i64 j ∧ Hid (left t z.s ≤ n ∧ LoopOk 900 t z ∧ x.s.k ≤ z.s.k ∧ PostS w wr b t z ∧ ∀ r, Rds t 3 j z r → Rds t 2 0 x r))
    case atStart => exact ⟨i, y, rfl, unhide HLF, unhide HY, hxy, p1, unhide HR⟩
    case round =>
      obtain ⟨j, z, rfl, H⟩ := hrel
      obtain ⟨hl, hz, hxz, pz, hcont⟩ := unhide H
      have HL := hide hl
      have HZ := hide hz
      have HC := hide hcont
      have hkz := hz.1
      clear hl hz hcont H p1 HLF HY HR
      by_cases hc : atAtomB (z.s.pk t) = true
      · have hbz := not_bad_of_atom hc
        obtain ⟨z1, z2, z3, z4⟩ := unhide HZ
        have z5 := z4 hbz
        have hlz : z.s.k < t.size := by
          apply (S1.pk_lt (t := t) (s := z.s) ?_).2
          have := hc
          simp only [atAtomB, Bool.or_eq_true, beq_iff_eq] at this
          rcases this with (((g | g) | g) | g) | g
          · omega
          · omega
          · omega
          · omega
          · exact isPlainB_pos g
        have HOK := hide (show OkS t z from ⟨hkz, z2, z5⟩)
        have hm' : t.size - z.s.k ≤ m := by omega
        clear z4
        go_wp2_with fail
        refine (atAtom_S _ b t z pz.2 ht hkz).mono ?_
        rintro e w2 ⟨rfl, hw2⟩
        go_wp2_with fail
        refine (unhide HA2 w2 b z hw2.2 (unhide HOK) hm').mono ?_
        rintro e w3 ⟨y2, i2, rfl, hr2, hw3⟩
        obtain ⟨g1, l1⟩ : Grows t 1 z y2 ∧ Slim z y2 := Rds.facts hkz hr2
        have hgo : y2.s.bad = true ∨ z.s.k < y2.s.k := by
          cases hb : y2.s.bad
          · exact Or.inr (l1 hb).1
          · exact Or.inl rfl
        have HLT := hide (left_goes (t := t) hbz g1.2.1 hgo)
        have hn2 : y2.ns.length ≤ 1000 := by have := g1.2.2.2; have := g1.2.1; omega
        have H3 : Hid (LoopOk 900 t (y2.add ⟨2, j, i2, 0, 0, 0⟩)) := by
          refine ⟨g1.2.1, ?_, ?_, fun hb => ?_⟩
          · have := g1.2.2.1 z2; simp only [St.add, List.length_append, List.length_cons, List.length_nil]; omega
          · have := g1.2.2.2; have := g1.2.1; simp only [St.add, List.length_append, List.length_cons, List.length_nil]; omega
          · have := (l1 hb).2; have := g1.2.1; simp only [St.add, List.length_append, List.length_cons, List.length_nil]; omega
        have hxy2 : x.s.k ≤ y2.s.k := by have := g1.1.1; omega
        have HK := hide (fun r hr => unhide HC r (Rds.join hc hr2 hr))
        clear g1 l1 hgo hr2
        go_wp2_with fail
        refine (add_S _ b t y2 2 j i2 0 0 0 hw3.2 hn2).mono ?_
        rintro e w4 ⟨rfl, hw4⟩
        go_wp2
        go_roundg (gk - 1)
        case measure => have := unhide HL; have := unhide HLT; omega
        case rel => exact ⟨_, _, rfl, by have := unhide HL; have := unhide HLT; show left t y2.s ≤ gk - 1; omega, unhide H3, hxy2, ((pz.trans hw2).trans hw3).trans hw4, unhide HK⟩
      · have hc' : atAtomB (z.s.pk t) = false := by simpa using hc
        clear hc
        go_wp2_with fail
        refine (atAtom_S _ b t z pz.2 ht hkz).mono ?_
        rintro e w2 ⟨rfl, hw2⟩
        have HE := hide (unhide HC _ (Rds.joinEnd hc'))
        go_wp2
        go_ret
        exact ⟨_, _, rfl, unhide HE, pz.trans hw2⟩
  · have hc' : atAtomB (x.s.pk t) = false := by simpa using hc
    clear hc
    go_enter Try.func87, Try.ntmps87
    go_wp2_with fail
    refine (atAtom_S _ b t x h ht hk).mono ?_
    rintro e w0 ⟨rfl, hw0⟩
    go_wp2_with fail
    refine (add_S _ b t x 0 0 0 0 0 0 hw0.2 hn0).mono ?_
    rintro e w1 ⟨rfl, hw1⟩
    have HE := hide (Rds.branchNone (whole := 0) hc')
    go_wp2
    go_ret
    exact ⟨_, _, rfl, unhide HE, hw0.trans hw1⟩

set_option maxHeartbeats 400000 in
theorem pattern_of_branch (t : ByteArray) (ht : t.size ≤ 60) (m : Nat) (ha : Does 87 2 t m) : Does 53 0 t m := by
  intro w b x h hok hm
  have HA := hide (ha w b x h hok hm)
  obtain ⟨hk, hfs, hns⟩ := hok
  have HA2 := hide ha
  clear ha
  go_enter Try.func53, Try.ntmps53
  go_wp2_with fail
  refine (unhide HA).mono ?_
  rintro e w1 ⟨y, i, rfl, hr, p1⟩
  have g1 : Grows t 1 x y := Rds.facts hk hr
  have hy : LoopOk 901 t y := by
    refine ⟨g1.2.1, g1.2.2.1 hfs, ?_, fun hb => ?_⟩
    · have := g1.2.2.2; have := g1.2.1; omega
    · have := g1.2.2.2; have := g1.2.1; omega
  have hxy : x.s.k ≤ y.s.k := g1.1.1
  have HR := hide (fun r hr' => Rds.pattern (whole := 0) hr (r := r) hr')
  have HY := hide hy
  have hlft : left t y.s ≤ t.size + 1 := by unfold left; split <;> omega
  have HLF := hide hlft
  clear hr hy g1 hlft HA
  go_wp2_with fail
  go_loopg [3] (t.size + 1) (fun n p wr => ∃ (j : Int) (z : St), p = .int .i64 j ∧ Hid (left t z.s ≤ n ∧ LoopOk 901 t z ∧ x.s.k ≤ z.s.k ∧ PostS w wr b t z ∧ ∀ r, Rds t 1 j z r → Rds t 0 0 x r))
  case atStart => exact ⟨i, y, rfl, unhide HLF, unhide HY, hxy, p1, unhide HR⟩
  case round =>
    obtain ⟨j, z, rfl, H⟩ := hrel
    obtain ⟨hl, hz, hxz, pz, hcont⟩ := unhide H
    have HL := hide hl
    have HZ := hide hz
    have HC := hide hcont
    have hkz := hz.1
    clear hl hz hcont H p1 HLF HY HR
    by_cases hc : (z.s.pk t == 124) = true
    · obtain ⟨hbz, hlz⟩ := S1.pk_lt (t := t) (s := z.s) (by rw [beq_iff_eq] at hc; omega)
      obtain ⟨z1, z2, z3, z4⟩ := unhide HZ
      have z5 := z4 hbz
      have e1 := takeS_eq hc
      have HOK : Hid (OkS t (z.at (takeS t 124 z.s))) := by
        refine ⟨takeS_le (by omega) hkz, z2, ?_⟩
        rw [e1]; simp only [St.at]; omega
      have hm' : t.size - (z.at (takeS t 124 z.s)).s.k ≤ m := by rw [e1]; simp only [St.at]; omega
      have hks : (takeS t 124 z.s).k = z.s.k + 1 := by rw [e1]
      have HKS := hide hks
      have HC' := hide hc
      clear z4 e1 hks
      go_wp2_with fail
      refine (take_S _ b t z 124 pz.2 ht hkz).mono ?_
      rintro e w2 ⟨rfl, hw2⟩
      go_wp2_with fail
      refine (unhide HA2 w2 b _ hw2.2 (unhide HOK) hm').mono ?_
      rintro e w3 ⟨y2, i2, rfl, hr2, hw3⟩
      have g1 : Grows t 1 (z.at (takeS t 124 z.s)) y2 := Rds.facts (unhide HOK).1 hr2
      have n1 := g1.2.2.2
      have n2 := g1.1.1
      simp only [St.at, unhide HKS] at n1 n2
      have HLT := hide (left_goes (t := t) hbz g1.2.1 (Or.inr (by omega)))
      have hn2 : y2.ns.length ≤ 1000 := by have := g1.2.1; omega
      have H3 : Hid (LoopOk 901 t (y2.add ⟨3, j, i2, 0, 0, 0⟩)) := by
        refine ⟨g1.2.1, ?_, ?_, fun hb => ?_⟩
        · have := g1.2.2.1 z2; simp only [St.add, List.length_append, List.length_cons, List.length_nil]; omega
        · have := g1.2.1; simp only [St.add, List.length_append, List.length_cons, List.length_nil]; omega
        · have := g1.2.1; simp only [St.add, List.length_append, List.length_cons, List.length_nil]; omega
      have hxy2 : x.s.k ≤ y2.s.k := by omega
      have HK := hide (fun r hr => unhide HC r (Rds.alt (unhide HC') hr2 hr))
      clear g1 hr2 n1 n2
      go_wp2_with fail
      refine (add_S _ b t y2 3 j i2 0 0 0 hw3.2 hn2).mono ?_
      rintro e w4 ⟨rfl, hw4⟩
      go_wp2
      go_roundg (gk - 1)
      case measure => have := unhide HL; have := unhide HLT; omega
      case rel => exact ⟨_, _, rfl, by have := unhide HL; have := unhide HLT; show left t y2.s ≤ gk - 1; omega, unhide H3, hxy2, ((pz.trans hw2).trans hw3).trans hw4, unhide HK⟩
    · have hc' : (z.s.pk t == 124) = false := by simpa using hc
      have t1 : z.at (takeS t 124 z.s) = z := by simp only [takeS, hc']; rfl
      have HT := hide t1
      clear hc t1
      go_wp2_with fail
      refine (take_S _ b t z 124 pz.2 ht hkz).mono ?_
      rw [unhide HT]
      rintro e w2 ⟨rfl, hw2⟩
      have HE := hide (unhide HC _ (Rds.altEnd hc'))
      go_wp2
      go_ret
      exact ⟨_, _, rfl, unhide HE, pz.trans hw2⟩

/-- Every pattern is read. -/
theorem readPattern_any (t : ByteArray) (ht : t.size ≤ 60) : ∀ m, Does 53 0 t m := by
  intro m
  induction m using Nat.strongRecOn with
  | _ m ih => exact pattern_of_branch t ht m (branch_of_piece t ht m (piece_of_atom t ht m (atom_of_pattern t ht m ih)))

end Go.Proofs.Ytohefinejdfhaab
