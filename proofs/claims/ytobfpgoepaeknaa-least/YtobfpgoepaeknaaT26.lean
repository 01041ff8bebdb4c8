/-
  A graph in memory: what its calls tell. Lists that are looked up: table.at, table.same.
  table.same: are two states alike, as far as the kinds tell?
-/
import Derived.Test.YtobfpgoepaeknaaT25
import Derived.Test.YtobfpgoepaeknaaT24
namespace Go.Proofs.Ytobfpgoepaeknaa
open Go.RowKit

structure GraphB (w : World) (g M : Nat) (F : Nat → Nat) (grs : List Bool) (nxs : List Nat) : Prop where
  ex : ∃ la lc gv nv, w.heap[g]? = some (.cells (graphA (.slice la M lc) F gv nv) 101 (0, 0)) ∧ BRow w 0 gv grs ∧ NRow w 0 nv nxs
theorem BRow.below {w w' : World} {B : Nat} {v : Value} {xs : List Bool} (h : BRow w B v xs) (hb : Below w.heap.size w w') : BRow w' B v xs := own_below h hb
theorem BRow.zero' {w : World} {B : Nat} {v : Value} {xs : List Bool} (h : BRow w B v xs) : BRow w 0 v xs := ownsRow_less h (Nat.zero_le _)
theorem GraphB.below {w w' : World} {g M : Nat} {F : Nat → Nat} {grs : List Bool} {nxs : List Nat} (h : GraphB w g M F grs nxs) (hb : Below w.heap.size w w') : GraphB w' g M F grs nxs := by
  obtain ⟨la, lc, gv, nv, h1, h2, h3⟩ := h.ex
  exact ⟨la, lc, gv, nv, by rw [hb.block _ (Array.getElem?_eq_some_iff.1 h1).1]; exact h1, h2.below hb, h3.below hb⟩
theorem GraphB.drew {w : World} {g M : Nat} {F : Nat → Nat} {grs : List Bool} {nxs : List Nat} (h : GraphB w g M F grs nxs) : GraphB w.drew g M F grs nxs := ⟨h.ex⟩

theorem at_any (w : World) (B : Nat) (v : Value) (xs : List Nat) (i : Nat) (h : NRow w B v xs) (hl : xs.length ≤ 10000000) :
    Calls Try.prog 73 #[v, .int .i64 (i : Int)] w fun e w' => e = .returned (.int .i64 ((xs.getD i 0 : Nat) : Int)) ∧ w' = w := by
  have hlI : (xs.length : Int) ≤ 10000000 := by omega
  by_cases hi : i < xs.length
  · obtain ⟨g, cap, rfl, hc⟩ := h.at hi
    have hiI : (i : Int) < (xs.length : Int) := by omega
    have h0 : ¬ (i : Int) < 0 := by omega
    generalize xs.getD i 0 = x at *
    generalize xs.length = n at *
    clear hl hi h
    go_enter Try.func73, Try.ntmps73
    go_wp2
    go_ret
    exact ⟨rfl, rfl⟩
  · obtain ⟨a, c, rfl⟩ := h.form
    have e1 : xs.getD i 0 = 0 := by rw [List.getD_eq_getElem?_getD, List.getElem?_eq_none (by omega)]; rfl
    rw [e1]
    have hiI : ¬ (i : Int) < (xs.length : Int) := by omega
    have hiJ : (xs.length : Int) ≤ (i : Int) := by omega
    have h0 : ¬ (i : Int) < 0 := by omega
    generalize xs.length = n at *
    clear hl hi h e1
    go_enter Try.func73, Try.ntmps73
    go_wp2
    go_ret
    exact ⟨rfl, rfl⟩

section graph
variable (w : World) (g M : Nat) (F : Nat → Nat) (grs : List Bool) (nxs : List Nat)
theorem States_any (h : GraphB w g M F grs nxs) : Calls Try.prog 88 #[.pointer (some ⟨g, 0, none⟩)] w fun e w' => e = .returned (.int .i64 ((grs.length : Nat) : Int)) ∧ w' = w := by
  obtain ⟨la, lc, gv, nv, h1, h2, h3⟩ := h.ex
  obtain ⟨ga, gc, rfl⟩ := h2.form
  have y : w.cell? ⟨g, 257, none⟩ = some (.slice ga grs.length gc) := by rw [cell_of_row _ _ _ _ _ _ h1, graphA_257]
  generalize grs.length = n at *
  clear h h1 h2 h3
  go_enter Try.func88, Try.ntmps88
  go_wp2
  go_ret
  exact ⟨rfl, rfl⟩
theorem Letters_any (h : GraphB w g M F grs nxs) : Calls Try.prog 90 #[.pointer (some ⟨g, 0, none⟩)] w fun e w' => e = .returned (.int .i64 (M : Int)) ∧ w' = w := by
  obtain ⟨la, lc, gv, nv, h1, h2, h3⟩ := h.ex
  have y : w.cell? ⟨g, 0, none⟩ = some (.slice la M lc) := by rw [cell_of_row _ _ _ _ _ _ h1, graphA_0]
  clear h h1 h2 h3
  go_enter Try.func90, Try.ntmps90
  go_wp2
  go_ret
  exact ⟨rfl, rfl⟩
theorem Letter_any (h : GraphB w g M F grs nxs) (b : Nat) (hb : b < 256) : Calls Try.prog 74 #[.pointer (some ⟨g, 0, none⟩), .int .u8 (b : Int)] w fun e w' => e = .returned (.int .i64 ((F b : Nat) : Int)) ∧ w' = w := by
  obtain ⟨la, lc, gv, nv, h1, h2, h3⟩ := h.ex
  have y : w.cell? ⟨g, 1 + b, none⟩ = some (.int .i64 ((F b : Nat) : Int)) := by rw [cell_of_row _ _ _ _ _ _ h1, graphA_b _ _ _ _ hb]
  have hbI : (b : Int) < 256 := by omega
  clear h h1 h2 h3 hb
  go_enter Try.func74, Try.ntmps74
  go_wp2
  go_ret
  exact ⟨rfl, rfl⟩
theorem Granted_any (h : GraphB w g M F grs nxs) (i : Nat) (hl : grs.length ≤ 10000) : Calls Try.prog 75 #[.pointer (some ⟨g, 0, none⟩), .int .i64 (i : Int)] w fun e w' => e = .returned (.bool (grs.getD i false)) ∧ w' = w := by
  obtain ⟨la, lc, gv, nv, h1, h2, h3⟩ := h.ex
  have hlI : (grs.length : Int) ≤ 10000 := by omega
  by_cases hi : i < grs.length
  · obtain ⟨gg, cap, rfl, hc⟩ := h2.at hi
    have y : w.cell? ⟨g, 257, none⟩ = some (.slice (some ⟨gg, 0, none⟩) grs.length cap) := by rw [cell_of_row _ _ _ _ _ _ h1, graphA_257]
    have hiI : (i : Int) < (grs.length : Int) := by omega
    have h0 : (0 : Int) ≤ (i : Int) := by omega
    generalize grs.getD i false = x at *
    generalize grs.length = n at *
    clear hl hi h h1 h2 h3
    go_enter Try.func75, Try.ntmps75
    go_wp2
    go_ret
    exact ⟨rfl, rfl⟩
  · obtain ⟨ga, gc, rfl⟩ := h2.form
    have y : w.cell? ⟨g, 257, none⟩ = some (.slice ga grs.length gc) := by rw [cell_of_row _ _ _ _ _ _ h1, graphA_257]
    have e1 : grs.getD i false = false := by rw [List.getD_eq_getElem?_getD, List.getElem?_eq_none (by omega)]; rfl
    rw [e1]
    have hiI : ¬ (i : Int) < (grs.length : Int) := by omega
    have h0 : (0 : Int) ≤ (i : Int) := by omega
    generalize grs.length = n at *
    clear hl hi h e1 h1 h2 h3
    go_enter Try.func75, Try.ntmps75
    go_wp2
    go_ret
    exact ⟨rfl, rfl⟩
end graph

/-- Where a letter leads from a state. -/
def nlM (nxs : List Nat) (M i c : Nat) : Nat := nxs.getD (i * M + c) 0
theorem Next_any (w : World) (g M : Nat) (F : Nat → Nat) (grs : List Bool) (nxs : List Nat) (h : GraphB w g M F grs nxs) (i c : Nat) (hM : M ≤ 256) (hi : i ≤ 10000) (hc : c ≤ 256) (hl : nxs.length ≤ 3000000) :
    Calls Try.prog 92 #[.pointer (some ⟨g, 0, none⟩), .int .i64 (i : Int), .int .i64 (c : Int)] w fun e w' => e = .returned (.int .i64 ((nlM nxs M i c : Nat) : Int)) ∧ w' = w := by
  obtain ⟨la, lc, gv, nv, h1, h2, h3⟩ := h.ex
  have hq1 : i * M ≤ 10000 * 256 := Nat.mul_le_mul hi hM
  unfold nlM
  have y0 : w.cell? ⟨g, 0, none⟩ = some (.slice la M lc) := by rw [cell_of_row _ _ _ _ _ _ h1, graphA_0]
  obtain ⟨q, hq⟩ : ∃ q, i * M = q := ⟨_, rfl⟩
  rw [hq] at hq1 ⊢
  have hqI : (i : Int) * (M : Int) = (q : Int) := by rw [← hq, Int.natCast_mul]
  have hq2 : (q : Int) ≤ 2560000 := by omega
  have hcI : (c : Int) ≤ 256 := by omega
  have hMI : (M : Int) ≤ 256 := by omega
  have hiI : (i : Int) ≤ 10000 := by omega
  have hlI : (nxs.length : Int) ≤ 3000000 := by omega
  have h0 : ¬ (q : Int) + (c : Int) < 0 := by omega
  have hw1 : IntKind.i64.wrap ((i : Int) * (M : Int)) = (q : Int) := by rw [hqI]; exact wrap_i64 q (by unfold top; omega)
  by_cases hk : q + c < nxs.length
  · obtain ⟨gg, cap, rfl, hx⟩ := h3.at hk
    have y3 : w.cell? ⟨g, 258, none⟩ = some (.slice (some ⟨gg, 0, none⟩) nxs.length cap) := by rw [cell_of_row _ _ _ _ _ _ h1, graphA_258]
    have hkI : (q : Int) + (c : Int) < (nxs.length : Int) := by omega
    have hkJ : ¬ (nxs.length : Int) ≤ (q : Int) + (c : Int) := by omega
    generalize nxs.getD (q + c) 0 = x at *
    generalize nxs.length = n at *
    clear hl hi h hq hk hq1 hM hc h1 h2 h3
    go_enter Try.func92, Try.ntmps92
    go_wp2
    go_ret
    exact ⟨rfl, rfl⟩
  · obtain ⟨na, nc, rfl⟩ := h3.form
    have y3 : w.cell? ⟨g, 258, none⟩ = some (.slice na nxs.length nc) := by rw [cell_of_row _ _ _ _ _ _ h1, graphA_258]
    have e1 : nxs.getD (q + c) 0 = 0 := by rw [List.getD_eq_getElem?_getD, List.getElem?_eq_none (by omega)]; rfl
    rw [e1]
    have hkJ : (nxs.length : Int) ≤ (q : Int) + (c : Int) := by omega
    generalize nxs.length = n at *
    clear hl hi h hq hk hq1 hM hc h1 h2 h3 e1
    go_enter Try.func92, Try.ntmps92
    go_wp2
    go_ret
    exact ⟨rfl, rfl⟩

end Go.Proofs.Ytobfpgoepaeknaa
namespace Go.Proofs.Ytobfpgoepaeknaa
open Go.RowKit

/-- What the bounds of a graph are. -/
structure Small (M : Nat) (grs : List Bool) (nxs : List Nat) : Prop where
  m : M ≤ 256
  g : grs.length ≤ 10000
  n : nxs.length ≤ 3000000

set_option maxHeartbeats 1000000 in
theorem tsame_any (w : World) (g M : Nat) (F : Nat → Nat) (grs : List Bool) (nxs : List Nat) (h : GraphB w g M F grs nxs) (hs : Small M grs nxs) (B : Nat) (kv : Value) (ks : List Nat) (hK : NRow w B kv ks) (hk : ks.length ≤ 10000) (a b : Nat) (ha : a ≤ 10000) (hb : b ≤ 10000) :
    Calls Try.prog 100 #[.pointer (some ⟨g, 0, none⟩), kv, .int .i64 (a : Int), .int .i64 (b : Int)] w fun e w' => (∃ y, e = .returned (.bool y) ∧ (y = true ↔ EsL (fun i => grs.getD i false) (nlM nxs M) M (fun i => ks.getD i 0) a b)) ∧ w' = w := by
  have HA : Hid (∀ i : Nat, Calls Try.prog 73 #[kv, .int .i64 (i : Int)] w fun e w' => e = .returned (.int .i64 ((ks.getD i 0 : Nat) : Int)) ∧ w' = w) := fun i => at_any w B kv ks i hK (by omega)
  have HN : Hid (∀ i c : Nat, i ≤ 10000 → c ≤ 256 → Calls Try.prog 92 #[.pointer (some ⟨g, 0, none⟩), .int .i64 (i : Int), .int .i64 (c : Int)] w fun e w' => e = .returned (.int .i64 ((nlM nxs M i c : Nat) : Int)) ∧ w' = w) := fun i c hi hc => Next_any w g M F grs nxs h i c hs.m hi hc hs.n
  have HG : Hid (∀ i : Nat, Calls Try.prog 75 #[.pointer (some ⟨g, 0, none⟩), .int .i64 (i : Int)] w fun e w' => e = .returned (.bool (grs.getD i false)) ∧ w' = w) := fun i => Granted_any w g M F grs nxs h i hs.g
  have HL := hide (Letters_any w g M F grs nxs h)
  have HM := hide hs.m
  have HE : Hid (EsL (fun i => grs.getD i false) (nlM nxs M) M (fun i => ks.getD i 0) a b ↔ (ks.getD a 0 = ks.getD b 0 ∧ grs.getD a false = grs.getD b false ∧ ∀ l, l < M → ks.getD (nlM nxs M a l) 0 = ks.getD (nlM nxs M b l) 0)) := Iff.rfl
  have HAA := hide ha
  have HBB := hide hb
  have hMI : (M : Int) ≤ 256 := by have := hs.m; omega
  obtain ⟨ka, kc, rfl⟩ := hK.form
  generalize EsL (fun i => grs.getD i false) (nlM nxs M) M (fun i => ks.getD i 0) a b = E at *
  have HAa := hide (unhide HA a)
  have HAb := hide (unhide HA b)
  have HGa := hide (unhide HG a)
  have HGb := hide (unhide HG b)
  generalize ks.getD a 0 = x at *
  generalize ks.getD b 0 = y at *
  generalize grs.getD a false = p at *
  generalize grs.getD b false = q at *
  clear h hs hK hk ha hb HG
  by_cases hxy : x = y
  · subst hxy
    by_cases hpq : p = q
    · subst hpq
      go_enter Try.func100, Try.ntmps100
      go_wp2_with fail
      refine (unhide HAa).mono ?_
      rintro e w1 ⟨rfl, hww⟩
      obtain rfl : w = w1 := hww.symm
      clear hww
      go_wp2_with fail
      refine (unhide HAb).mono ?_
      rintro e w1 ⟨rfl, hww⟩
      obtain rfl : w = w1 := hww.symm
      clear hww
      go_wp2_with fail
      refine (unhide HGa).mono ?_
      rintro e w1 ⟨rfl, hww⟩
      obtain rfl : w = w1 := hww.symm
      clear hww
      go_wp2_with fail
      refine (unhide HGb).mono ?_
      rintro e w1 ⟨rfl, hww⟩
      obtain rfl : w = w1 := hww.symm
      clear hww
      go_wp2_with fail
      go_loopw [9] (fun lx wr => ∃ l : Nat, lx = .int .i64 (l : Int) ∧ Hid (l ≤ M) ∧ Hid (∀ l', l' < l → ks.getD (nlM nxs M a l') 0 = ks.getD (nlM nxs M b l') 0) ∧ wr = w) (fun lx _ => M - (intOf lx).toNat)
      case atStart => exact ⟨0, rfl, Nat.zero_le _, fun l' hl' => absurd hl' (Nat.not_lt_zero _), rfl⟩
      case round =>
        rename World => wr
        obtain ⟨l, rfl, HL1, HL2, hwr⟩ := hrel
        obtain rfl : w = wr := hwr.symm
        clear hwr
        go_wp2_with fail
        refine (unhide HL).mono ?_
        rintro e w1 ⟨rfl, hww⟩
        obtain rfl : w = w1 := hww.symm
        clear hww
        by_cases hlM : l < M
        · have hlI : (l : Int) < (M : Int) := by omega
          have HLM := hide hlM
          have HN1 := hide (unhide HN a l (unhide HAA) (by have := unhide HM; omega))
          have HN2 := hide (unhide HN b l (unhide HBB) (by have := unhide HM; omega))
          have HA1 := hide (unhide HA (nlM nxs M a l))
          have HA2 := hide (unhide HA (nlM nxs M b l))
          have HSN : Hid (ks.getD (nlM nxs M a l) 0 = ks.getD (nlM nxs M b l) 0 → ∀ l', l' < l + 1 → ks.getD (nlM nxs M a l') 0 = ks.getD (nlM nxs M b l') 0) := fun he l' hl' => by
            by_cases hq : l' = l
            · subst hq; exact he
            · exact unhide HL2 l' (by omega)
          have HNO : Hid (ks.getD (nlM nxs M a l) 0 ≠ ks.getD (nlM nxs M b l) 0 → ¬ E) := fun hne hE => hne (((unhide HE).1 hE).2.2 l hlM)
          generalize nlM nxs M a l = s at *
          generalize nlM nxs M b l = t at *
          generalize ks.getD s 0 = c at *
          generalize ks.getD t 0 = d at *
          clear hlM
          go_wp2_with fail
          refine (unhide HN1).mono ?_
          rintro e w1 ⟨rfl, hww⟩
          obtain rfl : w = w1 := hww.symm
          clear hww
          go_wp2_with fail
          refine (unhide HA1).mono ?_
          rintro e w1 ⟨rfl, hww⟩
          obtain rfl : w = w1 := hww.symm
          clear hww
          go_wp2_with fail
          refine (unhide HN2).mono ?_
          rintro e w1 ⟨rfl, hww⟩
          obtain rfl : w = w1 := hww.symm
          clear hww
          go_wp2_with fail
          refine (unhide HA2).mono ?_
          rintro e w1 ⟨rfl, hww⟩
          obtain rfl : w = w1 := hww.symm
          clear hww
          by_cases hcd : c = d
          · subst hcd
            go_wp2_with fail
            go_roundw
            case rel => exact ⟨l + 1, by go_num, unhide HLM, unhide HSN (by first | rfl | trivial), by first | rfl | trivial⟩
            case measure => have := unhide HLM; simp [intOf]; omega
          · have hcI : ¬ (c : Int) = (d : Int) := by omega
            have HCD := hide hcd
            clear hcd
            go_wp2_with fail
            go_ret
            exact ⟨⟨false, rfl, by simp; exact unhide HNO (unhide HCD)⟩, rfl⟩
        · have hl2 : l = M := by have := unhide HL1; omega
          subst hl2
          go_wp2_with fail
          go_ret
          exact ⟨⟨true, rfl, by simp; exact (unhide HE).2 ⟨by first | rfl | trivial, by first | rfl | trivial, unhide HL2⟩⟩, rfl⟩
    · have HNE : Hid (¬ E) := fun hE => hpq ((unhide HE).1 hE).2.1
      have hpq2 : (p == q) = false := by cases p <;> cases q <;> simp at hpq ⊢
      clear hpq
      go_enter Try.func100, Try.ntmps100
      go_wp2_with fail
      refine (unhide HAa).mono ?_
      rintro e w1 ⟨rfl, hww⟩
      obtain rfl : w = w1 := hww.symm
      clear hww
      go_wp2_with fail
      refine (unhide HAb).mono ?_
      rintro e w1 ⟨rfl, hww⟩
      obtain rfl : w = w1 := hww.symm
      clear hww
      go_wp2_with fail
      refine (unhide HGa).mono ?_
      rintro e w1 ⟨rfl, hww⟩
      obtain rfl : w = w1 := hww.symm
      clear hww
      go_wp2_with fail
      refine (unhide HGb).mono ?_
      rintro e w1 ⟨rfl, hww⟩
      obtain rfl : w = w1 := hww.symm
      clear hww
      go_wp2_with fail
      go_ret
      exact ⟨⟨false, rfl, by simp; exact unhide HNE⟩, rfl⟩
  · have HNE : Hid (¬ E) := fun hE => hxy ((unhide HE).1 hE).1
    have hxI : ¬ (x : Int) = (y : Int) := by omega
    clear hxy
    go_enter Try.func100, Try.ntmps100
    go_wp2_with fail
    refine (unhide HAa).mono ?_
    rintro e w1 ⟨rfl, hww⟩
    obtain rfl : w = w1 := hww.symm
    clear hww
    go_wp2_with fail
    refine (unhide HAb).mono ?_
    rintro e w1 ⟨rfl, hww⟩
    obtain rfl : w = w1 := hww.symm
    clear hww
    go_wp2_with fail
    go_ret
    exact ⟨⟨false, rfl, by simp; exact unhide HNE⟩, rfl⟩

end Go.Proofs.Ytobfpgoepaeknaa
