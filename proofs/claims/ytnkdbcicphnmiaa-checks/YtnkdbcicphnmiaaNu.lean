/-
  veillaw.runs, Runs: at every input the law answers true.
-/
import Derived.Test.YtnkdbcicphnmiaaNt
namespace Go.Proofs.Ytnkdbcicphnmiaa
namespace Mc
open Go.RowKit
attribute [local go_sem ↓] Go.wp_at_zero Go.wp_at_succ

theorem NR.bel {w w' : World} {B : Nat} {v : Value} {xs : List Nat} (h : NR w B v xs) (hb : Below w.heap.size w w') : NR w' B v xs := (Fr.ofBelow hb).own h (by simp)
theorem bel_up {w a b : World} (h : Below w.heap.size w a) (k : Below a.heap.size a b) : Below w.heap.size w b := h.trans (k.mono h.size)

/-- All that came out, behind the three runs. -/
structure After (w2 w3 w4 W : World) (A : RunAns) (ov tv ov2 tv2 rv sv : Value) : Prop where
  le : w3.heap.size ≤ w4.heap.size
  le2 : w4.heap.size ≤ W.heap.size
  o1 : NR W w2.heap.size ov A.M
  t1 : NR W w2.heap.size tv A.T
  d1 : DjV ov tv
  b1 : ∀ q, ov.ownBlock = some q → q < w3.heap.size
  b2 : ∀ q, tv.ownBlock = some q → q < w3.heap.size
  o2 : NR W w3.heap.size ov2 A.M
  t2 : NR W w3.heap.size tv2 A.T
  d2 : DjV ov2 tv2
  b3 : ∀ q, ov2.ownBlock = some q → q < w4.heap.size
  b4 : ∀ q, tv2.ownBlock = some q → q < w4.heap.size
  o3 : NR W w4.heap.size rv A.M
  t3 : NR W w4.heap.size sv A.T
theorem After.bel {w2 w3 w4 W W' : World} {A : RunAns} {ov tv ov2 tv2 rv sv : Value} (h : After w2 w3 w4 W A ov tv ov2 tv2 rv sv) (hb : Below W.heap.size W W') : After w2 w3 w4 W' A ov tv ov2 tv2 rv sv :=
  ⟨h.le, Nat.le_trans h.le2 hb.size, h.o1.bel hb, h.t1.bel hb, h.d1, h.b1, h.b2, h.o2.bel hb, h.t2.bel hb, h.d2, h.b3, h.b4, h.o3.bel hb, h.t3.bel hb⟩
theorem after_of {w2 w3 w4 w5 : World} {A : RunAns} {ov tv ov2 tv2 rv sv : Value} (h1 : RunOut w2 w3 A ov tv) (h2 : RunOut w3 w4 A ov2 tv2) (h3 : RunOut w4 w5 A rv sv) : After w2 w3 w4 w5 A ov tv ov2 tv2 rv sv :=
  ⟨h2.below.size, h3.below.size, (h1.out.bel h2.below).bel h3.below, (h1.tr.bel h2.below).bel h3.below, h1.dj, fun q hq => (h1.out.lt q hq).2, fun q hq => (h1.tr.lt q hq).2, h2.out.bel h3.below, h2.tr.bel h3.below, h2.dj, fun q hq => (h2.out.lt q hq).2, fun q hq => (h2.tr.lt q hq).2, h3.out, h3.tr⟩
theorem After.lists {w2 w3 w4 W : World} {A : RunAns} {ov tv ov2 tv2 rv sv : Value} (h : After w2 w3 w4 W A ov tv ov2 tv2 rv sv) : Lists W [ov, tv, ov2, tv2] := by
  have far : ∀ u v : Value, (∀ q, u.ownBlock = some q → q < w3.heap.size) → (∀ q, v.ownBlock = some q → w3.heap.size ≤ q) → DjV u v := fun u v h1 h2 q a b => by have := h1 q a; have := h2 q b; omega
  have l2 := fun q hq => (h.o2.lt q hq).1
  have l3 := fun q hq => (h.t2.lt q hq).1
  refine ⟨fun i hi => ?_, fun i j hi hj hne => ?_⟩
  · match i, hi with
    | 0, _ => exact h.o1.room
    | 1, _ => exact h.t1.room
    | 2, _ => exact h.o2.room
    | 3, _ => exact h.t2.room
    | n + 4, hi => exact absurd hi (by simp)
  · have sym : ∀ {u v : Value}, DjV u v → DjV v u := fun h q a b => h q b a
    match i, hi, j, hj with
    | 0, _, 1, _ => exact h.d1
    | 1, _, 0, _ => exact sym h.d1
    | 2, _, 3, _ => exact h.d2
    | 3, _, 2, _ => exact sym h.d2
    | 0, _, 2, _ => exact far _ _ h.b1 l2
    | 0, _, 3, _ => exact far _ _ h.b1 l3
    | 1, _, 2, _ => exact far _ _ h.b2 l2
    | 1, _, 3, _ => exact far _ _ h.b2 l3
    | 2, _, 0, _ => exact sym (far _ _ h.b1 l2)
    | 3, _, 0, _ => exact sym (far _ _ h.b1 l3)
    | 2, _, 1, _ => exact sym (far _ _ h.b2 l2)
    | 3, _, 1, _ => exact sym (far _ _ h.b2 l3)
    | 0, _, 0, _ => exact absurd rfl hne
    | 1, _, 1, _ => exact absurd rfl hne
    | 2, _, 2, _ => exact absurd rfl hne
    | 3, _, 3, _ => exact absurd rfl hne
    | n + 4, hi, _, _ => exact absurd hi (by simp)
    | _, _, n + 4, hj => exact absurd hj (by simp)
theorem After.blocks {w2 w3 w4 W : World} {A : RunAns} {ov tv ov2 tv2 rv sv : Value} (h : After w2 w3 w4 W A ov tv ov2 tv2 rv sv) (h23 : w2.heap.size ≤ w3.heap.size) : ∀ q ∈ blocks [ov, tv, ov2, tv2], w2.heap.size ≤ q ∧ q < W.heap.size := by
  intro q hq
  have hl := h.le
  have hl2 := h.le2
  simp only [Mc.blocks, List.flatMap_cons, List.flatMap_nil, List.append_nil, List.mem_append, Option.mem_toList] at hq
  rcases hq with hq | hq | hq | hq
  · exact ⟨(h.o1.lt q hq).1, (h.o1.lt q hq).2⟩
  · exact ⟨(h.t1.lt q hq).1, (h.t1.lt q hq).2⟩
  · exact ⟨Nat.le_trans h23 (h.o2.lt q hq).1, (h.o2.lt q hq).2⟩
  · exact ⟨Nat.le_trans h23 (h.t2.lt q hq).1, (h.t2.lt q hq).2⟩

set_option maxRecDepth 20000 in
set_option maxHeartbeats 2000000 in
theorem runs_any (w : World) (cv mv : Value) (os : List OpI) (zs : List Int) (k : Int) (hc : OAt w cv os) (hm : IAt w mv zs) (ho : os.length ≤ 4398046511104) (hz : zs.length ≤ 17592186044416) :
    Calls Try.prog 12 #[cv, mv, .int .i64 k] w fun e w' => (∃ ov tv, e = .returned (.tuple #[ov, tv, .bool true])) ∧ Below w.heap.size w w' := by
  have HOA := hide hc
  have HMA := hide hm
  have HO := hide ho
  have HZ := hide hz
  have HSO := hide (spareOps_any w cv os hc ho)
  obtain ⟨ca, cc, rfl, -⟩ := hc
  obtain ⟨ma, mc, rfl, -⟩ := hm
  have HA : Hid (runAns os zs k = runAns os zs k) := rfl
  generalize hA : runAns os zs k = A at HA
  have HAE := hide hA
  clear ho hz hA HA
  go_enter Try.func12, Try.ntmps12
  go_wp2_with fail
  refine (unhide HSO).mono ?_
  rintro e w1 ⟨rfl, hb1, hs1⟩
  have HB1 := hide hb1
  have HS1 := hide hs1
  have HSI := hide (spareInts_any w1 _ zs ((unhide HMA).below hb1) (unhide HZ))
  clear hb1 hs1
  go_wp2_with fail
  refine (unhide HSI).mono ?_
  rintro e w2 ⟨rfl, hb2, hs2⟩
  have HB2 : Hid (Below w.heap.size w w2) := bel_up (unhide HB1) hb2
  have HS2 : Hid (SpO w2 w.heap.size os (os.length + 8)) := (unhide HS1).fr (Fr.ofBelow hb2) (by simp)
  have HM2 := hide hs2
  have HG1 : Hid (w.heap.size < w2.heap.size ∧ w1.heap.size < w2.heap.size) := by
    obtain ⟨cu, hg, -⟩ := hs2
    have h1 := (Array.getElem?_eq_some_iff.1 hg).1
    have h2 := (unhide HB1).size
    exact ⟨by omega, h1⟩
  generalize w1.heap.size = gm at *
  have HR1 := hide (VRun_any w2 _ _ os zs k (unhide HS2).oat hs2.iat)
  rw [unhide HAE] at HR1
  clear hb2 hs2 HSI HSO HS1 HB1
  go_wp2_with fail
  refine (unhide HR1).mono ?_
  rintro e w3 ⟨ov, tv, rfl, hr1⟩
  have HO1 := hide hr1
  obtain ⟨oa, oc, rfl⟩ := hr1.out.form
  obtain ⟨ta, tc, rfl⟩ := hr1.tr.form
  have HR2 := hide (VRun_any w3 _ _ os zs k ((unhide HS2).oat.below hr1.below) ((unhide HM2).iat.below hr1.below))
  rw [unhide HAE] at HR2
  clear hr1 HR1
  go_wp2_with fail
  refine (unhide HR2).mono ?_
  rintro e w4 ⟨ov2, tv2, rfl, hr2⟩
  have HO2 := hide hr2
  obtain ⟨oa2, oc2, rfl⟩ := hr2.out.form
  obtain ⟨ta2, tc2, rfl⟩ := hr2.tr.form
  have HB4 : Hid (Below w2.heap.size w2 w4) := bel_up (unhide HO1).below hr2.below
  have HR3 := hide (RRun_any w4 _ _ os zs k ((unhide HOA).below (bel_up (unhide HB2) (unhide HB4))) ((unhide HMA).below (bel_up (unhide HB2) (unhide HB4))))
  rw [unhide HAE] at HR3
  clear hr2 HR2
  go_wp2_with fail
  refine (unhide HR3).mono ?_
  rintro e w5 ⟨rv, sv, rfl, hr3⟩
  obtain ⟨ra, rc, rfl⟩ := hr3.out.form
  obtain ⟨sa, sc, rfl⟩ := hr3.tr.form
  have HAF := hide (after_of (unhide HO1) (unhide HO2) hr3)
  have HB5 : Hid (Below w2.heap.size w2 w5) := bel_up (unhide HB4) hr3.below
  have H23 : Hid (w2.heap.size ≤ w3.heap.size) := (unhide HO1).below.size
  have HLM : Hid (A.M.length ≤ 17592186044416 ∧ A.T.length ≤ 17592186044416) := by have := (unhide HO1).lm; have := (unhide HO1).lt; exact ⟨by omega, by omega⟩
  clear hr3 HR3 HO1 HO2 HB4
  have HMM : Hid ((A.M.map Int.ofNat).length ≤ 17592186044416) := by rw [List.length_map]; exact (unhide HLM).1
  have HTT : Hid ((A.T.map Int.ofNat).length ≤ 17592186044416) := by rw [List.length_map]; exact (unhide HLM).2
  have HQ1 := hide (fun W (hb : Below w5.heap.size w5 W) => sameInts_any W _ _ _ ((unhide HAF).bel hb).o1.iat ((unhide HAF).bel hb).o3.iat (unhide HMM))
  have HQ2 := hide (fun W (hb : Below w5.heap.size w5 W) => sameInts_any W _ _ _ ((unhide HAF).bel hb).t1.iat ((unhide HAF).bel hb).t3.iat (unhide HTT))
  have HQ3 := hide (fun W (hb : Below w5.heap.size w5 W) => sameInts_any W _ _ _ ((unhide HAF).bel hb).o2.iat ((unhide HAF).bel hb).o3.iat (unhide HMM))
  have HQ4 := hide (fun W (hb : Below w5.heap.size w5 W) => sameInts_any W _ _ _ ((unhide HAF).bel hb).t2.iat ((unhide HAF).bel hb).t3.iat (unhide HTT))
  have HU : Hid (∀ W, Below w5.heap.size w5 W → Calls Try.prog 35 #[.slice (some ⟨w.heap.size, 0, none⟩) os.length (os.length + 8), .slice ca os.length cc, .slice (some ⟨gm, 0, none⟩) zs.length (zs.length + 8), .slice ma zs.length mc] W fun e w' => e = .returned (.bool true) ∧ Below W.heap.size W w') := fun W hb => by
    have h2 := bel_up (unhide HB5) hb
    exact untouched_any W w.heap.size gm _ _ os zs ((unhide HOA).below (bel_up (unhide HB2) h2)) ((unhide HMA).below (bel_up (unhide HB2) h2)) ((unhide HS2).fr (Fr.ofBelow h2) (by simp)) ((unhide HM2).fr (Fr.ofBelow h2) (by simp)) (unhide HO) (unhide HZ)
  have HOW : Hid (∀ W, Below w5.heap.size w5 W → Calls Try.prog 36 #[.slice (some ⟨W.heap.size, 0, none⟩) 4 4] (W.alloc (Obj.cells #[.slice oa A.M.length oc, .slice ta A.T.length tc, .slice oa2 A.M.length oc2, .slice ta2 A.T.length tc2] 23)) fun e w' => e = .returned (.bool true) ∧ Fr (blocks [.slice oa A.M.length oc, .slice ta A.T.length tc, .slice oa2 A.M.length oc2, .slice ta2 A.T.length tc2]) (W.alloc (Obj.cells #[.slice oa A.M.length oc, .slice ta A.T.length tc, .slice oa2 A.M.length oc2, .slice ta2 A.T.length tc2] 23)) w') := fun W hb => by
    have hL := ((unhide HAF).bel hb)
    have hL2 := hL.bel ((Below.refl W.heap.size W).alloc (Nat.le_refl _) (Obj.cells #[.slice oa A.M.length oc, .slice ta A.T.length tc, .slice oa2 A.M.length oc2, .slice ta2 A.T.length tc2] 23))
    refine own_any _ W.heap.size [.slice oa A.M.length oc, .slice ta A.T.length tc, .slice oa2 A.M.length oc2, .slice ta2 A.T.length tc2] (heap_alloc_new _ _) hL2.lists (by simp) (fun hm => ?_)
    have := (hL.blocks (unhide H23) _ hm).2
    omega
  have HU2 : Hid (∀ W w', Below w5.heap.size w5 W → Fr (blocks [.slice oa A.M.length oc, .slice ta A.T.length tc, .slice oa2 A.M.length oc2, .slice ta2 A.T.length tc2]) (W.alloc (Obj.cells #[.slice oa A.M.length oc, .slice ta A.T.length tc, .slice oa2 A.M.length oc2, .slice ta2 A.T.length tc2] 23)) w' → Below w.heap.size w w' ∧ Calls Try.prog 35 #[.slice (some ⟨w.heap.size, 0, none⟩) os.length (os.length + 8), .slice ca os.length cc, .slice (some ⟨gm, 0, none⟩) zs.length (zs.length + 8), .slice ma zs.length mc] w' fun e w'' => e = .returned (.bool true) ∧ Below w'.heap.size w' w'') := fun W w' hb hf => by
    have h2 := bel_up (unhide HB5) hb
    have h3 := bel_up h2 ((Below.refl W.heap.size W).alloc (Nat.le_refl _) (Obj.cells #[.slice oa A.M.length oc, .slice ta A.T.length tc, .slice oa2 A.M.length oc2, .slice ta2 A.T.length tc2] 23))
    have hbl := ((unhide HAF).bel hb).blocks (unhide H23)
    obtain ⟨g1, g2⟩ := unhide HG1
    have h4 : Below w.heap.size w w' := by
      have h5 := bel_up (unhide HB2) h3
      exact (((Fr.ofBelow h5).mono (S' := blocks [.slice oa A.M.length oc, .slice ta A.T.length tc, .slice oa2 A.M.length oc2, .slice ta2 A.T.length tc2]) (by simp)).and hf (fun x hx => .inl hx)).below (fun x hx => by have := (hbl x hx).1; omega)
    exact ⟨h4, untouched_any w' w.heap.size gm _ _ os zs ((unhide HOA).below h4) ((unhide HMA).below h4) (((unhide HS2).fr (Fr.ofBelow h3) (by simp)).fr hf (fun hm => by have := (hbl _ hm).1; omega)) (((unhide HM2).fr (Fr.ofBelow h3) (by simp)).fr hf (fun hm => by have := (hbl _ hm).1; omega)) (unhide HO) (unhide HZ)⟩
  generalize A.M.length = ml at *
  generalize A.T.length = tl at *
  clear HAF HLM HMM HTT
  go_wp2_with (go_at_call 17; refine (num_any _ _).mono ?_; rintro e w' ⟨rfl, hww⟩; obtain rfl : w5 = w' := hww.symm; clear hww)
  refine (unhide HQ1 w5 (Below.refl _ _)).mono ?_
  rintro e w6 ⟨rfl, hb6⟩
  have HB6 := hide hb6
  clear hb6
  go_wp2_with fail
  refine (unhide HQ2 w6 (unhide HB6)).mono ?_
  rintro e w7 ⟨rfl, hb7⟩
  have HB7 := hide (bel_up (unhide HB6) hb7)
  clear hb7
  go_wp2_with fail
  refine (unhide HQ3 w7 (unhide HB7)).mono ?_
  rintro e w8 ⟨rfl, hb8⟩
  have HB8 := hide (bel_up (unhide HB7) hb8)
  clear hb8
  go_wp2_with fail
  refine (unhide HQ4 w8 (unhide HB8)).mono ?_
  rintro e w9 ⟨rfl, hb9⟩
  have HB9 := hide (bel_up (unhide HB8) hb9)
  clear hb9
  go_wp2_with fail
  refine (unhide HU w9 (unhide HB9)).mono ?_
  rintro e w10 ⟨rfl, hb10⟩
  have HB10 := hide (bel_up (unhide HB9) hb10)
  clear hb10
  go_wp2_with fail
  refine (unhide HOW w10 (unhide HB10)).mono ?_
  rintro e w11 ⟨rfl, hf11⟩
  have HU3 := hide (unhide HU2 w10 w11 (unhide HB10) hf11)
  clear hf11
  go_wp2_with fail
  refine (unhide HU3).2.mono ?_
  rintro e w12 ⟨rfl, hb12⟩
  have HB12 := hide (bel_up (unhide HU3).1 hb12)
  clear hb12
  go_wp2_with fail
  refine bodyPost_ret (v := .tuple #[.slice oa ml oc, .slice ta tl tc, .bool true]) (by simp [results, Try.results12, go_sem]) rfl ?_
  exact ⟨⟨_, _, rfl⟩, unhide HB12⟩

set_option maxRecDepth 20000 in
set_option maxHeartbeats 1000000 in
theorem Runs_any (w : World) (cv mv : Value) (os : List OpI) (zs : List Int) (k : Int) (hc : OAt w cv os) (hm : IAt w mv zs) (ho : os.length ≤ 4398046511104) (hz : zs.length ≤ 17592186044416) :
    Calls Try.prog 3 #[cv, mv, .int .i64 k] w fun e w' => e = .returned (.bool true) ∧ Below w.heap.size w w' := by
  have HR := hide (runs_any w cv mv os zs k hc hm ho hz)
  obtain ⟨ca, cc, rfl, -⟩ := hc
  obtain ⟨ma, mc, rfl, -⟩ := hm
  go_enter Try.func3, Try.ntmps3
  go_wp2_with fail
  refine (unhide HR).mono ?_
  rintro e w1 ⟨⟨ov, tv, rfl⟩, hb⟩
  have HB := hide hb
  clear hb
  go_wp2_with fail
  go_ret
  exact ⟨rfl, unhide HB⟩

end Mc
end Go.Proofs.Ytnkdbcicphnmiaa
