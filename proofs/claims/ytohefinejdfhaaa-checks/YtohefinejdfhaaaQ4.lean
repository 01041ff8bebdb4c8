/-
  veillaw.runs, Runs: at every input the law answers true.
  veillaw.codes: what the statement asks of Code.
  veillaw.codes over an image.
-/
import Derived.Test.YtohefinejdfhaaaNt
import Derived.Test.YtohefinejdfhaaaQ3
namespace Go.Proofs.Ytohefinejdfhaaa
namespace Mc
open Go.RowKit
attribute [local go_sem ↓] Go.wp_at_zero Go.wp_at_succ

theorem NR.bel {w w' : World} {B : Nat} {v : Value} {xs : List Nat} (h : NR w B v xs) (hb : Below w.heap.size w w') : NR w' B v xs := (Fr.ofBelow hb).own h (by simp)
theorem bel_up {w a b : World} (h : Below w.heap.size w a) (k : Below a.heap.size a b) : Below w.heap.size w b := h.trans (k.mono h.size)

/-- All that came out, behind the three runs. -/
structure After (w2 w3 w4 W : World) (A : RunAns) (ov tv ov2 tv2 rv sv : Value) : Prop where
  le : w3.heap.size ≤ w4.heap.size
  le2 : w4.heap.size ≤ W.heap.size
  o1 : NR W w2.heap.size ov A.M
  t1 : NR W w2.heap.size tv A.T
  d1 : DjV ov tv
  b1 : ∀ q, ov.ownBlock = some q → q < w3.heap.size
  b2 : ∀ q, tv.ownBlock = some q → q < w3.heap.size
  o2 : NR W w3.heap.size ov2 A.M
  t2 : NR W w3.heap.size tv2 A.T
  d2 : DjV ov2 tv2
  b3 : ∀ q, ov2.ownBlock = some q → q < w4.heap.size
  b4 : ∀ q, tv2.ownBlock = some q → q < w4.heap.size
  o3 : NR W w4.heap.size rv A.M
  t3 : NR W w4.heap.size sv A.T
theorem After.bel {w2 w3 w4 W W' : World} {A : RunAns} {ov tv ov2 tv2 rv sv : Value} (h : After w2 w3 w4 W A ov tv ov2 tv2 rv sv) (hb : Below W.heap.size W W') : After w2 w3 w4 W' A ov tv ov2 tv2 rv sv :=
  ⟨h.le, Nat.le_trans h.le2 hb.size, h.o1.bel hb, h.t1.bel hb, h.d1, h.b1, h.b2, h.o2.bel hb, h.t2.bel hb, h.d2, h.b3, h.b4, h.o3.bel hb, h.t3.bel hb⟩
theorem after_of {w2 w3 w4 w5 : World} {A : RunAns} {ov tv ov2 tv2 rv sv : Value} (h1 : RunOut w2 w3 A ov tv) (h2 : RunOut w3 w4 A ov2 tv2) (h3 : RunOut w4 w5 A rv sv) : After w2 w3 w4 w5 A ov tv ov2 tv2 rv sv :=
  ⟨h2.below.size, h3.below.size, (h1.out.bel h2.below).bel h3.below, (h1.tr.bel h2.below).bel h3.below, h1.dj, fun q hq => (h1.out.lt q hq).2, fun q hq => (h1.tr.lt q hq).2, h2.out.bel h3.below, h2.tr.bel h3.below, h2.dj, fun q hq => (h2.out.lt q hq).2, fun q hq => (h2.tr.lt q hq).2, h3.out, h3.tr⟩
theorem After.lists {w2 w3 w4 W : World} {A : RunAns} {ov tv ov2 tv2 rv sv : Value} (h : After w2 w3 w4 W A ov tv ov2 tv2 rv sv) : Lists W [ov, tv, ov2, tv2] := by
  have far : ∀ u v : Value, (∀ q, u.ownBlock = some q → q < w3.heap.size) → (∀ q, v.ownBlock = some q → w3.heap.size ≤ q) → DjV u v := fun u v h1 h2 q a b => by have := h1 q a; have := h2 q b; omega
  have l2 := fun q hq => (h.o2.lt q hq).1
  have l3 := fun q hq => (h.t2.lt q hq).1
  refine ⟨fun i hi => ?_, fun i j hi hj hne => ?_⟩
  · match i, hi with
    | 0, _ => exact h.o1.room
    | 1, _ => exact h.t1.room
    | 2, _ => exact h.o2.room
    | 3, _ => exact h.t2.room
    | n + 4, hi => exact absurd hi (by simp)
  · have sym : ∀ {u v : Value}, DjV u v → DjV v u := fun h q a b => h q b a
    match i, hi, j, hj with
    | 0, _, 1, _ => exact h.d1
    | 1, _, 0, _ => exact sym h.d1
    | 2, _, 3, _ => exact h.d2
    | 3, _, 2, _ => exact sym h.d2
    | 0, _, 2, _ => exact far _ _ h.b1 l2
    | 0, _, 3, _ => exact far _ _ h.b1 l3
    | 1, _, 2, _ => exact far _ _ h.b2 l2
    | 1, _, 3, _ => exact far _ _ h.b2 l3
    | 2, _, 0, _ => exact sym (far _ _ h.b1 l2)
    | 3, _, 0, _ => exact sym (far _ _ h.b1 l3)
    | 2, _, 1, _ => exact sym (far _ _ h.b2 l2)
    | 3, _, 1, _ => exact sym (far _ _ h.b2 l3)
    | 0, _, 0, _ => exact absurd rfl hne
    | 1, _, 1, _ => exact absurd rfl hne
    | 2, _, 2, _ => exact absurd rfl hne
    | 3, _, 3, _ => exact absurd rfl hne
    | n + 4, hi, _, _ => exact absurd hi (by simp)
    | _, _, n + 4, hj => exact absurd hj (by simp)
theorem After.blocks {w2 w3 w4 W : World} {A : RunAns} {ov tv ov2 tv2 rv sv : Value} (h : After w2 w3 w4 W A ov tv ov2 tv2 rv sv) (h23 : w2.heap.size ≤ w3.heap.size) : ∀ q ∈ blocks [ov, tv, ov2, tv2], w2.heap.size ≤ q ∧ q < W.heap.size := by
  intro q hq
  have hl := h.le
  have hl2 := h.le2
  simp only [Mc.blocks, List.flatMap_cons, List.flatMap_nil, List.append_nil, List.mem_append, Option.mem_toList] at hq
  rcases hq with hq | hq | hq | hq
  · exact ⟨(h.o1.lt q hq).1, (h.o1.lt q hq).2⟩
  · exact ⟨(h.t1.lt q hq).1, (h.t1.lt q hq).2⟩
  · exact ⟨Nat.le_trans h23 (h.o2.lt q hq).1, (h.o2.lt q hq).2⟩
  · exact ⟨Nat.le_trans h23 (h.t2.lt q hq).1, (h.t2.lt q hq).2⟩

set_option maxRecDepth 20000 in
set_option maxHeartbeats 2000000 in
theorem runs_any (w : World) (cv mv : Value) (os : List OpI) (zs : List Int) (k : Int) (hc : OAt w cv os) (hm : IAt w mv zs) (ho : os.length ≤ 4398046511104) (hz : zs.length ≤ 17592186044416) :
    Calls Try.prog 17 #[cv, mv, .int .i64 k] w fun e w' => (∃ ov tv, e = .returned (.tuple #[ov, tv, .bool true])) ∧ Below w.heap.size w w' := by
  have HOA := hide hc
  have HMA := hide hm
  have HO := hide ho
  have HZ := hide hz
  have HSO := hide (spareOps_any w cv os hc ho)
  obtain ⟨ca, cc, rfl, -⟩ := hc
  obtain ⟨ma, mc, rfl, -⟩ := hm
  have HA : Hid (runAns os zs k = runAns os zs k) := rfl
  generalize hA : runAns os zs k = A at HA
  have HAE := hide hA
  clear ho hz hA HA
  go_enter Try.func17, Try.ntmps17
  go_wp2_with fail
  refine (unhide HSO).mono ?_
  rintro e w1 ⟨rfl, hb1, hs1⟩
  have HB1 := hide hb1
  have HS1 := hide hs1
  have HSI := hide (spareInts_any w1 _ zs ((unhide HMA).below hb1) (unhide HZ))
  clear hb1 hs1
  go_wp2_with fail
  refine (unhide HSI).mono ?_
  rintro e w2 ⟨rfl, hb2, hs2⟩
  have HB2 : Hid (Below w.heap.size w w2) := bel_up (unhide HB1) hb2
  have HS2 : Hid (SpO w2 w.heap.size os (os.length + 8)) := (unhide HS1).fr (Fr.ofBelow hb2) (by simp)
  have HM2 := hide hs2
  have HG1 : Hid (w.heap.size < w2.heap.size ∧ w1.heap.size < w2.heap.size) := by
    obtain ⟨cu, hg, -⟩ := hs2
    have h1 := (Array.getElem?_eq_some_iff.1 hg).1
    have h2 := (unhide HB1).size
    exact ⟨by omega, h1⟩
  generalize w1.heap.size = gm at *
  have HR1 := hide (VRun_any w2 _ _ os zs k (unhide HS2).oat hs2.iat)
  rw [unhide HAE] at HR1
  clear hb2 hs2 HSI HSO HS1 HB1
  go_wp2_with fail
  refine (unhide HR1).mono ?_
  rintro e w3 ⟨ov, tv, rfl, hr1⟩
  have HO1 := hide hr1
  obtain ⟨oa, oc, rfl⟩ := hr1.out.form
  obtain ⟨ta, tc, rfl⟩ := hr1.tr.form
  have HR2 := hide (VRun_any w3 _ _ os zs k ((unhide HS2).oat.below hr1.below) ((unhide HM2).iat.below hr1.below))
  rw [unhide HAE] at HR2
  clear hr1 HR1
  go_wp2_with fail
  refine (unhide HR2).mono ?_
  rintro e w4 ⟨ov2, tv2, rfl, hr2⟩
  have HO2 := hide hr2
  obtain ⟨oa2, oc2, rfl⟩ := hr2.out.form
  obtain ⟨ta2, tc2, rfl⟩ := hr2.tr.form
  have HB4 : Hid (Below w2.heap.size w2 w4) := bel_up (unhide HO1).below hr2.below
  have HR3 := hide (RRun_any w4 _ _ os zs k ((unhide HOA).below (bel_up (unhide HB2) (unhide HB4))) ((unhide HMA).below (bel_up (unhide HB2) (unhide HB4))))
  rw [unhide HAE] at HR3
  clear hr2 HR2
  go_wp2_with fail
  refine (unhide HR3).mono ?_
  rintro e w5 ⟨rv, sv, rfl, hr3⟩
  obtain ⟨ra, rc, rfl⟩ := hr3.out.form
  obtain ⟨sa, sc, rfl⟩ := hr3.tr.form
  have HAF := hide (after_of (unhide HO1) (unhide HO2) hr3)
  have HB5 : Hid (Below w2.heap.size w2 w5) := bel_up (unhide HB4) hr3.below
  have H23 : Hid (w2.heap.size ≤ w3.heap.size) := (unhide HO1).below.size
  have HLM : Hid (A.M.length ≤ 17592186044416 ∧ A.T.length ≤ 17592186044416) := by have := (unhide HO1).lm; have := (unhide HO1).lt; exact ⟨by omega, by omega⟩
  clear hr3 HR3 HO1 HO2 HB4
  have HMM : Hid ((A.M.map Int.ofNat).length ≤ 17592186044416) := by rw [List.length_map]; exact (unhide HLM).1
  have HTT : Hid ((A.T.map Int.ofNat).length ≤ 17592186044416) := by rw [List.length_map]; exact (unhide HLM).2
  have HQ1 := hide (fun W (hb : Below w5.heap.size w5 W) => sameInts_any W _ _ _ ((unhide HAF).bel hb).o1.iat ((unhide HAF).bel hb).o3.iat (unhide HMM))
  have HQ2 := hide (fun W (hb : Below w5.heap.size w5 W) => sameInts_any W _ _ _ ((unhide HAF).bel hb).t1.iat ((unhide HAF).bel hb).t3.iat (unhide HTT))
  have HQ3 := hide (fun W (hb : Below w5.heap.size w5 W) => sameInts_any W _ _ _ ((unhide HAF).bel hb).o2.iat ((unhide HAF).bel hb).o3.iat (unhide HMM))
  have HQ4 := hide (fun W (hb : Below w5.heap.size w5 W) => sameInts_any W _ _ _ ((unhide HAF).bel hb).t2.iat ((unhide HAF).bel hb).t3.iat (unhide HTT))
  have HU : Hid (∀ W, Below w5.heap.size w5 W → Calls Try.prog 44 #[.slice (some ⟨w.heap.size, 0, none⟩) os.length (os.length + 8), .slice ca os.length cc, .slice (some ⟨gm, 0, none⟩) zs.length (zs.length + 8), .slice ma zs.length mc] W fun e w' => e = .returned (.bool true) ∧ Below W.heap.size W w') := fun W hb => by
    have h2 := bel_up (unhide HB5) hb
    exact untouched_any W w.heap.size gm _ _ os zs ((unhide HOA).below (bel_up (unhide HB2) h2)) ((unhide HMA).below (bel_up (unhide HB2) h2)) ((unhide HS2).fr (Fr.ofBelow h2) (by simp)) ((unhide HM2).fr (Fr.ofBelow h2) (by simp)) (unhide HO) (unhide HZ)
  have HOW : Hid (∀ W, Below w5.heap.size w5 W → Calls Try.prog 45 #[.slice (some ⟨W.heap.size, 0, none⟩) 4 4] (W.alloc (Obj.cells #[.slice oa A.M.length oc, .slice ta A.T.length tc, .slice oa2 A.M.length oc2, .slice ta2 A.T.length tc2] 35)) fun e w' => e = .returned (.bool true) ∧ Fr (blocks [.slice oa A.M.length oc, .slice ta A.T.length tc, .slice oa2 A.M.length oc2, .slice ta2 A.T.length tc2]) (W.alloc (Obj.cells #[.slice oa A.M.length oc, .slice ta A.T.length tc, .slice oa2 A.M.length oc2, .slice ta2 A.T.length tc2] 35)) w') := fun W hb => by
    have hL := ((unhide HAF).bel hb)
    have hL2 := hL.bel ((Below.refl W.heap.size W).alloc (Nat.le_refl _) (Obj.cells #[.slice oa A.M.length oc, .slice ta A.T.length tc, .slice oa2 A.M.length oc2, .slice ta2 A.T.length tc2] 35))
    refine own_any _ W.heap.size [.slice oa A.M.length oc, .slice ta A.T.length tc, .slice oa2 A.M.length oc2, .slice ta2 A.T.length tc2] (heap_alloc_new _ _) hL2.lists (by simp) (fun hm => ?_)
    have := (hL.blocks (unhide H23) _ hm).2
    omega
  have HU2 : Hid (∀ W w', Below w5.heap.size w5 W → Fr (blocks [.slice oa A.M.length oc, .slice ta A.T.length tc, .slice oa2 A.M.length oc2, .slice ta2 A.T.length tc2]) (W.alloc (Obj.cells #[.slice oa A.M.length oc, .slice ta A.T.length tc, .slice oa2 A.M.length oc2, .slice ta2 A.T.length tc2] 35)) w' → Below w.heap.size w w' ∧ Calls Try.prog 44 #[.slice (some ⟨w.heap.size, 0, none⟩) os.length (os.length + 8), .slice ca os.length cc, .slice (some ⟨gm, 0, none⟩) zs.length (zs.length + 8), .slice ma zs.length mc] w' fun e w'' => e = .returned (.bool true) ∧ Below w'.heap.size w' w'') := fun W w' hb hf => by
    have h2 := bel_up (unhide HB5) hb
    have h3 := bel_up h2 ((Below.refl W.heap.size W).alloc (Nat.le_refl _) (Obj.cells #[.slice oa A.M.length oc, .slice ta A.T.length tc, .slice oa2 A.M.length oc2, .slice ta2 A.T.length tc2] 35))
    have hbl := ((unhide HAF).bel hb).blocks (unhide H23)
    obtain ⟨g1, g2⟩ := unhide HG1
    have h4 : Below w.heap.size w w' := by
      have h5 := bel_up (unhide HB2) h3
      exact (((Fr.ofBelow h5).mono (S' := blocks [.slice oa A.M.length oc, .slice ta A.T.length tc, .slice oa2 A.M.length oc2, .slice ta2 A.T.length tc2]) (by simp)).and hf (fun x hx => .inl hx)).below (fun x hx => by have := (hbl x hx).1; omega)
    exact ⟨h4, untouched_any w' w.heap.size gm _ _ os zs ((unhide HOA).below h4) ((unhide HMA).below h4) (((unhide HS2).fr (Fr.ofBelow h3) (by simp)).fr hf (fun hm => by have := (hbl _ hm).1; omega)) (((unhide HM2).fr (Fr.ofBelow h3) (by simp)).fr hf (fun hm => by have := (hbl _ hm).1; omega)) (unhide HO) (unhide HZ)⟩
  generalize A.M.length = ml at *
  generalize A.T.length = tl at *
  clear HAF HLM HMM HTT
  go_wp2_with (go_at_call 14; refine (num_any _ _).mono ?_; rintro e w' ⟨rfl, hww⟩; obtain rfl : w5 = w' := hww.symm; clear hww)
  refine (unhide HQ1 w5 (Below.refl _ _)).mono ?_
  rintro e w6 ⟨rfl, hb6⟩
  have HB6 := hide hb6
  clear hb6
  go_wp2_with fail
  refine (unhide HQ2 w6 (unhide HB6)).mono ?_
  rintro e w7 ⟨rfl, hb7⟩
  have HB7 := hide (bel_up (unhide HB6) hb7)
  clear hb7
  go_wp2_with fail
  refine (unhide HQ3 w7 (unhide HB7)).mono ?_
  rintro e w8 ⟨rfl, hb8⟩
  have HB8 := hide (bel_up (unhide HB7) hb8)
  clear hb8
  go_wp2_with fail
  refine (unhide HQ4 w8 (unhide HB8)).mono ?_
  rintro e w9 ⟨rfl, hb9⟩
  have HB9 := hide (bel_up (unhide HB8) hb9)
  clear hb9
  go_wp2_with fail
  refine (unhide HU w9 (unhide HB9)).mono ?_
  rintro e w10 ⟨rfl, hb10⟩
  have HB10 := hide (bel_up (unhide HB9) hb10)
  clear hb10
  go_wp2_with fail
  refine (unhide HOW w10 (unhide HB10)).mono ?_
  rintro e w11 ⟨rfl, hf11⟩
  have HU3 := hide (unhide HU2 w10 w11 (unhide HB10) hf11)
  clear hf11
  go_wp2_with fail
  refine (unhide HU3).2.mono ?_
  rintro e w12 ⟨rfl, hb12⟩
  have HB12 := hide (bel_up (unhide HU3).1 hb12)
  clear hb12
  go_wp2_with fail
  refine bodyPost_ret (v := .tuple #[.slice oa ml oc, .slice ta tl tc, .bool true]) (by simp [results, Try.results17, go_sem]) rfl ?_
  exact ⟨⟨_, _, rfl⟩, unhide HB12⟩

set_option maxRecDepth 20000 in
set_option maxHeartbeats 1000000 in
theorem Runs_any (w : World) (cv mv : Value) (os : List OpI) (zs : List Int) (k : Int) (hc : OAt w cv os) (hm : IAt w mv zs) (ho : os.length ≤ 4398046511104) (hz : zs.length ≤ 17592186044416) :
    Calls Try.prog 5 #[cv, mv, .int .i64 k] w fun e w' => e = .returned (.bool true) ∧ Below w.heap.size w w' := by
  have HR := hide (runs_any w cv mv os zs k hc hm ho hz)
  obtain ⟨ca, cc, rfl, -⟩ := hc
  obtain ⟨ma, mc, rfl, -⟩ := hm
  go_enter Try.func5, Try.ntmps5
  go_wp2_with fail
  refine (unhide HR).mono ?_
  rintro e w1 ⟨⟨ov, tv, rfl⟩, hb⟩
  have HB := hide hb
  clear hb
  go_wp2_with fail
  go_ret
  exact ⟨rfl, unhide HB⟩

end Mc
end Go.Proofs.Ytohefinejdfhaaa
namespace Go.Proofs.Ytohefinejdfhaaa
namespace Mc
open Go.RowKit
attribute [local go_sem ↓] Go.wp_at_zero Go.wp_at_succ

theorem imD_pos (x : ByteArray) : 0 < (imD x).length := layD_pos _ _ _
section
variable {x : ByteArray} (h : ImOk x)
include h
theorem ImOk.tabs : ∀ i, i < bt x 3 → (imT x i).Ok := fun i hi => (h.ts.1 i hi).ok
theorem ImOk.dlen : (imD x).length ≤ 4000 := by
  have := layD_len (imF x) (bt x 3) (imT x) h.tabs h.r2 (bt x 3) (Nat.le_refl _)
  have := h.r2
  unfold imD; omega
theorem ImOk.olen : (imO x).length ≤ 4000 ∧ 0 < (imO x).length := by
  unfold imO
  rw [codeOf_len, layP_len]
  have h1 : bt x 3 * (14 + 31 * bt x 2) ≤ 4 * (14 + 31 * 16) := Nat.mul_le_mul h.r2 (by have := h.n; omega)
  omega
theorem ImOk.jud {s : ByteArray} (hs : s.size ≤ bt x 2) : ∃ M : List Nat, M.length = 4096 ∧ runAns (imO x) ((memW s s.size ++ imD x).map Int.ofNat) 2097152 = ⟨0, M.set 17 (imV x s).toNat, imTr x⟩ := judged h.tabs h.r2 h.n hs
theorem ImOk.takes : takesE (imO x) ((imD x).map Int.ofNat) 2097152 = 0 := by
  obtain ⟨M, _, hr⟩ := h.jud (s := ⟨#[]⟩) (Nat.zero_le _)
  have hc := runs_code (by rw [hr])
  have hm : memB ((imD x).map Int.ofNat) = true := by
    unfold memB
    rw [Bool.and_eq_true]
    refine ⟨by rw [List.length_map]; have := h.dlen; simp only [decide_eq_true_eq]; omega, ?_⟩
    rw [List.all_eq_true]
    intro z hz
    obtain ⟨y, hy, rfl⟩ := List.mem_map.1 hz
    have := layD_le h.tabs h.r2 (bt x 3) (Nat.le_refl _) y hy
    unfold wordOk
    rw [Bool.and_eq_true, decide_eq_true_eq, decide_eq_true_eq]
    exact ⟨Int.natCast_nonneg y, by show (y : Int) ≤ 65535; omega⟩
  exact tE0 hc hm rfl
end
theorem OR.full {w : World} {B g n cap : Nat} {os : List OpI} (h : OR w B (.slice (some ⟨g, 0, none⟩) n cap) os) : OpFull w g cap 0 default ∧ n ≤ cap ∧ cap ≤ maxLen := by
  have h' : w.ownsRow B 147 4 (.slice (some ⟨g, 0, none⟩) n cap) os.length _ := h
  rcases h'.2 with ⟨e, _⟩ | ⟨g2, cap2, cur, e, _, hg, h1, h2, h3, _⟩
  · cases e
  · cases e
    exact ⟨⟨cur, hg, h3, fun j hj => by omega⟩, h1, h2⟩
theorem below_frS {B : Nat} {a w w' : World} {S : List Nat} (hb : Below B a w) (f : Fr S w w') (hB : B ≤ w.heap.size) (hS : ∀ q ∈ S, B ≤ q) : Below B a w' :=
  hb.trans ⟨f.os, f.tape, f.output, f.size, fun k hk => f.block k (Nat.lt_of_lt_of_le hk hB) (fun hm => by have := hS k hm; omega)⟩
theorem lists2 {W : World} {B1 B2 : Nat} {u v : Value} {xs ys : List Nat} (h1 : NR W B1 u xs) (h2 : NR W B2 v ys) (hb : ∀ q, u.ownBlock = some q → q < B2) : Lists W [u, v] := by
  have hd : DjV u v := fun q a b => by have := hb q a; have := (h2.lt q b).1; omega
  refine ⟨fun i hi => ?_, fun i j hi hj hne => ?_⟩
  · match i, hi with
    | 0, _ => exact h1.room
    | 1, _ => exact h2.room
    | n + 2, hi => exact absurd hi (by simp)
  · match i, hi, j, hj with
    | 0, _, 1, _ => exact hd
    | 1, _, 0, _ => exact fun q a b => hd q b a
    | 0, _, 0, _ => exact absurd rfl hne
    | 1, _, 1, _ => exact absurd rfl hne
    | n + 2, hi, _, _ => exact absurd hi (by simp)
    | _, _, n + 2, hj => exact absurd hj (by simp)
theorem blocks2 {u v : Value} {q : Nat} (h : q ∈ blocks [u, v]) : u.ownBlock = some q ∨ v.ownBlock = some q := by
  simpa [blocks] using h
theorem OAt.nil (w : World) : OAt w (.slice none 0 0) [] := ⟨none, 0, rfl, fun h => absurd h (by simp)⟩
theorem IAt.nil (w : World) : IAt w (.slice none 0 0) [] := ⟨none, 0, rfl, fun h => absurd h (by simp)⟩

set_option maxRecDepth 20000 in
set_option maxHeartbeats 2000000 in
theorem codes_bad (w : World) (x s : ByteArray) (hx : x.size ≤ 9223372036854775807) (hno : ¬ ImOk x) :
    Calls Try.prog 18 #[.string x, .string s] w fun e w' => (∃ cv dv, e = .returned (.tuple #[cv, dv, .bool true])) ∧ Below w.heap.size w w' := by
  have HCO : Hid (∀ W, Calls Try.prog 46 #[.string x] W fun e w' => Below W.heap.size W w' ∧ e = .returned (.tuple #[.slice none 0 0, .slice none 0 0, .int .i64 7])) := fun W => (VCode_any W x hx).mono fun e w' h => ⟨h.1, by
    rcases h.2 with h2 | h2
    · exact absurd h2.1 hno
    · exact h2.2⟩
  have HRD : Hid (∀ W, Calls Try.prog 48 #[.string x] W fun e w' => Below W.heap.size W w' ∧ ∃ (N : Int) (f : ByteArray) (ta : Option Addr) (n tc : Nat), e = .returned (.tuple #[.agg #[.int .i64 N, .string f, .slice ta n tc], .bool false])) := fun W => (VRead_any W x hx).mono fun e w' h => ⟨h.1, by
    rcases h.2 with h2 | h2
    · exact absurd h2.1 hno
    · exact h2.2⟩
  have HSO := hide (fun W => sameOps_any W _ _ [] (OAt.nil W) (OAt.nil W) (by simp))
  have HSI := hide (fun W => sameInts_any W _ _ [] (IAt.nil W) (IAt.nil W) (by simp))
  clear hx hno
  go_enter Try.func18, Try.ntmps18
  go_wp2_with fail
  refine (unhide HCO _).mono ?_
  rintro e w1 ⟨hb1, rfl⟩
  have HB1 := hide hb1
  clear hb1
  go_wp2_with fail
  refine (unhide HCO _).mono ?_
  rintro e w2 ⟨hb2, rfl⟩
  have HB2 := hide (bel_up (unhide HB1) hb2)
  clear hb2 HB1 HCO
  go_wp2_with fail
  refine (unhide HSO _).mono ?_
  rintro e w3 ⟨rfl, hb3⟩
  have HB3 := hide (bel_up (unhide HB2) hb3)
  clear hb3 HB2 HSO
  go_wp2_with fail
  refine (unhide HSI _).mono ?_
  rintro e w4 ⟨rfl, hb4⟩
  have HB4 := hide (bel_up (unhide HB3) hb4)
  clear hb4 HB3 HSI
  go_wp2_with fail
  refine (unhide HRD _).mono ?_
  rintro e w5 ⟨hb5, N, f, ta, n, tc, rfl⟩
  have HB5 := hide (bel_up (unhide HB4) hb5)
  clear hb5 HB4 HRD
  go_wp2_with fail
  refine (num_any 7 _).mono ?_
  rintro e w6 ⟨rfl, rfl⟩
  go_wp2_with fail
  refine (num_any 7 _).mono ?_
  rintro e w7 ⟨rfl, rfl⟩
  go_wp2_with fail
  refine bodyPost_ret (v := .tuple #[.slice none 0 0, .slice none 0 0, .bool true]) (by simp [results, Try.results18, go_sem]) rfl ?_
  exact ⟨⟨_, _, rfl⟩, (unhide HB5).alloc (unhide HB5).size _⟩

end Mc
end Go.Proofs.Ytohefinejdfhaaa
namespace Go.Proofs.Ytohefinejdfhaaa
namespace Mc
open Go.RowKit
attribute [local go_sem ↓] Go.wp_at_zero Go.wp_at_succ

theorem emp_size : (⟨#[]⟩ : ByteArray).size = 0 := rfl
/-- All four rows that came out. -/
structure CoR (H H1 : Nat) (W : World) (cv1 dv1 cv2 dv2 : Value) (os : List OpI) (ds : List Nat) : Prop where
  c1 : OR W H cv1 os
  d1 : NR W H dv1 ds
  c2 : OR W H1 cv2 os
  d2 : NR W H1 dv2 ds
theorem CoR.bel {H H1 : Nat} {W W' : World} {cv1 dv1 cv2 dv2 : Value} {os : List OpI} {ds : List Nat} (h : CoR H H1 W cv1 dv1 cv2 dv2 os ds) (hb : Below W.heap.size W W') : CoR H H1 W' cv1 dv1 cv2 dv2 os ds :=
  ⟨(Fr.ofBelow hb).own h.c1 (by simp), h.d1.bel hb, (Fr.ofBelow hb).own h.c2 (by simp), h.d2.bel hb⟩

set_option maxRecDepth 20000 in
set_option maxHeartbeats 4000000 in
theorem codes_good (w : World) (x s : ByteArray) (hx : x.size ≤ 9223372036854775807) (hs : s.size ≤ 9223372036854775807) (hok : ImOk x) :
    Calls Try.prog 18 #[.string x, .string s] w fun e w' => (∃ cv dv, e = .returned (.tuple #[cv, dv, .bool true])) ∧ Below w.heap.size w w' := by
  have HCO : Hid (∀ W, Calls Try.prog 46 #[.string x] W fun e w' => Below W.heap.size W w' ∧ ∃ cv dv, e = .returned (.tuple #[cv, dv, .int .i64 0]) ∧ OR w' W.heap.size cv (imO x) ∧ NR w' W.heap.size dv (imD x)) := fun W => (VCode_any W x hx).mono fun e w' h => ⟨h.1, by
    rcases h.2 with h2 | h2
    · exact h2.2
    · exact absurd hok h2.1⟩
  have HRD : Hid (∀ W, Calls Try.prog 48 #[.string x] W fun e w' => Below W.heap.size W w' ∧ ∃ g tc, g < w'.heap.size ∧ e = .returned (.tuple #[.agg #[.int .i64 ((bt x 2 : Nat) : Int), .string (imF x), .slice (some ⟨g, 0, none⟩) (bt x 3) tc], .bool true]) ∧ ∀ i, i < bt x 3 → w'.cell? ⟨g, i, none⟩ = some (.string (tblX x (tpos x (5 + bt x 4) i)))) := fun W => (VRead_any W x hx).mono fun e w' h => ⟨h.1, by
    rcases h.2 with ⟨_, g, tc, _, h3, h4, h5⟩ | h2
    · exact ⟨g, tc, h3, h4, h5⟩
    · exact absurd hok h2.1⟩
  have HGR := hide (fun W g tc hc (t : ByteArray) ht => VGrants_any W x hok g tc hc t ht)
  have HSH := hide (fun W => short_any W s (bt x 2) hs (by have := hok.n; omega))
  obtain ⟨M1, hM1, hr1⟩ := hok.jud (s := shortS s (bt x 2)) (shortS_le _ _)
  obtain ⟨M0, hM0, hr0⟩ := hok.jud (s := ⟨#[]⟩) (Nat.zero_le _)
  have HJ1 := hide (fun W B0 cv dv hc hd => judged_any W cv dv B0 (imO x) (imD x) (shortS s (bt x 2)) M1 (imV x (shortS s (bt x 2))) (imTr x) hc hd (imD_pos x) hok.dlen (by have := shortS_le s (bt x 2); have := hok.n; omega) hM1 hr1)
  have HJ0 := hide (fun W B0 cv dv hc hd => judged_any W cv dv B0 (imO x) (imD x) ⟨#[]⟩ M0 (imV x ⟨#[]⟩) (imTr x) hc hd (imD_pos x) hok.dlen (Nat.zero_le _) hM0 hr0)
  have HTK := hide (fun W B0 cv dv hc hd => taken_any W cv dv B0 (imO x) (imD x) hc hd hok.dlen hok.takes)
  have HSL : Hid ((shortS s (bt x 2)).size ≤ 1000) := by have := shortS_le s (bt x 2); have := hok.n; show _ ≤ _; omega
  have HOP : Hid (0 < (imO x).length) := hok.olen.2
  have HOL : Hid ((imO x).length ≤ 4000) := hok.olen.1
  have HDP : Hid (0 < (imD x).length) := imD_pos x
  have HDL : Hid ((imD x).length ≤ 4000) := hok.dlen
  clear hM1 hM0 hr1 hr0 hx hs hok
  generalize imO x = os at *
  generalize imD x = ds at *
  generalize imTr x = T at *
  generalize shortS s (bt x 2) = s1 at *
  generalize imF x = f at *
  generalize bt x 2 = N at *
  generalize bt x 3 = r at *
  go_enter Try.func18, Try.ntmps18
  go_wp2_with fail
  refine (unhide HCO _).mono ?_
  rintro e w1 ⟨hb1, cv1, dv1, rfl, ho1, hd1⟩
  obtain ⟨ga, ca, rfl⟩ := own_form (show w1.ownsRow w.heap.size 147 4 cv1 os.length _ from ho1) (unhide HOP)
  obtain ⟨gd, cd, rfl⟩ := own_form (show w1.ownsRow w.heap.size 3 1 dv1 ds.length _ from hd1) (unhide HDP)
  have HL1 : Hid (ga < w1.heap.size ∧ gd < w1.heap.size ∧ w.heap.size ≤ ga ∧ w.heap.size ≤ gd) := ⟨(ho1.lt ga rfl).2, (hd1.lt gd rfl).2, (ho1.lt ga rfl).1, (hd1.lt gd rfl).1⟩
  have HB1 := hide hb1
  have HO1 := hide ho1
  have HD1 := hide hd1
  clear hb1 ho1 hd1
  go_wp2_with fail
  refine (unhide HCO _).mono ?_
  rintro e w2 ⟨hb2, cv2, dv2, rfl, ho2, hd2⟩
  obtain ⟨ga2, ca2, rfl⟩ := own_form (show w2.ownsRow w1.heap.size 147 4 cv2 os.length _ from ho2) (unhide HOP)
  obtain ⟨gd2, cd2, rfl⟩ := own_form (show w2.ownsRow w1.heap.size 3 1 dv2 ds.length _ from hd2) (unhide HDP)
  have HL2 : Hid (w1.heap.size ≤ ga2 ∧ w1.heap.size ≤ gd2) := ⟨(ho2.lt ga2 rfl).1, (hd2.lt gd2 rfl).1⟩
  have HR2 : Hid (CoR w.heap.size w1.heap.size w2 _ _ _ _ os ds) := ⟨(Fr.ofBelow hb2).own (unhide HO1) (by simp), (unhide HD1).bel hb2, ho2, hd2⟩
  have HB2 := hide (bel_up (unhide HB1) hb2)
  have HSZ1 : Hid (w.heap.size ≤ w1.heap.size) := (unhide HB1).size
  clear hb2 ho2 hd2 HCO HB1 HO1 HD1
  generalize w1.heap.size = H1 at *
  go_wp2_with fail
  refine (sameOps_any w2 _ _ os (unhide HR2).c2.oat (unhide HR2).c1.oat (by have := unhide HOL; omega)).mono ?_
  rintro e w3 ⟨rfl, hb3⟩
  have HR3 := hide ((unhide HR2).bel hb3)
  have HB3 := hide (bel_up (unhide HB2) hb3)
  clear hb3 HB2 HR2
  go_wp2_with fail
  refine (sameInts_any w3 _ _ (ds.map Int.ofNat) (unhide HR3).d2.iat (unhide HR3).d1.iat (by rw [List.length_map]; have := unhide HDL; omega)).mono ?_
  rintro e w4 ⟨rfl, hb4⟩
  have HR4 := hide ((unhide HR3).bel hb4)
  have HB4 := hide (bel_up (unhide HB3) hb4)
  clear hb4 HB3 HR3
  go_wp2_with fail
  refine (unhide HRD _).mono ?_
  rintro e w5 ⟨hb5, g, tc, hg5, rfl, hcs5⟩
  have ha5 : Below w5.heap.size w5 (w5.alloc (.cells #[.int .i64 (N : Int), .string f, .slice (some ⟨g, 0, none⟩) r tc] 95)) := (Below.refl _ _).alloc (Nat.le_refl _) _
  have HR6 := hide (((unhide HR4).bel hb5).bel ha5)
  have HB6 := hide (bel_up (bel_up (unhide HB4) hb5) ha5)
  have HCS6 : Hid (∀ i, i < r → (w5.alloc (.cells #[.int .i64 (N : Int), .string f, .slice (some ⟨g, 0, none⟩) r tc] 95)).cell? ⟨g, i, none⟩ = some (.string (tblX x (tpos x (5 + bt x 4) i)))) := fun i hi => below_cell ha5 (hcs5 i hi)
  have HIM6 : Hid ((w5.alloc (.cells #[.int .i64 (N : Int), .string f, .slice (some ⟨g, 0, none⟩) r tc] 95)).heap[w5.heap.size]? = some (.cells #[.int .i64 (N : Int), .string f, .slice (some ⟨g, 0, none⟩) r tc] 95 (0, 0))) := heap_alloc_new _ _
  clear hb5 hg5 hcs5 ha5 HB4 HR4 HRD
  go_wp2_with fail
  generalize w5.alloc (.cells #[.int .i64 (N : Int), .string f, .slice (some ⟨g, 0, none⟩) r tc] 95) = w6 at *
  generalize w5.heap.size = gi at *
  refine (unhide HTK w6 w.heap.size _ _ (unhide HR6).c1.oat (unhide HR6).d1).mono ?_
  rintro e w7 ⟨rfl, hb7⟩
  have HR7 := hide ((unhide HR6).bel hb7)
  have HB7 := hide (bel_up (unhide HB6) hb7)
  have HF7 := hide hb7
  have c0 : w7.cell? ⟨gi, 0, none⟩ = some (.int .i64 (N : Int)) := by rw [cell_of_row _ _ _ _ _ _ ((Fr.ofBelow hb7).at (unhide HIM6) (by simp))]; rfl
  clear hb7 HB6 HR6 HTK
  go_wp2_with fail
  refine (num_any 0 _).mono ?_
  rintro e w' ⟨rfl, hww⟩
  obtain rfl : w7 = w' := hww.symm
  clear hww
  go_wp2_with fail
  refine (num_any 0 _).mono ?_
  rintro e w' ⟨rfl, hww⟩
  obtain rfl : w7 = w' := hww.symm
  clear hww
  go_wp2_with fail
  refine (unhide HSH _).mono ?_
  rintro e w' ⟨rfl, hww⟩
  obtain rfl : w7 = w' := hww.symm
  clear hww
  clear c0 HSH
  go_wp2_with fail
  refine (unhide HJ1 w7 w.heap.size _ _ (unhide HR7).c1.oat (unhide HR7).d1).mono ?_
  rintro e w8 ⟨tv1, rfl, hb8, ht8, htl⟩
  have HTL := hide htl
  have HR8 := hide ((unhide HR7).bel hb8)
  have HB8 := hide (bel_up (unhide HB7) hb8)
  have HF8 := hide (bel_up (unhide HF7) hb8)
  obtain ⟨ta1, tc1, rfl⟩ := ht8.form
  have HT8 := hide ht8
  clear hb8 ht8 htl HB7 HF7 HR7 HJ1
  go_wp2_with fail
  refine (unhide HJ0 w8 w.heap.size _ _ (unhide HR8).c1.oat (unhide HR8).d1).mono ?_
  rintro e w9 ⟨tv0, rfl, hb9, ht9, -⟩
  have HR9 := hide ((unhide HR8).bel hb9)
  have HB9 := hide (bel_up (unhide HB8) hb9)
  have HF9 := hide (bel_up (unhide HF8) hb9)
  obtain ⟨ta0, tc0, rfl⟩ := ht9.form
  have HT9 := hide (ht9.iat)
  have HS9 := hide ((unhide HT8).bel hb9).iat
  clear hb9 ht9 HB8 HF8 HR8 HT8 HJ0
  have q9 := (Fr.ofBelow (unhide HF9)).at (unhide HIM6) (by simp)
  have d0 : w9.cell? ⟨gi, 0, none⟩ = some (.int .i64 (N : Int)) := by rw [cell_of_row _ _ _ _ _ _ q9]; rfl
  have d1 : w9.cell? ⟨gi, 1, none⟩ = some (.string f) := by rw [cell_of_row _ _ _ _ _ _ q9]; rfl
  have d2 : w9.cell? ⟨gi, 2, none⟩ = some (.slice (some ⟨g, 0, none⟩) r tc) := by rw [cell_of_row _ _ _ _ _ _ q9]; rfl
  clear q9
  go_wp2_with fail
  refine (unhide HGR w9 g tc (fun i hi => below_cell (unhide HF9) (unhide HCS6 i hi)) _ (unhide HSL)).mono ?_
  rintro e w10 ⟨rfl, hb10⟩
  have HR10 := hide ((unhide HR9).bel hb10)
  have HB10 := hide (bel_up (unhide HB9) hb10)
  have HF10 := hide (bel_up (unhide HF9) hb10)
  have HT10 := hide ((unhide HT9).below hb10)
  have HS10 := hide ((unhide HS9).below hb10)
  clear hb10 HB9 HF9 HR9 HT9 HS9 d0 d1 d2
  have q9 := (Fr.ofBelow (unhide HF10)).at (unhide HIM6) (by simp)
  have d0 : w10.cell? ⟨gi, 0, none⟩ = some (.int .i64 (N : Int)) := by rw [cell_of_row _ _ _ _ _ _ q9]; rfl
  have d1 : w10.cell? ⟨gi, 1, none⟩ = some (.string f) := by rw [cell_of_row _ _ _ _ _ _ q9]; rfl
  have d2 : w10.cell? ⟨gi, 2, none⟩ = some (.slice (some ⟨g, 0, none⟩) r tc) := by rw [cell_of_row _ _ _ _ _ _ q9]; rfl
  clear q9
  go_wp2_with fail
  refine (unhide HGR w10 g tc (fun i hi => below_cell (unhide HF10) (unhide HCS6 i hi)) ⟨#[]⟩ (by rw [emp_size]; omega)).mono ?_
  rintro e w11 ⟨rfl, hb11⟩
  have HR11 := hide ((unhide HR10).bel hb11)
  have HB11 := hide (bel_up (unhide HB10) hb11)
  have HT11 := hide ((unhide HT10).below hb11)
  have HS11 := hide ((unhide HS10).below hb11)
  clear hb11 HB10 HF10 HR10 HT10 HS10 d0 d1 d2 HGR HCS6 HIM6
  go_wp2_with fail
  refine (sameInts_any w11 _ _ (T.map Int.ofNat) (unhide HS11) (unhide HT11) (by rw [List.length_map]; have := unhide HTL; omega)).mono ?_
  rintro e w12 ⟨rfl, hb12⟩
  have ha12 : Below w12.heap.size w12 (w12.alloc (.cells #[.slice (some ⟨gd, 0, none⟩) ds.length cd, .slice (some ⟨gd2, 0, none⟩) ds.length cd2] 35)) := (Below.refl _ _).alloc (Nat.le_refl _) _
  have HR13 := hide (((unhide HR11).bel hb12).bel ha12)
  have HB13 := hide (bel_up (bel_up (unhide HB11) hb12) ha12)
  have HGL : Hid ((w12.alloc (.cells #[.slice (some ⟨gd, 0, none⟩) ds.length cd, .slice (some ⟨gd2, 0, none⟩) ds.length cd2] 35)).heap[w12.heap.size]? = some (.cells [.slice (some ⟨gd, 0, none⟩) ds.length cd, .slice (some ⟨gd2, 0, none⟩) ds.length cd2].toArray 35 (0, 0))) := heap_alloc_new _ _
  have HLS : Hid (Lists (w12.alloc (.cells #[.slice (some ⟨gd, 0, none⟩) ds.length cd, .slice (some ⟨gd2, 0, none⟩) ds.length cd2] 35)) [.slice (some ⟨gd, 0, none⟩) ds.length cd, .slice (some ⟨gd2, 0, none⟩) ds.length cd2]) := lists2 (unhide HR13).d1 (unhide HR13).d2 (fun q hq => by
    have : gd = q := by simpa [Value.ownBlock] using hq
    have := (unhide HL1).2.1
    omega)
  have HNB : Hid (w12.heap.size ∉ blocks [.slice (some ⟨gd, 0, none⟩) ds.length cd, .slice (some ⟨gd2, 0, none⟩) ds.length cd2]) := fun hm => by
    have h1 := ((unhide HR11).d1.bel hb12).lt gd rfl
    have h2 := ((unhide HR11).d2.bel hb12).lt gd2 rfl
    rcases blocks2 hm with hq | hq
    · have : gd = w12.heap.size := by simpa [Value.ownBlock] using hq
      omega
    · have : gd2 = w12.heap.size := by simpa [Value.ownBlock] using hq
      omega
  clear hb12 ha12 HB11 HR11 HT11 HS11
  go_wp2_with fail
  generalize w12.alloc (.cells #[.slice (some ⟨gd, 0, none⟩) ds.length cd, .slice (some ⟨gd2, 0, none⟩) ds.length cd2] 35) = w13 at *
  generalize w12.heap.size = gl at *
  refine (own_any w13 gl [.slice (some ⟨gd, 0, none⟩) ds.length cd, .slice (some ⟨gd2, 0, none⟩) ds.length cd2] (unhide HGL) (unhide HLS) (by simp) (unhide HNB)).mono ?_
  rintro e w14 ⟨rfl, hf14⟩
  have hbl : ∀ q ∈ blocks [.slice (some ⟨gd, 0, none⟩) ds.length cd, .slice (some ⟨gd2, 0, none⟩) ds.length cd2], q = gd ∨ q = gd2 := fun q hm => by
    rcases blocks2 hm with hq | hq
    · exact .inl (by simpa [Value.ownBlock] using hq.symm)
    · exact .inr (by simpa [Value.ownBlock] using hq.symm)
  have HB14 : Hid (Below w.heap.size w w14) := below_frS (unhide HB13) hf14 (unhide HB13).size (fun q hm => by
    have := (unhide HL1).2.2.2
    have := (unhide HL2).2
    have := unhide HSZ1
    rcases hbl q hm with rfl | rfl <;> omega)
  have hne : ∀ {B1 B2 : Nat} {g1 g2 c1 c2 : Nat}, OR w13 B1 (.slice (some ⟨g1, 0, none⟩) os.length c1) os → NR w13 B2 (.slice (some ⟨g2, 0, none⟩) ds.length c2) ds → g1 ≠ g2 := fun h1 h2 e => own_two h1 h2 (by decide) _ rfl (by rw [e]; rfl)
  have hf1 : ga ∉ blocks [.slice (some ⟨gd, 0, none⟩) ds.length cd, .slice (some ⟨gd2, 0, none⟩) ds.length cd2] := fun hm => by
    rcases hbl _ hm with e | e
    · exact hne (unhide HR13).c1 (unhide HR13).d1 e
    · exact hne (unhide HR13).c1 (unhide HR13).d2 e
  have hf2 : ga2 ∉ blocks [.slice (some ⟨gd, 0, none⟩) ds.length cd, .slice (some ⟨gd2, 0, none⟩) ds.length cd2] := fun hm => by
    rcases hbl _ hm with e | e
    · exact hne (unhide HR13).c2 (unhide HR13).d1 e
    · exact hne (unhide HR13).c2 (unhide HR13).d2 e
  obtain ⟨p1, p2, p3⟩ := (unhide HR13).c1.full
  obtain ⟨r1, r2, r3⟩ := (unhide HR13).c2.full
  have HOO := hide (ownOps_any w14 ga ga2 os.length os.length ca ca2 default (p1.fr hf14 hf1) (r1.fr hf14 hf2) (by have := (unhide HL1).1; have := (unhide HL2).1; omega) p2 r2 p3 r3)
  have hSZ14 : w.heap.size ≤ w14.heap.size := (unhide HB14).size
  have HSZ14 := hide hSZ14
  clear hf14 hbl hne hf1 hf2 p1 p2 p3 r1 r2 r3 HB13 HR13 HGL HLS HNB hSZ14
  go_wp2_with fail
  refine (unhide HOO).mono ?_
  rintro e w15 ⟨rfl, hf15⟩
  have HB15 : Hid (Below w.heap.size w w15) := below_frS (unhide HB14) hf15 (unhide HSZ14) (fun q hm => by
    have := (unhide HL1).2.2.1
    have := (unhide HL2).1
    have := unhide HSZ1
    simp at hm
    rcases hm with rfl | rfl <;> omega)
  clear hf15 HOO HB14
  go_wp2_with fail
  refine bodyPost_ret (v := .tuple #[.slice (some ⟨ga, 0, none⟩) os.length ca, .slice (some ⟨gd, 0, none⟩) ds.length cd, .bool true]) (by simp [results, Try.results18, go_sem]) rfl ?_
  exact ⟨⟨_, _, rfl⟩, unhide HB15⟩
theorem codes_any (w : World) (x s : ByteArray) (hx : x.size ≤ 9223372036854775807) (hs : s.size ≤ 9223372036854775807) :
    Calls Try.prog 18 #[.string x, .string s] w fun e w' => (∃ cv dv, e = .returned (.tuple #[cv, dv, .bool true])) ∧ Below w.heap.size w w' := by
  by_cases h : ImOk x
  · exact codes_good w x s hx hs h
  · exact codes_bad w x s hx h

end Mc
end Go.Proofs.Ytohefinejdfhaaa
