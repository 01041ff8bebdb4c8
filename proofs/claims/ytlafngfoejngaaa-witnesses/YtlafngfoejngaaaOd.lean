/-
  The code that judges a secret, whole: it ends, with the right verdict, and its trace hangs on no secret.
-/
import Derived.Test.YtlafngfoejngaaaOc
namespace Go.Proofs.Ytlafngfoejngaaa
namespace Mc

/-- A table and where its words lie. -/
structure Pt where
  cb : Nat
  rb : Nat
  t : TabN
def partsOps (N : Nat) : Nat → List Pt → List OpI
  | _, [] => []
  | p, x :: l => tableOps x.cb x.rb x.t N p ++ partsOps N (p + (14 + 31 * N)) l
def partsT (N : Nat) : List Pt → List Nat
  | [] => []
  | x :: l => tableT x.cb x.rb x.t N ++ partsT N l
def partsN (N : Nat) : List Pt → Nat
  | [] => 0
  | x :: l => tableN x.cb x.rb x.t N + partsN N l
/-- The sum of the marks of the true ones. -/
def sumG : Nat → List Bool → Nat
  | _, [] => 0
  | i, b :: l => (if b then 2 ^ i else 0) + sumG (i + 1) l
theorem sumG_lt : ∀ (l : List Bool) (i : Nat), sumG i l + 2 ^ i ≤ 2 ^ (i + l.length)
  | [], i => by simp [sumG]
  | b :: l, i => by
    have h := sumG_lt l (i + 1)
    rw [show i + 1 + l.length = i + (b :: l).length by simp; omega] at h
    have h2 : 2 ^ (i + 1) = 2 * 2 ^ i := by rw [Nat.pow_succ]; omega
    unfold sumG
    split <;> omega
theorem partsOps_len (N : Nat) : ∀ (l : List Pt) (p : Nat), (partsOps N p l).length = l.length * (14 + 31 * N)
  | [], _ => by simp [partsOps]
  | x :: l, p => by rw [partsOps, List.length_append, tableOps_len, partsOps_len N l, List.length_cons, Nat.add_mul]; omega
def truths (bs : List Nat) (l : List Pt) : List Bool := l.map fun x => x.t.gr (x.t.run bs)
def PartsOk (M : List Nat) (i : Nat) (l : List Pt) : Prop := ∀ j x, l[j]? = some x → AreaOk M x.cb x.rb (2 ^ (i + j)) x.t

theorem parts_any {cs : List OpI} {M : List Nat} {L N : Nat} {bs : List Nat} (hM : ∀ i, M.getD i 0 ≤ 65535) (hs : SecOk M bs) (hL : bs.length = L) (hN : L ≤ N) (hN2 : N ≤ 16) :
    ∀ (l : List Pt) (p i v : Nat) (g : Nat → Nat) (T : List Nat), PartsOk M i l → i + l.length ≤ 4 → v + 16 * l.length ≤ 65535 → g 0 = 1 → g 1 = L → g 2 = v → At cs p (partsOps N p l) →
      Goes cs (partsN N l) g M p T (fun g' => g' 0 = 1 ∧ g' 1 = L ∧ g' 2 = v + sumG i (truths bs l)) M (p + l.length * (14 + 31 * N)) (T ++ partsT N l)
  | [], p, i, v, g, T, _, _, _, h0, h1, h2, _ => by
    simp only [partsN, partsT, List.length_nil, Nat.zero_mul, Nat.add_zero, List.append_nil, truths, List.map_nil, sumG]
    exact Goes.zero ⟨h0, h1, h2⟩
  | x :: l, p, i, v, g, T, ho, hi, hv, h0, h1, h2, hc => by
    obtain ⟨c1, c2⟩ := At.app (show At cs p (tableOps x.cb x.rb x.t N p ++ partsOps N (p + (14 + 31 * N)) l) from hc)
    rw [tableOps_len] at c2
    have ha := ho 0 x rfl
    rw [Nat.add_zero] at ha
    simp only [List.length_cons] at hi hv
    have hm : 2 ^ i ≤ 8 := by
      have : 2 ^ i ≤ 2 ^ 3 := Nat.pow_le_pow_right (by decide) (by omega)
      simpa using this
    unfold partsN partsT
    refine Goes.next (table_any hM ha hs hL hN hN2 (by omega) h0 h1 h2 c1) fun q hq => ?_
    obtain ⟨q0, q1, q2⟩ := hq
    have ih := parts_any hM hs hL hN hN2 l (p + (14 + 31 * N)) (i + 1) (v + (if x.t.gr (x.t.run bs) then 2 ^ i else 0)) q (T ++ tableT x.cb x.rb x.t N) (fun j y hy => by have := ho (j + 1) y (by simpa using hy); rwa [show i + 1 + j = i + (j + 1) by omega]) (by omega) (by split <;> omega) q0 q1 q2 c2
    rw [List.length_cons, Nat.add_mul, Nat.one_mul, show p + (l.length * (14 + 31 * N) + (14 + 31 * N)) = p + (14 + 31 * N) + l.length * (14 + 31 * N) by omega, ← List.append_assoc]
    refine ih.mono fun r hr => ⟨hr.1, hr.2.1, ?_⟩
    rw [hr.2.2, Nat.add_assoc]; rfl

def headOps (vb : Nat) : List OpI := [opN 0 0 1 0, opN 0 10 0 0, opN 6 1 10 0, opN 0 2 vb 0]
def tailOps (vb ve p : Nat) : List OpI := [opN 3 5 2 2] ++ (lookOps vb ve (p + 1) ++ [opN 0 10 17 0, opN 7 6 10 0])
/-- The code of an image. -/
def codeOf (vb N : Nat) (l : List Pt) : List OpI := headOps vb ++ (partsOps N 4 l ++ tailOps vb (vb + 2 ^ l.length) (4 + l.length * (14 + 31 * N)))
def codeT (vb N : Nat) (l : List Pt) : List Nat := [0] ++ (partsT N l ++ (lookT vb (vb + 2 ^ l.length - vb) ++ [10017]))
def codeSteps (vb N : Nat) (l : List Pt) : Nat := 4 + (partsN N l + (1 + ((3 + 7 * (vb + 2 ^ l.length - vb)) + 2)))
theorem codeOf_len (vb N : Nat) (l : List Pt) : (codeOf vb N l).length = 4 + l.length * (14 + 31 * N) + 13 := by
  simp [codeOf, headOps, tailOps, lookOps, partsOps_len]; omega
theorem at_self (cs : List OpI) : At cs 0 cs := fun i _ => by rw [Nat.zero_add]

theorem code_goes {M : List Nat} {L N vb : Nat} {bs : List Nat} {l : List Pt} (hM : ∀ i, M.getD i 0 ≤ 65535) (h0 : M.getD 0 0 = L) (hs : SecOk M bs) (hL : bs.length = L) (hN : L ≤ N) (hN2 : N ≤ 16) (hl : l.length ≤ 4) (ho : PartsOk M 0 l) (hv : vb + 2 ^ l.length ≤ 4096) (g : Nat → Nat) :
    Goes (codeOf vb N l) (codeSteps vb N l) g M 0 [] (fun _ => True) (M.set 17 (M.getD (vb + sumG 0 (truths bs l)) 0)) (codeOf vb N l).length (codeT vb N l) := by
  obtain ⟨c1, c2⟩ := At.app (show At (codeOf vb N l) 0 (headOps vb ++ (partsOps N 4 l ++ tailOps vb (vb + 2 ^ l.length) (4 + l.length * (14 + 31 * N)))) from at_self _)
  obtain ⟨c3, c4⟩ := c2.app
  rw [partsOps_len] at c4
  simp only [headOps, List.length_cons, List.length_nil, Nat.zero_add] at c3 c4
  obtain ⟨t1, t2⟩ := c4.app
  obtain ⟨t3, t4⟩ := t2.app
  simp only [List.length_cons, List.length_nil, Nat.zero_add, lookOps] at t3 t4
  have hlen := codeOf_len vb N l
  generalize codeOf vb N l = cs at *
  have e0 := c1.get 0 rfl
  have e1 := c1.get 1 rfl
  have e2 := c1.get 2 rfl
  have e3 := c1.get 3 rfl
  have f0 := t1.get 0 rfl
  have f11 := t4.get 0 rfl
  have f12 := t4.get 1 rfl
  have hsum := sumG_lt (truths bs l) 0
  simp only [truths, List.length_map, Nat.zero_add, Nat.pow_zero] at hsum
  have hp1 : 0 < 2 ^ l.length := Nat.pow_pos (by decide)
  unfold codeSteps codeT
  have hd : Goes cs 4 g M 0 [] (fun q => q 0 = 1 ∧ q 1 = L ∧ q 2 = vb) M 4 [0] := by
    refine Goes.next (n := 1) (m := 3) (goes_set (post := fun q => q = upd g 0 1) e0 rfl) fun q hq => ?_
    subst hq
    refine Goes.next (n := 1) (m := 2) (goes_set (post := fun q => q = upd (upd g 0 1) 10 0) e1 rfl) fun q hq => ?_
    subst hq
    have hld := goes_load (g := upd (upd g 0 1) 10 0) (M := M) (p := 2) (T := []) (a := 1) (x := 10) (c := 0) (post := fun q => q 0 = 1 ∧ q 1 = L) (by decide) (by rw [upd_same]; decide) e2 ⟨by rw [upd_ne _ _ (by decide), upd_ne _ _ (by decide), upd_same], by rw [upd_same, upd_same, h0]⟩
    rw [upd_same] at hld
    refine Goes.next (n := 1) (m := 1) hld fun q hq => ?_
    exact goes_set e3 ⟨by rw [upd_ne _ _ (by decide)]; exact hq.1, by rw [upd_ne _ _ (by decide)]; exact hq.2, upd_same _ _ _⟩
  refine Goes.next hd fun q hq => ?_
  obtain ⟨q0, q1, q2⟩ := hq
  refine Goes.next (parts_any hM hs hL hN hN2 l 4 0 vb q [0] ho (by omega) (by omega) q0 q1 q2 c3) fun q hq => ?_
  obtain ⟨q0, q1, q2⟩ := hq
  generalize hS : vb + sumG 0 (truths bs l) = S at *
  have hS1 : vb ≤ S ∧ S < vb + 2 ^ l.length := by
    rw [← hS]
    simp only [truths]
    omega
  generalize 4 + l.length * (14 + 31 * N) = p at *
  generalize hT : [0] ++ partsT N l = T1
  rw [show [0] ++ (partsT N l ++ (lookT vb (vb + 2 ^ l.length - vb) ++ [10017])) = T1 ++ lookT vb (vb + 2 ^ l.length - vb) ++ [10017] by rw [← hT]; simp [List.append_assoc]]
  refine Goes.next (n := 1) (goes_join (k := 3) (post := fun r => r 0 = 1 ∧ r 5 = S) (by decide) (by decide) (by decide) f0 ⟨?_, ?_⟩) fun r hr => ?_
  · rw [upd_ne _ _ (by decide)]; exact q0
  · rw [upd_same, j3, Nat.or_self]; exact q2
  refine Goes.next ((look_any (p := p + 1) (by simpa [lookOps] using t3) hM (by omega) hv r hr.1 T1).mono (post2 := fun s => s 6 = M.getD S 0) fun s hs => ?_) fun s h6 => ?_
  · rw [hs.2, hr.2, found, if_pos hS1]
  refine Goes.next (n := 1) (m := 1) (goes_set (post := fun q => q 6 = M.getD S 0 ∧ q 10 = 17) f11 ⟨?_, upd_same _ _ _⟩) fun q hq => ?_
  · rw [upd_ne _ _ (by decide)]; exact h6
  have hst := goes_store (g := q) (M := M) (p := p + 1 + 10 + 1) (T := T1 ++ lookT vb (vb + 2 ^ l.length - vb)) (a := 6) (x := 10) (c := 0) (post := fun _ => True) (by decide) (by decide) (by rw [hq.2]; decide) f12 trivial
  rw [hq.1, hq.2] at hst
  rw [hlen]
  exact hst

theorem readByteN_le (cb rb : Nat) {t : TabN} (h : t.Ok) : readByteN cb (cb + 256) rb (rb + t.S * (t.C + 1)) ≤ 6009 := by
  have h1 : t.S * (t.C + 1) ≤ 24 * 25 := Nat.mul_le_mul h.s2 (by have := h.c2; omega)
  unfold readByteN
  omega
theorem tableN_le (cb rb : Nat) {t : TabN} (h : t.Ok) {N : Nat} (hN : N ≤ 16) : tableN cb rb t N ≤ 110000 := by
  have h1 : t.S * (t.C + 1) ≤ 24 * 25 := Nat.mul_le_mul h.s2 (by have := h.c2; omega)
  have h2 : N * readByteN cb (cb + 256) rb (rb + t.S * (t.C + 1)) ≤ 16 * 6009 := Nat.mul_le_mul hN (readByteN_le cb rb h)
  unfold tableN
  omega
theorem partsN_le {M : List Nat} {N : Nat} (hN : N ≤ 16) : ∀ (l : List Pt) (i : Nat), PartsOk M i l → partsN N l ≤ 110000 * l.length
  | [], _, _ => Nat.zero_le _
  | x :: l, i, h => by
    have h1 := tableN_le x.cb x.rb (h 0 x rfl).ok hN
    have h2 := partsN_le hN l (i + 1) (fun j y hy => by have := h (j + 1) y (by simpa using hy); rwa [show i + 1 + j = i + (j + 1) by omega])
    rw [partsN, List.length_cons]
    omega

/-- The code ends with OK, the verdict in word 17, and a trace that no secret has a part in. -/
theorem code_runs {M : List Nat} {L N vb : Nat} {bs : List Nat} {l : List Pt} (hM : ∀ i, M.getD i 0 ≤ 65535) (h0 : M.getD 0 0 = L) (hs : SecOk M bs) (hL : bs.length = L) (hN : L ≤ N) (hN2 : N ≤ 16) (hl : l.length ≤ 4) (ho : PartsOk M 0 l) (hv : vb + 2 ^ l.length ≤ 4096) :
    ∃ R, runN (codeOf vb N l) 2097152 ⟨List.replicate 16 0, M, 0, []⟩ = .ends ⟨R, M.set 17 (M.getD (vb + sumG 0 (truths bs l)) 0), (codeOf vb N l).length, codeT vb N l⟩ := by
  obtain ⟨s', g', h1, h2, -⟩ := code_goes hM h0 hs hL hN hN2 hl ho hv (fun _ => 0) ⟨List.replicate 16 0, M, 0, []⟩ ⟨by simp, fun j _ => by rw [List.getD_eq_getElem?_getD, List.getElem?_replicate]; split <;> rfl, rfl, rfl, rfl⟩
  have hp := partsN_le hN2 l 0 ho
  have h2l : 2 ^ l.length ≤ 16 := by
    have : 2 ^ l.length ≤ 2 ^ 4 := Nat.pow_le_pow_right (by decide) hl
    simpa using this
  have hst : codeSteps vb N l ≤ 2097152 := by
    unfold codeSteps
    have : 110000 * l.length ≤ 440000 := by omega
    omega
  refine ⟨s'.R, ?_⟩
  rw [runN_of_steps _ _ _ _ h1 (by rw [h2.pos]; exact Nat.le_refl _) hst]
  obtain ⟨R, M', p', T'⟩ := s'
  have e1 := h2.mem
  have e2 := h2.pos
  have e3 := h2.tr
  simp only at e1 e2 e3
  rw [e1, e2, e3]

end Mc
end Go.Proofs.Ytlafngfoejngaaa
