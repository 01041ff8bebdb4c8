/-
  The code that judges a secret: a secret is read by tables, the marks are added, the verdict is looked up.
-/
import Derived.Test.YtlafngfoejngaaaOb
namespace Go.Proofs.Ytlafngfoejngaaa
namespace Mc

/-- A table, as numbers. -/
structure TabN where
  S : Nat
  C : Nat
  cl : Nat → Nat
  gr : Nat → Bool
  nx : Nat → Nat → Nat
structure TabN.Ok (t : TabN) : Prop where
  s1 : 0 < t.S
  c1 : 0 < t.C
  s2 : t.S ≤ 24
  c2 : t.C ≤ 24
  cl : ∀ b, b < 256 → t.cl b < t.C
  nx : ∀ q c, q < t.S → c < t.C → t.nx q c < t.S
/-- The state to which a string leads. -/
def TabN.run (t : TabN) (bs : List Nat) : Nat := bs.foldl (fun q b => t.nx q (t.cl b)) 0
theorem TabN.run_snoc (t : TabN) (bs : List Nat) (b : Nat) : t.run (bs ++ [b]) = t.nx (t.run bs) (t.cl b) := by unfold TabN.run; rw [List.foldl_append]; rfl
theorem TabN.run_take_lt {t : TabN} (h : t.Ok) {bs : List Nat} (hb : ∀ b ∈ bs, b < 256) : ∀ n, t.run (bs.take n) < t.S := by
  intro n
  induction n with
  | zero => exact h.s1
  | succ n ih =>
    by_cases hn : n < bs.length
    · rw [List.take_add_one, List.getElem?_eq_getElem hn]
      show t.run (bs.take n ++ [bs[n]]) < t.S
      rw [t.run_snoc]
      exact h.nx _ _ ih (h.cl _ (hb _ (List.getElem_mem _)))
    · rw [List.take_of_length_le (by omega)]
      rw [List.take_of_length_le (by omega)] at ih
      exact ih

/-- A table's words in memory. -/
structure AreaOk (M : List Nat) (cb rb mark : Nat) (t : TabN) : Prop where
  ok : t.Ok
  ce : cb + 256 ≤ 4096
  re : rb + t.S * (t.C + 1) ≤ 4096
  cls : ∀ b, b < 256 → M.getD (cb + b) 0 = 1 + t.cl b
  grs : ∀ q, q < t.S → M.getD (rb + q * (t.C + 1)) 0 = if t.gr q then mark else 0
  nxs : ∀ q c, q < t.S → c < t.C → M.getD (rb + q * (t.C + 1) + (1 + c)) 0 = rb + t.nx q c * (t.C + 1)
/-- A secret in memory. -/
structure SecOk (M : List Nat) (bs : List Nat) : Prop where
  b : ∀ b ∈ bs, b < 256
  w : ∀ i, i < 16 → M.getD (1 + i) 0 = bs.getD i 0

theorem row_in {t : TabN} {q c : Nat} (hq : q < t.S) (hc : c ≤ t.C) : q * (t.C + 1) + c < t.S * (t.C + 1) := by
  have h : (q + 1) * (t.C + 1) ≤ t.S * (t.C + 1) := Nat.mul_le_mul_right _ hq
  rw [Nat.add_mul, Nat.one_mul] at h
  omega

def readsOps (cb ce rb re p : Nat) : Nat → List OpI
  | 0 => []
  | n + 1 => readsOps cb ce rb re p n ++ readByteOps n cb ce rb re (p + 31 * n)
def readsT (cb ce rb re : Nat) : Nat → List Nat
  | 0 => []
  | n + 1 => readsT cb ce rb re n ++ readByteT n cb ce rb re
theorem readByteOps_len (i cb ce rb re p : Nat) : (readByteOps i cb ce rb re p).length = 31 := by simp [readByteOps, lookOps]
theorem readsOps_len (cb ce rb re p : Nat) : ∀ n, (readsOps cb ce rb re p n).length = 31 * n
  | 0 => rfl
  | n + 1 => by rw [readsOps, List.length_append, readsOps_len cb ce rb re p n, readByteOps_len]; omega

theorem reads_any {cs : List OpI} {M : List Nat} {cb rb mark p L v : Nat} {t : TabN} {bs : List Nat} (hM : ∀ i, M.getD i 0 ≤ 65535) (ha : AreaOk M cb rb mark t) (hs : SecOk M bs) (hL : bs.length = L) {g : Nat → Nat} {T : List Nat} (hg : Rg g L v rb false) :
    ∀ n, n ≤ 16 → At cs p (readsOps cb (cb + 256) rb (rb + t.S * (t.C + 1)) p n) →
      Goes cs (n * readByteN cb (cb + 256) rb (rb + t.S * (t.C + 1))) g M p T (fun g' => Rg g' L v (rb + t.run (bs.take n) * (t.C + 1)) (decide (L < n))) M (p + 31 * n) (T ++ readsT cb (cb + 256) rb (rb + t.S * (t.C + 1)) n) := by
  intro n
  induction n with
  | zero =>
    intro _ _
    rw [Nat.zero_mul, Nat.mul_zero]
    have : T ++ readsT cb (cb + 256) rb (rb + t.S * (t.C + 1)) 0 = T := by simp [readsT]
    rw [this]
    refine Goes.zero ?_
    have e : t.run (bs.take 0) = 0 := rfl
    rw [e, Nat.zero_mul, Nat.add_zero]
    simpa using hg
  | succ n ih =>
    intro hn hc
    obtain ⟨hc1, hc2⟩ := At.app (show At cs p (readsOps cb (cb + 256) rb (rb + t.S * (t.C + 1)) p n ++ readByteOps n cb (cb + 256) rb (rb + t.S * (t.C + 1)) (p + 31 * n)) from hc)
    rw [readsOps_len] at hc2
    rw [Nat.add_mul, Nat.one_mul]
    refine Goes.next (ih (by omega) hc1) fun q hq => ?_
    have hlt := TabN.run_take_lt ha.ok hs.b n
    have hw : M.getD (1 + n) 0 = bs.getD n 0 := hs.w n (by omega)
    have hwb : bs.getD n 0 < 256 := by
      by_cases h : n < bs.length
      · rw [List.getD_eq_getElem?_getD, List.getElem?_eq_getElem h]; exact hs.b _ (List.getElem_mem _)
      · rw [List.getD_eq_getElem?_getD, List.getElem?_eq_none (by omega)]; exact Nat.zero_lt_succ _
    have hce := ha.ce
    have hre := ha.re
    have hcl := ha.ok.cl _ hwb
    have hf1 : found M cb (cb + 256) (M.getD (1 + n) 0 + cb) = 1 + t.cl (bs.getD n 0) := by
      rw [hw]; unfold found; rw [if_pos (by omega), Nat.add_comm, ha.cls _ hwb]
    have hin := row_in (t := t) (q := t.run (bs.take n)) (c := 1 + t.cl (bs.getD n 0)) hlt (by omega)
    have hf2 : found M rb (rb + t.S * (t.C + 1)) (rb + t.run (bs.take n) * (t.C + 1) + (1 + t.cl (bs.getD n 0))) = rb + t.nx (t.run (bs.take n)) (t.cl (bs.getD n 0)) * (t.C + 1) := by
      unfold found; rw [if_pos (by omega), ha.nxs _ _ hlt hcl]
    have hb := readByte_any (T := T ++ readsT cb (cb + 256) rb (rb + t.S * (t.C + 1)) n) hc2 hM (by omega) hce (by have := ha.ok.s1; have := row_in (t := t) (q := 0) (c := 0) this (by omega); omega) hre (by omega) (by rw [hw]; omega) (by rw [hf1]; omega) hq
    rw [hf1, hf2] at hb
    rw [show p + 31 * (n + 1) = p + 31 * n + 31 by omega, show T ++ readsT cb (cb + 256) rb (rb + t.S * (t.C + 1)) (n + 1) = T ++ readsT cb (cb + 256) rb (rb + t.S * (t.C + 1)) n ++ readByteT n cb (cb + 256) rb (rb + t.S * (t.C + 1)) by rw [readsT, List.append_assoc]]
    refine hb.mono fun q' hq' => ?_
    have een : (decide (L < n) || decide (n = L)) = decide (L < n + 1) := by
      by_cases h1 : L < n
      · simp [h1]; omega
      · by_cases h2 : n = L
        · subst h2; simp
        · simp [h1, h2]; omega
    rw [een] at hq'
    have er : (if decide (L < n + 1) = true then rb + t.run (bs.take n) * (t.C + 1) else rb + t.nx (t.run (bs.take n)) (t.cl (bs.getD n 0)) * (t.C + 1)) = rb + t.run (bs.take (n + 1)) * (t.C + 1) := by
      by_cases h1 : L < n + 1
      · rw [if_pos (by simpa using h1), List.take_of_length_le (show bs.length ≤ n by omega), List.take_of_length_le (show bs.length ≤ n + 1 by omega)]
      · rw [if_neg (by simpa using h1), List.take_add_one, List.getElem?_eq_getElem (by omega)]
        show _ = rb + t.run (bs.take n ++ [bs[n]]) * _
        rw [t.run_snoc, List.getD_eq_getElem?_getD, List.getElem?_eq_getElem (by omega)]; rfl
    rw [er] at hq'
    exact hq'

def addMarkOps (rb re p : Nat) : List OpI := [opN 3 5 3 3] ++ (lookOps rb re (p + 1) ++ [opN 1 2 2 6])
theorem addMark_any {cs : List OpI} {M : List Nat} {cb rb mark p L v q : Nat} {t : TabN} {en : Bool} (hM : ∀ i, M.getD i 0 ≤ 65535) (ha : AreaOk M cb rb mark t) (hq : q < t.S) (hv : v + mark ≤ 65535) {g : Nat → Nat} {T : List Nat} (hg : Rg g L v (rb + q * (t.C + 1)) en)
    (hc : At cs p (addMarkOps rb (rb + t.S * (t.C + 1)) p)) :
    Goes cs (1 + ((3 + 7 * (rb + t.S * (t.C + 1) - rb)) + 1)) g M p T (fun g' => g' 0 = 1 ∧ g' 1 = L ∧ g' 2 = v + (if t.gr q then mark else 0)) M (p + 12) (T ++ lookT rb (rb + t.S * (t.C + 1) - rb)) := by
  obtain ⟨a1, hc2⟩ := hc.app
  obtain ⟨a2, a3⟩ := hc2.app
  simp only [List.length_cons, List.length_nil, Nat.zero_add, lookOps] at a2 a3
  have e0 := a1.get 0 rfl
  have e11 := a3.get 0 rfl
  have hin := row_in (t := t) (q := q) (c := 0) hq (by omega)
  have hre := ha.re
  refine Goes.next (n := 1) (goes_join (k := 3) (post := fun r => r 0 = 1 ∧ r 1 = L ∧ r 2 = v ∧ r 5 = rb + q * (t.C + 1)) (by decide) (by decide) (by decide) e0 ⟨?_, ?_, ?_, ?_⟩) fun r hr => ?_
  · rw [upd_ne _ _ (by decide)]; exact hg.one
  · rw [upd_ne _ _ (by decide)]; exact hg.len
  · rw [upd_ne _ _ (by decide)]; exact hg.ver
  · rw [upd_same, j3, Nat.or_self]; exact hg.row
  obtain ⟨r0, r1, r2, r5⟩ := hr
  refine Goes.next ((look_any (p := p + 1) (by simpa [lookOps] using a2) hM (by omega) hre r r0 T).mono (post2 := fun s => s 0 = 1 ∧ s 1 = L ∧ s 2 = v ∧ s 6 = if t.gr q then mark else 0) fun s hs => ⟨?_, ?_, ?_, ?_⟩) fun s hs => ?_
  · rw [hs.1 0 (by decide) (by decide) (by decide) (by decide) (by decide)]; exact r0
  · rw [hs.1 1 (by decide) (by decide) (by decide) (by decide) (by decide)]; exact r1
  · rw [hs.1 2 (by decide) (by decide) (by decide) (by decide) (by decide)]; exact r2
  · rw [hs.2, r5, found, if_pos (by omega), ha.grs q hq]
  obtain ⟨s0, s1, s2, s6⟩ := hs
  refine goes_join (k := 1) (by decide) (by decide) (by decide) e11 ⟨?_, ?_, ?_⟩
  · rw [upd_ne _ _ (by decide)]; exact s0
  · rw [upd_ne _ _ (by decide)]; exact s1
  · rw [upd_same, s2, s6, j1 (by split <;> omega)]

/-- A table's piece of the code. -/
def tableOps (cb rb : Nat) (t : TabN) (N p : Nat) : List OpI := [opN 0 3 rb 0, opN 0 4 0 0] ++ (readsOps cb (cb + 256) rb (rb + t.S * (t.C + 1)) (p + 2) N ++ addMarkOps rb (rb + t.S * (t.C + 1)) (p + 2 + 31 * N))
def tableT (cb rb : Nat) (t : TabN) (N : Nat) : List Nat := readsT cb (cb + 256) rb (rb + t.S * (t.C + 1)) N ++ lookT rb (rb + t.S * (t.C + 1) - rb)
def tableN (cb rb : Nat) (t : TabN) (N : Nat) : Nat := 2 + (N * readByteN cb (cb + 256) rb (rb + t.S * (t.C + 1)) + (1 + ((3 + 7 * (rb + t.S * (t.C + 1) - rb)) + 1)))
theorem tableOps_len (cb rb : Nat) (t : TabN) (N p : Nat) : (tableOps cb rb t N p).length = 14 + 31 * N := by simp [tableOps, readsOps_len, addMarkOps, lookOps]; omega
theorem table_any {cs : List OpI} {M : List Nat} {cb rb mark p L v N : Nat} {t : TabN} {bs : List Nat} (hM : ∀ i, M.getD i 0 ≤ 65535) (ha : AreaOk M cb rb mark t) (hs : SecOk M bs) (hL : bs.length = L) (hN : L ≤ N) (hN2 : N ≤ 16) (hv : v + mark ≤ 65535) {g : Nat → Nat} {T : List Nat} (h0 : g 0 = 1) (h1 : g 1 = L) (h2 : g 2 = v)
    (hc : At cs p (tableOps cb rb t N p)) :
    Goes cs (tableN cb rb t N) g M p T (fun g' => g' 0 = 1 ∧ g' 1 = L ∧ g' 2 = v + (if t.gr (t.run bs) then mark else 0)) M (p + (14 + 31 * N)) (T ++ tableT cb rb t N) := by
  obtain ⟨a1, hc2⟩ := hc.app
  obtain ⟨a2, a3⟩ := hc2.app
  simp only [List.length_cons, List.length_nil, Nat.zero_add, readsOps_len] at a2 a3
  have e0 := a1.get 0 rfl
  have e1 := a1.get 1 rfl
  unfold tableN tableT
  rw [show 2 + (N * readByteN cb (cb + 256) rb (rb + t.S * (t.C + 1)) + (1 + ((3 + 7 * (rb + t.S * (t.C + 1) - rb)) + 1))) = 1 + (1 + (N * readByteN cb (cb + 256) rb (rb + t.S * (t.C + 1)) + (1 + ((3 + 7 * (rb + t.S * (t.C + 1) - rb)) + 1)))) by omega]
  refine Goes.next (goes_set (post := fun q => q = upd g 3 rb) e0 rfl) fun q hq => ?_
  subst hq
  refine Goes.next (goes_set (post := fun q => Rg q L v rb false) e1 ⟨?_, ?_, ?_, ?_, upd_same _ _ _⟩) fun q hq => ?_
  · rw [upd_ne _ _ (by decide), upd_ne _ _ (by decide)]; exact h0
  · rw [upd_ne _ _ (by decide), upd_ne _ _ (by decide)]; exact h1
  · rw [upd_ne _ _ (by decide), upd_ne _ _ (by decide)]; exact h2
  · rw [upd_ne _ _ (by decide), upd_same]
  refine Goes.next (reads_any hM ha hs hL (T := T) hq N hN2 a2) fun q hq => ?_
  rw [List.take_of_length_le (by omega)] at hq
  have hlt := TabN.run_take_lt ha.ok hs.b bs.length
  rw [List.take_length] at hlt
  have := addMark_any (T := T ++ readsT cb (cb + 256) rb (rb + t.S * (t.C + 1)) N) hM ha hlt hv hq a3
  rw [show p + 2 + 31 * N + 12 = p + (14 + 31 * N) by omega, List.append_assoc] at this
  exact this

end Mc
end Go.Proofs.Ytlafngfoejngaaa
