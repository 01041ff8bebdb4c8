/-
  The text of a plan is an image.
  The text of a plan: what the program reads in it.
-/
import Derived.Test.YtnkdbcicphnmiaaHe
import Derived.Test.YtnkdbcicphnmiaaHf
namespace Go.Proofs.Ytnkdbcicphnmiaa
namespace Mc
open Go.RowKit

theorem app_size (a b : ByteArray) : (a ++ b).size = a.size + b.size := ByteArray.size_append
theorem bt_app (a b : ByteArray) (k : Nat) : bt (a ++ b) k = if k < a.size then bt a k else bt b (k - a.size) := by
  have hs := app_size a b
  by_cases hk : k < a.size
  · rw [if_pos hk, ← bt_at (a ++ b) k (by omega), ← bt_at a k hk, ByteArray.getElem_append_left hk]
  · rw [if_neg hk]
    by_cases h2 : k < (a ++ b).size
    · rw [← bt_at (a ++ b) k h2, ← bt_at b (k - a.size) (by omega), ByteArray.getElem_append_right (by omega)]
    · rw [bt_end h2, bt_end (by omega)]
theorem ba_ext {a b : ByteArray} (hs : a.size = b.size) (h : ∀ k, k < a.size → bt a k = bt b k) : a = b := by
  apply ByteArray.ext
  apply Array.ext
  · exact hs
  · intro i h1 h2
    have := h i h1
    rw [← bt_at a i h1, ← bt_at b i h2] at this
    exact UInt8.toNat.inj this

/-- A small table's bytes stand in a text from a place on. -/
structure Stands (x : ByteArray) (p : Nat) (t : TabN) : Prop where
  ok : KOk t
  len : p + (kBy t).length ≤ x.size
  at_ : ∀ k, k < (kBy t).length → bt x (p + k) = (kBy t).getD k 0
theorem kBy_len (t : TabN) : (kBy t).length = 258 + t.S + t.S * t.C := by
  unfold kBy; rw [List.length_append, kflat_len]; simp; omega
theorem kBy_0 (t : TabN) : (kBy t).getD 0 0 = t.S := rfl
theorem kBy_1 (t : TabN) : (kBy t).getD 1 0 = t.C := rfl
theorem getDL {xs ys : List Nat} {k : Nat} (h : k < xs.length) : (xs ++ ys).getD k 0 = xs.getD k 0 := by
  rw [List.getD_eq_getElem?_getD, List.getElem?_append_left h, ← List.getD_eq_getElem?_getD]
theorem getDR {xs ys : List Nat} {k n : Nat} (h : k = xs.length + n) : (xs ++ ys).getD k 0 = ys.getD n 0 := by
  subst h
  rw [List.getD_eq_getElem?_getD, List.getElem?_append_right (by omega), Nat.add_sub_cancel_left, ← List.getD_eq_getElem?_getD]
theorem getDM {f : Nat → Nat} {n k : Nat} (h : k < n) : ((List.range n).map f).getD k 0 = f k := by
  rw [List.getD_eq_getElem?_getD, List.getElem?_map, List.getElem?_range h]; rfl
theorem kBy_cl (t : TabN) {b : Nat} (h : b < 256) : (kBy t).getD (2 + b) 0 = t.cl b := by
  unfold kBy
  rw [getDL (by simp; omega), getDL (by simp; omega), getDR (n := b) (by simp), getDM h]
theorem kBy_gr (t : TabN) {q : Nat} (h : q < t.S) : (kBy t).getD (258 + q) 0 = (t.gr q).toNat := by
  unfold kBy
  rw [getDL (by simp; omega), getDR (n := q) (by simp), getDM h]
theorem flat_get {C : Nat} {nc : Nat → Nat → Nat} : ∀ (S q c : Nat), q < S → c < C → ((List.range S).flatMap (fun i => (List.range C).map (nc i))).getD (q * C + c) 0 = nc q c
  | 0, q, c, h, _ => by omega
  | S + 1, q, c, h, hc => by
    rw [kflat_snoc]
    by_cases e : q = S
    · subst e
      rw [getDR (n := c) (by rw [kflat_len]), getDM hc]
    · have h1 : (q + 1) * C ≤ S * C := Nat.mul_le_mul_right _ (by omega)
      rw [Nat.add_mul, Nat.one_mul] at h1
      rw [getDL (by rw [kflat_len]; omega)]
      exact flat_get S q c (by omega) hc
theorem kBy_nx (t : TabN) {q c : Nat} (h : q < t.S) (hc : c < t.C) : (kBy t).getD (258 + t.S + (q * t.C + c)) 0 = t.nx q c := by
  unfold kBy
  rw [getDR (n := q * t.C + c) (by simp; omega), flat_get t.S q c h hc]
section
variable {x : ByteArray} {p : Nat} {t : TabN}
theorem Stands.S (h : Stands x p t) : bt x p = t.S := by
  have := h.at_ 0 (by rw [kBy_len]; omega)
  rwa [Nat.add_zero, kBy_0] at this
theorem Stands.C (h : Stands x p t) : bt x (p + 1) = t.C := by
  have := h.at_ 1 (by rw [kBy_len]; omega)
  rwa [kBy_1] at this
theorem Stands.cl (h : Stands x p t) {b : Nat} (hb : b < 256) : bt x (p + 2 + b) = t.cl b := by
  have := h.at_ (2 + b) (by rw [kBy_len]; omega)
  rwa [kBy_cl t hb, ← Nat.add_assoc] at this
theorem Stands.gr (h : Stands x p t) {q : Nat} (hq : q < t.S) : bt x (p + 258 + q) = (t.gr q).toNat := by
  have := h.at_ (258 + q) (by rw [kBy_len]; omega)
  rwa [kBy_gr t hq, ← Nat.add_assoc] at this
theorem Stands.nx (h : Stands x p t) {q c : Nat} (hq : q < t.S) (hc : c < t.C) : bt x (p + 258 + t.S + (q * t.C + c)) = t.nx q c := by
  have h1 : (q + 1) * t.C ≤ t.S * t.C := Nat.mul_le_mul_right _ hq
  rw [Nat.add_mul, Nat.one_mul] at h1
  have := h.at_ (258 + t.S + (q * t.C + c)) (by rw [kBy_len]; omega)
  rw [kBy_nx t hq hc] at this
  rw [← this]; congr 1; omega
theorem Stands.tsz (h : Stands x p t) : Mc.tsz x p = (kBy t).length := by unfold Mc.tsz; rw [h.S, h.C, kBy_len]
theorem Stands.tok (h : Stands x p t) : TOk x p := by
  have hs := h.S
  have hc := h.C
  have k := h.ok
  have k4 := k.s4
  have k3 := k.c3
  have kc1 : 0 < t.C := k.ok.c1
  refine ⟨by rw [hs]; exact k.ok.s1, by rw [hs]; omega, by rw [hc]; exact kc1, by rw [hc]; omega, by rw [h.tsz]; exact h.len, fun b hb => by rw [h.cl hb, hc]; exact k.ok.cl b hb, fun q hq => ?_, fun j hj => ?_⟩
  · rw [hs] at hq
    rw [h.gr hq]
    cases t.gr q <;> decide
  · rw [hs, hc] at hj
    have hd : j = j / t.C * t.C + j % t.C := by rw [Nat.mul_comm]; exact (Nat.div_add_mod j t.C).symm
    have hq : j / t.C < t.S := Nat.div_lt_of_lt_mul (by rw [Nat.mul_comm]; exact hj)
    have hr : j % t.C < t.C := Nat.mod_lt _ kc1
    rw [hs, hd, h.nx hq hr]
    exact k.ok.nx _ _ hq hr
theorem Stands.run (h : Stands x p t) {bs : List Nat} (hb : ∀ b ∈ bs, b < 256) : (tabAt x p).run bs = t.run bs := by
  have key : ∀ (bs : List Nat) (q : Nat), q < t.S → (∀ b ∈ bs, b < 256) → bs.foldl (fun q b => (tabAt x p).nx q ((tabAt x p).cl b)) q = bs.foldl (fun q b => t.nx q (t.cl b)) q := by
    intro bs
    induction bs with
    | nil => intro q _ _; rfl
    | cons b bs ih =>
      intro q hq hb
      have hb1 := hb b (by simp)
      have hc := h.ok.ok.cl b hb1
      have e1 : (tabAt x p).cl b = t.cl b := h.cl hb1
      have e2 : (tabAt x p).nx q (t.cl b) = t.nx q (t.cl b) := by
        show bt x (p + 258 + bt x p + (q * bt x (p + 1) + t.cl b)) = _
        rw [h.S, h.C]
        exact h.nx hq hc
      rw [List.foldl_cons, List.foldl_cons, e1, e2]
      exact ih _ (h.ok.ok.nx q _ hq hc) (fun b hb' => hb b (by simp [hb']))
  exact key bs 0 h.ok.ok.s1 hb
theorem Stands.grants (h : Stands x p t) {bs : List Nat} (hb : ∀ b ∈ bs, b < 256) : (tabAt x p).gr ((tabAt x p).run bs) = t.gr (t.run bs) := by
  rw [h.run hb]
  have hq : t.run bs < t.S := by
    have := TabN.run_take_lt h.ok.ok hb bs.length
    rwa [List.take_length] at this
  show decide (bt x (p + 258 + t.run bs) = 1) = _
  rw [h.gr hq]
  cases t.gr (t.run bs) <;> rfl
end

end Mc
end Go.Proofs.Ytnkdbcicphnmiaa
namespace Go.Proofs.Ytnkdbcicphnmiaa
namespace Mc
open Go.RowKit

/-- The text of a plan. -/
def planX (N k : Nat) (A B : TabN) : ByteArray := (((⟨#[86, 80]⟩ ++ mkS [N, 2, (formS k).size]) ++ formS k) ++ mkS (kBy A)) ++ mkS (kBy B)
section
variable {N k : Nat} {A B : TabN}
theorem vp_size : (⟨#[86, 80]⟩ : ByteArray).size = 2 := rfl
theorem planX_size : (planX N k A B).size = 5 + (formS k).size + (kBy A).length + (kBy B).length := by
  unfold planX
  rw [app_size, app_size, app_size, app_size, mkS_size, mkS_size, mkS_size, vp_size]
  simp
theorem planX_head (hN : N ≤ 16) (hk : k < 10) : bt (planX N k A B) 0 = 86 ∧ bt (planX N k A B) 1 = 80 ∧ bt (planX N k A B) 2 = N ∧ bt (planX N k A B) 3 = 2 ∧ bt (planX N k A B) 4 = (formS k).size := by
  have hf := form_size hk
  have hh : ∀ x ∈ [N, 2, (formS k).size], x < 256 := by
    intro x hx
    simp at hx
    omega
  have key : ∀ j, j < 5 → bt (planX N k A B) j = bt (⟨#[86, 80]⟩ ++ mkS [N, 2, (formS k).size]) j := fun j hj => by
    unfold planX
    have e : (⟨#[86, 80]⟩ ++ mkS [N, 2, (formS k).size]).size = 5 := by rw [app_size, mkS_size, vp_size]; rfl
    rw [bt_app, if_pos (by rw [app_size, app_size, e]; omega), bt_app, if_pos (by rw [app_size, e]; omega), bt_app, if_pos (by rw [e]; exact hj)]
  refine ⟨?_, ?_, ?_, ?_, ?_⟩
  · rw [key 0 (by decide), bt_app, if_pos (by rw [vp_size]; decide)]; rfl
  · rw [key 1 (by decide), bt_app, if_pos (by rw [vp_size]; decide)]; rfl
  · rw [key 2 (by decide), bt_app, if_neg (by rw [vp_size]; decide), mkS_bt hh]; rfl
  · rw [key 3 (by decide), bt_app, if_neg (by rw [vp_size]; decide), mkS_bt hh]; rfl
  · rw [key 4 (by decide), bt_app, if_neg (by rw [vp_size]; decide), mkS_bt hh]; rfl
theorem planX_form {j : Nat} (hj : j < (formS k).size) : bt (planX N k A B) (5 + j) = bt (formS k) j := by
  have e : (⟨#[86, 80]⟩ ++ mkS [N, 2, (formS k).size]).size = 5 := by rw [app_size, mkS_size, vp_size]; rfl
  unfold planX
  rw [bt_app, if_pos (by rw [app_size, app_size, e]; omega), bt_app, if_pos (by rw [app_size, e]; omega), bt_app, if_neg (by rw [e]; omega), e, Nat.add_sub_cancel_left]
theorem planX_A (hA : KOk A) : Stands (planX N k A B) (5 + (formS k).size) A := by
  have e : (⟨#[86, 80]⟩ ++ mkS [N, 2, (formS k).size]).size = 5 := by rw [app_size, mkS_size, vp_size]; rfl
  refine ⟨hA, by rw [planX_size]; omega, fun j hj => ?_⟩
  unfold planX
  rw [bt_app, if_pos (by rw [app_size, app_size, e, mkS_size]; omega), bt_app, if_neg (by rw [app_size, e]; omega), app_size, e, Nat.add_sub_cancel_left, mkS_bt (kBy_lt hA)]
theorem planX_B (hB : KOk B) : Stands (planX N k A B) (5 + (formS k).size + (kBy A).length) B := by
  have e : (⟨#[86, 80]⟩ ++ mkS [N, 2, (formS k).size]).size = 5 := by rw [app_size, mkS_size, vp_size]; rfl
  refine ⟨hB, by rw [planX_size]; omega, fun j hj => ?_⟩
  unfold planX
  rw [bt_app, if_neg (by rw [app_size, app_size, e, mkS_size]; omega), app_size, app_size, e, mkS_size, Nat.add_sub_cancel_left, mkS_bt (kBy_lt hB)]
theorem planX_imF (hN : N ≤ 16) (hk : k < 10) : imF (planX N k A B) = formS k := by
  have h4 := (planX_head (A := A) (B := B) hN hk).2.2.2.2
  unfold imF
  rw [h4]
  have hs : ((planX N k A B).extract 5 (5 + (formS k).size)).size = (formS k).size := by rw [ByteArray.size_extract, planX_size]; omega
  refine ba_ext hs fun j hj => ?_
  rw [hs] at hj
  rw [bt_ext, if_pos (by omega), planX_form hj]
theorem planX_ok (hN : N ≤ 16) (hk : k < 10) (hA : KOk A) (hB : KOk B) : ImOk (planX N k A B) := by
  obtain ⟨h0, h1, h2, h3, h4⟩ := planX_head (A := A) (B := B) hN hk
  have hf := form_size hk
  have hsz := planX_size (N := N) (k := k) (A := A) (B := B)
  have hstA := planX_A (N := N) (k := k) (B := B) hA
  have hstB := planX_B (N := N) (k := k) (A := A) hB
  have p1 : tpos (planX N k A B) (5 + (formS k).size) 1 = 5 + (formS k).size + (kBy A).length := by
    show 5 + (formS k).size + tsz (planX N k A B) (5 + (formS k).size) = _
    rw [hstA.tsz]
  refine ⟨by omega, h0, h1, by omega, by omega, by omega, by omega, by omega, by omega, ?_, ?_⟩
  · rw [h3, planX_imF hN hk]; exact form_scan hk
  · rw [h3, h4]
    refine ⟨fun i hi => ?_, ?_⟩
    · match i, hi with
      | 0, _ => exact hstA.tok
      | 1, _ => rw [p1]; exact hstB.tok
      | n + 2, hi => omega
    · show tpos (planX N k A B) (5 + (formS k).size) 1 + tsz (planX N k A B) (tpos (planX N k A B) (5 + (formS k).size) 1) = _
      rw [p1, hstB.tsz, hsz]
/-- What the image says of a secret. -/
theorem planX_says (hN : N ≤ 16) (hk : k < 10) (hA : KOk A) (hB : KOk B) (s : ByteArray) : imV (planX N k A B) s = holdsB k (A.gr (A.run (btsN s))) (B.gr (B.run (btsN s))) := by
  obtain ⟨h0, h1, h2, h3, h4⟩ := planX_head (A := A) (B := B) hN hk
  have hstA := planX_A (N := N) (k := k) (B := B) hA
  have hstB := planX_B (N := N) (k := k) (A := A) hB
  have p1 : tpos (planX N k A B) (5 + (formS k).size) 1 = 5 + (formS k).size + (kBy A).length := by
    show 5 + (formS k).size + tsz (planX N k A B) (5 + (formS k).size) = _
    rw [hstA.tsz]
  unfold imV
  rw [planX_imF hN hk, h3]
  have e : ruleT 2 (imT (planX N k A B)) (btsN s) = [A.gr (A.run (btsN s)), B.gr (B.run (btsN s))] := by
    have ea : (imT (planX N k A B) 0) = tabAt (planX N k A B) (5 + (formS k).size) := by unfold imT; rw [h4]; rfl
    have eb : (imT (planX N k A B) 1) = tabAt (planX N k A B) (5 + (formS k).size + (kBy A).length) := by unfold imT; rw [h4, p1]
    show [(imT (planX N k A B) 0).gr ((imT (planX N k A B) 0).run (btsN s)), (imT (planX N k A B) 1).gr ((imT (planX N k A B) 1).run (btsN s))] = _
    rw [ea, eb, hstA.grants (kbts_lt s), hstB.grants (kbts_lt s)]
  rw [e, form_true hk]
end

end Mc
end Go.Proofs.Ytnkdbcicphnmiaa
