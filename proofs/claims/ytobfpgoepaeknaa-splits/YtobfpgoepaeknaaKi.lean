/-
  The law Splits.
-/
import Derived.Test.YtobfpgoepaeknaaKh
import Derived.Test.YtobfpgoepaeknaaKd
namespace Go.Proofs.Ytobfpgoepaeknaa
open Go.RowKit
attribute [local go_sem ↓] Go.wp_at_zero Go.wp_at_succ

theorem cut_cat (A B : Lang) (s : List Nat) : CutTo A B s 0 (s.length + 1) ↔ catL A B s := by
  constructor
  · rintro ⟨i, _, _, h1, h2⟩; exact ⟨_, _, (List.take_append_drop i s).symm, h1, h2⟩
  · rintro ⟨u, v, rfl, h1, h2⟩
    exact ⟨u.length, Nat.zero_le _, by simp; omega, by rw [List.take_left']; exact h1; rfl, by rw [List.drop_left']; exact h2; rfl⟩
theorem strL_nil : strL [] = epsL := rfl
theorem cat_str (A : Lang) (t u : List Nat) : catL A (strL u) (t ++ u) ↔ A t := by
  constructor
  · rintro ⟨a, b, h1, h2, rfl⟩
    rw [List.append_cancel_right h1]; exact h2
  · intro h; exact ⟨t, u, rfl, h, rfl⟩
theorem str_cat (A : Lang) (t u : List Nat) : catL (strL u) A (u ++ t) ↔ A t := by
  constructor
  · rintro ⟨a, b, h1, rfl, h2⟩
    rw [List.append_cancel_left h1]; exact h2
  · intro h; exact ⟨u, t, rfl, rfl, h⟩
theorem eps_cat (A : Lang) : catL epsL A = A := by
  refine Lang.ext fun w => ⟨?_, ?_⟩
  · rintro ⟨a, b, rfl, rfl, h⟩; exact h
  · intro h; exact ⟨[], w, rfl, rfl, h⟩
/-- An escaped string before a branch. -/
theorem Gb.strCat {y : List Nat} {u : Val} (k : Gb y u) (hy : Lead y) : ∀ s : List Nat, (∀ c ∈ s, c < 256) → ∃ X, Gb (escAll s ++ y) X ∧ Lead (escAll s ++ y) ∧ X.1 = catL (strL s) u.1 ∧ X.2 = (s.length : Int) + u.2
  | [], _ => ⟨u, k, hy, by rw [strL_nil, eps_cat], by simp⟩
  | b :: s, h => by
    obtain ⟨X, g1, g2, g3, g4⟩ := Gb.strCat k hy s (fun c hc => h c (List.mem_cons_of_mem _ hc))
    have e : escAll (b :: s) ++ y = escN b ++ (escAll s ++ y) := by rw [← List.append_assoc]; rfl
    refine ⟨catV (Re.set (addR noSet (b : Int) (b : Int))).val X, ?_, ?_, ?_, ?_⟩
    · rw [e]; exact (Ga.esc (h b (by simp))).i.cat g1 g2
    · exact ⟨92, _, rfl, by decide⟩
    · show catL (setL (addR noSet (b : Int) (b : Int))) X.1 = _
      rw [g3, ← catL_assoc, strL_cons]
    · show (1 : Int) + X.2 = _
      rw [g4]; simp; omega
/-- An escaped string behind a bracket. -/
theorem par_str {x : List Nat} {v : Val} (hG : Gp x v) (s : List Nat) (h : ∀ c ∈ s, c < 256) : ∃ X, Gp (parT x ++ escAll s) X ∧ X.1 = catL v.1 (strL s) ∧ X.2 = v.2 + (s.length : Int) := by
  cases s with
  | nil =>
    refine ⟨v, ?_, by rw [strL_nil, catL_eps], by simp⟩
    have : parT x ++ escAll [] = parT x := List.append_nil _
    rw [this]; exact (Gp.par hG).i.b.p
  | cons b s =>
    have g := Gb.escs b s h
    exact ⟨_, ((Gp.par hG).i.cat g (escAll_lead b s)).p, rfl, by show v.2 + ((s.length : Int) + 1) = _; simp⟩

section
variable (w : World) {p q h s : ByteArray} {x z : List Nat} {v u : Val} {y : Bool}

theorem says_seq (hG : Gp x v) (hx : bytesN p = x) (kG : Gp z u) (kx : bytesN q = z) (hp : p.size ≤ 26) (hq : q.size ≤ 26) (hw : v.2 + u.2 ≤ 12) (hs : s.size ≤ 16) (hy : y = true ↔ catL v.1 u.1 (bytesN s)) :
    Calls Try.prog 13 #[.string (({ data := #[40] } : ByteArray) ++ p ++ { data := #[41, 40] } ++ q ++ { data := #[41] }), .string s, .bool y] w fun e w' => e = .returned (.bool true) ∧ Below w.heap.size w w' := by
  have hb : bytesN (({ data := #[40] } : ByteArray) ++ p ++ { data := #[41, 40] } ++ q ++ { data := #[41] }) = parT x ++ parT z := by
    rw [bytesN_app, bytesN_app, bytesN_app, bytesN_app, hx, kx]; simp [parT, bytesN]
  refine says_any w _ s y _ _ ((Gp.par hG).i.cat (Gp.par kG).i.b (parT_lead z)).p hb ?_ hw hs hy
  rw [← bytesN_len, hb]
  have h1 := bytesN_len p
  have h2 := bytesN_len q
  rw [hx] at h1; rw [kx] at h2
  simp [parT]; omega
theorem says_or (hG : Gp x v) (hx : bytesN p = x) (kG : Gp z u) (kx : bytesN q = z) (hp : p.size ≤ 26) (hq : q.size ≤ 26) (hw : v.2 + u.2 ≤ 12) (hs : s.size ≤ 16) (hy : y = true ↔ (v.1 (bytesN s) ∨ u.1 (bytesN s))) :
    Calls Try.prog 13 #[.string (({ data := #[40] } : ByteArray) ++ p ++ { data := #[41, 124, 40] } ++ q ++ { data := #[41] }), .string s, .bool y] w fun e w' => e = .returned (.bool true) ∧ Below w.heap.size w w' := by
  have hb : bytesN (({ data := #[40] } : ByteArray) ++ p ++ { data := #[41, 124, 40] } ++ q ++ { data := #[41] }) = parT x ++ 124 :: parT z := by
    rw [bytesN_app, bytesN_app, bytesN_app, bytesN_app, hx, kx]; simp [parT, bytesN]
  refine says_any w _ s y _ (altV v u) ((Gp.par hG).i.b.alt (Gp.par kG).i.b.p) hb ?_ hw hs hy
  rw [← bytesN_len, hb]
  have h1 := bytesN_len p
  have h2 := bytesN_len q
  rw [hx] at h1; rw [kx] at h2
  simp [parT]; omega
theorem says_bar {r : List Nat} (hG : Gq x v) (hx : bytesN p = x) (hh : bytesN h = escAll r) (hr : ∀ c ∈ r, c < 256) (hl : r.length ≤ 4) (hp : p.size ≤ 26) (hw : v.2 ≤ 6) (hs : s.size ≤ 16) (hy : y = true ↔ (v.1 (bytesN s) ∨ bytesN s = r)) :
    Calls Try.prog 13 #[.string (p ++ { data := #[124] } ++ h), .string s, .bool y] w fun e w' => e = .returned (.bool true) ∧ Below w.heap.size w w' := by
  have hb : bytesN (p ++ { data := #[124] } ++ h) = x ++ 124 :: escAll r := by
    rw [bytesN_app, bytesN_app, hx, hh]; simp [bytesN]
  refine says_any w _ s y _ (altV v (strV r)) (hG.alt (Gb.str r hr)).1 hb ?_ ?_ hs hy
  · rw [← bytesN_len, hb]
    have h1 := bytesN_len p
    rw [hx] at h1
    simp [escAll_len]; omega
  · show v.2 + (strV r).2 ≤ 12
    unfold strV; simp only; split <;> omega
theorem says_behind {t m : ByteArray} (hG : Gp x v) (hx : bytesN p = x) (hh : bytesN h = escAll (bytesN m)) (hl : m.size ≤ 4) (hp : p.size ≤ 26) (hw : v.2 ≤ 6) (hs : t.size + m.size ≤ 16) (hy : y = true ↔ v.1 (bytesN t)) :
    Calls Try.prog 13 #[.string (({ data := #[40] } : ByteArray) ++ p ++ { data := #[41] } ++ h), .string (t ++ m), .bool y] w fun e w' => e = .returned (.bool true) ∧ Below w.heap.size w w' := by
  obtain ⟨X, g1, g2, g3⟩ := par_str hG (bytesN m) (bytesN_lt m)
  have hb : bytesN (({ data := #[40] } : ByteArray) ++ p ++ { data := #[41] } ++ h) = parT x ++ escAll (bytesN m) := by
    rw [bytesN_app, par_bytes, hx, hh]
  have hml := bytesN_len m
  refine says_any w _ _ y _ X g1 hb ?_ (by rw [g3]; omega) (by rw [ByteArray.size_append]; exact hs) (by rw [bytesN_app, g2, cat_str]; exact hy)
  rw [← bytesN_len, hb]
  have h1 := bytesN_len p
  rw [hx] at h1
  simp [parT, escAll_len]; omega
theorem says_before {t m : ByteArray} (hG : Gp x v) (hx : bytesN p = x) (hh : bytesN h = escAll (bytesN m)) (hl : m.size ≤ 4) (hp : p.size ≤ 26) (hw : v.2 ≤ 6) (hs : m.size + t.size ≤ 16) (hy : y = true ↔ v.1 (bytesN t)) :
    Calls Try.prog 13 #[.string (h ++ { data := #[40] } ++ p ++ { data := #[41] }), .string (m ++ t), .bool y] w fun e w' => e = .returned (.bool true) ∧ Below w.heap.size w w' := by
  obtain ⟨X, g1, g2, g3, g4⟩ := Gb.strCat (Gp.par hG).i.b (parT_lead x) (bytesN m) (bytesN_lt m)
  have hb : bytesN (h ++ { data := #[40] } ++ p ++ { data := #[41] }) = escAll (bytesN m) ++ parT x := by
    rw [bytesN_app, bytesN_app, bytesN_app, hx, hh]; simp [parT, bytesN]
  have hml := bytesN_len m
  refine says_any w _ _ y _ X g1.p hb ?_ (by rw [g4]; omega) (by rw [ByteArray.size_append]; exact hs) (by rw [bytesN_app, g3, str_cat]; exact hy)
  rw [← bytesN_len, hb]
  have h1 := bytesN_len p
  rw [hx] at h1
  simp [parT, escAll_len]; omega
end

end Go.Proofs.Ytobfpgoepaeknaa
