/-
  Plain mathematics: more fuel and more nodes do no harm; steps in a row.
-/
import Derived.Test.YtibhlnhmejlhbaaMs
namespace Go.Proofs.Ytibhlnhmejlhbaa

theorem rfF_mono : ∀ (n m tag : Nat) (p : ByteArray) (a : Nat) (l : Int) (rs : List Rn) (r : List Rn × Int), n ≤ m → rfF n tag p a l rs = some r → rfF m tag p a l rs = some r := by
  intro n
  induction n with
  | zero => intro m tag p a l rs r _ h; simp [rfF] at h
  | succ n ih =>
    intro m tag p a l rs r hm h
    obtain ⟨m, rfl⟩ : ∃ m', m = m' + 1 := ⟨m - 1, by omega⟩
    have hle : n ≤ m := by omega
    match tag with
    | 0 => simp only [rfF] at h ⊢; exact ih _ _ _ _ _ _ _ hle h
    | 1 =>
      simp only [rfF] at h ⊢
      split at h
      · rename_i hc
        rw [if_pos hc]
        rw [Option.bind_eq_some_iff] at h ⊢
        obtain ⟨j, hj, h⟩ := h
        exact ⟨j, hj, ih _ _ _ _ _ _ _ hle h⟩
      · rename_i hc
        rw [if_neg hc]
        split at h
        · rename_i hd
          rw [if_pos hd]
          rw [Option.bind_eq_some_iff] at h ⊢
          obtain ⟨x, hx, h⟩ := h
          refine ⟨x, ih _ _ _ _ _ _ _ hle hx, ?_⟩
          split at h
          · rename_i he; rw [if_pos he]; exact h
          · rename_i he
            rw [if_neg he]
            rw [Option.bind_eq_some_iff] at h ⊢
            obtain ⟨y, hy, h⟩ := h
            exact ⟨y, ih _ _ _ _ _ _ _ hle hy, h⟩
        · cases h
    | 2 =>
      simp only [rfF] at h ⊢
      split at h
      · rename_i hc; rw [if_pos hc]; exact h
      · rename_i hc
        rw [if_neg hc]
        rw [Option.bind_eq_some_iff] at h ⊢
        obtain ⟨j, hj, h⟩ := h
        refine ⟨j, hj, ?_⟩
        split at h
        · rename_i hd
          rw [if_pos hd]
          rw [Option.bind_eq_some_iff] at h ⊢
          obtain ⟨x, hx, h⟩ := h
          exact ⟨x, ih _ _ _ _ _ _ _ hle hx, ih _ _ _ _ _ _ _ hle h⟩
        · cases h
    | 3 =>
      simp only [rfF] at h ⊢
      split at h
      · rename_i hc; rw [if_pos hc]; exact ih _ _ _ _ _ _ _ hle h
      · rename_i hc
        rw [if_neg hc]
        split at h
        · rename_i hc; rw [if_pos hc]; exact ih _ _ _ _ _ _ _ hle h
        · rename_i hc
          rw [if_neg hc]
          split at h
          · rename_i hc; rw [if_pos hc]; exact ih _ _ _ _ _ _ _ hle h
          · rename_i hc
            rw [if_neg hc]
            split at h
            · rename_i hc
              rw [if_pos hc]
              split at h
              · rename_i hd; rw [if_pos hd]; exact ih _ _ _ _ _ _ _ hle h
              · cases h
            · rename_i hc
              rw [if_neg hc]
              split at h
              · rename_i hc; rw [if_pos hc]; exact h
              · rename_i hc
                rw [if_neg hc]
                split at h
                · rename_i hd
                  rw [if_pos hd]
                  rw [Option.bind_eq_some_iff] at h ⊢
                  obtain ⟨y, hy, h⟩ := h
                  exact ⟨y, ih _ _ _ _ _ _ _ hle hy, h⟩
                · cases h
    | tag + 4 =>
      simp only [rfF] at h ⊢
      split at h
      · rename_i hc
        rw [if_pos hc]
        split at h
        · rename_i hd; rw [if_pos hd]; exact ih _ _ _ _ _ _ _ hle h
        · cases h
      · rename_i hc; rw [if_neg hc]; exact h

theorem wF_mono (rs : List Rn) : ∀ (n m : Nat) (k W : Int), n ≤ m → wF rs n k = some W → wF rs m k = some W := by
  intro n
  induction n with
  | zero => intro m k W _ h; simp [wF] at h
  | succ n ih =>
    intro m k W hm h
    obtain ⟨m, rfl⟩ : ∃ m', m = m' + 1 := ⟨m - 1, by omega⟩
    have hle : n ≤ m := by omega
    simp only [wF] at h ⊢
    split at h
    · rename_i hk
      rw [if_pos hk]
      rw [Option.bind_eq_some_iff] at h ⊢
      obtain ⟨r, hr, h⟩ := h
      refine ⟨r, hr, ?_⟩
      split at h
      · rename_i hc; rw [if_pos hc]; exact h
      · rename_i hc
        rw [if_neg hc]
        rw [Option.bind_eq_some_iff] at h ⊢
        obtain ⟨a, ha, h⟩ := h
        refine ⟨a, ih _ _ _ hle ha, ?_⟩
        split at h
        · rename_i hd
          rw [if_pos hd]
          rw [Option.bind_eq_some_iff] at h ⊢
          obtain ⟨c, hc2, h⟩ := h
          exact ⟨c, ih _ _ _ hle hc2, h⟩
        · rename_i hd; rw [if_neg hd]; exact h
    · cases h
theorem wF_app (rs x : List Rn) : ∀ (n : Nat) (k W : Int), wF rs n k = some W → wF (rs ++ x) n k = some W := by
  intro n
  induction n with
  | zero => intro k W h; simp [wF] at h
  | succ n ih =>
    intro k W h
    simp only [wF] at h ⊢
    split at h
    · rename_i hk
      rw [if_pos hk]
      rw [Option.bind_eq_some_iff] at h ⊢
      obtain ⟨r, hr, h⟩ := h
      refine ⟨r, by rw [List.getElem?_append_left (List.getElem?_eq_some_iff.1 hr).1]; exact hr, ?_⟩
      split at h
      · rename_i hc; rw [if_pos hc]; exact h
      · rename_i hc
        rw [if_neg hc]
        rw [Option.bind_eq_some_iff] at h ⊢
        obtain ⟨a, ha, h⟩ := h
        refine ⟨a, ih _ _ ha, ?_⟩
        split at h
        · rename_i hd
          rw [if_pos hd]
          rw [Option.bind_eq_some_iff] at h ⊢
          obtain ⟨c, hc2, h⟩ := h
          exact ⟨c, ih _ _ hc2, h⟩
        · rename_i hd; rw [if_neg hd]; exact h
    · cases h

/-- Node k weighs W. -/
def Wt (rs : List Rn) (k W : Int) : Prop := ∃ m, wF rs m k = some W
theorem Wt.app {rs : List Rn} {k W : Int} (h : Wt rs k W) (x : List Rn) : Wt (rs ++ x) k W := by
  obtain ⟨m, hm⟩ := h; exact ⟨m, wF_app rs x m k W hm⟩
theorem wF_last (rs : List Rn) (r : Rn) (m : Nat) : wF (rs ++ [r]) (m + 1) (rs.length : Int) =
    (if (r.kind == 1 || r.kind == 2) = true then some 1
        else (wF (rs ++ [r]) m r.l).bind fun a =>
          if (r.kind == 3 || r.kind == 4) = true then (wF (rs ++ [r]) m r.r).bind fun c => if 0 ≤ a ∧ 0 ≤ c ∧ a ≤ wTop ∧ c ≤ wTop then some (a + c) else none
          else if (r.kind == 8) = true then (if 0 ≤ a * r.n ∧ a * r.n ≤ wTop then some (if a * r.n < 1 then 1 else a * r.n) else none)
          else some a) := by
  rw [wF, if_pos (by omega), Int.toNat_natCast, List.getElem?_append_right (Nat.le_refl _)]
  simp
theorem Wt.one (rs : List Rn) (r : Rn) (h : (r.kind == 1 || r.kind == 2) = true) : Wt (rs ++ [r]) (rs.length : Int) 1 := ⟨1, by rw [wF_last, if_pos h]⟩
theorem Wt.sum {rs : List Rn} {k a l c : Int} (K : Int) (hK : K = 3 ∨ K = 4) (h1 : Wt rs k a) (h2 : Wt rs l c) (b1 : 0 ≤ a) (b2 : 0 ≤ c) (b3 : a ≤ wTop) (b4 : c ≤ wTop) : Wt (rs ++ [⟨K, k, l, 0, 0, noSet⟩]) (rs.length : Int) (a + c) := by
  obtain ⟨m1, h1⟩ := h1.app [⟨K, k, l, 0, 0, noSet⟩]
  obtain ⟨m2, h2⟩ := h2.app [⟨K, k, l, 0, 0, noSet⟩]
  refine ⟨max m1 m2 + 1, ?_⟩
  rw [wF_last, if_neg (by rcases hK with rfl | rfl <;> simp)]
  simp only
  rw [wF_mono _ m1 (max m1 m2) _ _ (by omega) h1, wF_mono _ m2 (max m1 m2) _ _ (by omega) h2]
  simp only [Option.bind_some]
  rw [if_pos (by rcases hK with rfl | rfl <;> decide), if_pos ⟨b1, b2, b3, b4⟩]
theorem Wt.same {rs : List Rn} {k a : Int} (K : Int) (hK : K = 5 ∨ K = 6 ∨ K = 7) (h1 : Wt rs k a) : Wt (rs ++ [⟨K, k, 0, 0, 0, noSet⟩]) (rs.length : Int) a := by
  obtain ⟨m1, h1⟩ := h1.app [⟨K, k, 0, 0, 0, noSet⟩]
  refine ⟨m1 + 1, ?_⟩
  rw [wF_last, if_neg (by rcases hK with rfl | rfl | rfl <;> simp)]
  simp only
  rw [h1]
  simp only [Option.bind_some]
  rw [if_neg (by rcases hK with rfl | rfl | rfl <;> decide), if_neg (by rcases hK with rfl | rfl | rfl <;> decide)]
theorem Wt.times {rs : List Rn} {k a : Int} (u v : Int) (h1 : Wt rs k a) (b1 : 0 ≤ a * v) (b2 : a * v ≤ wTop) : Wt (rs ++ [⟨8, k, 0, u, v, noSet⟩]) (rs.length : Int) (if a * v < 1 then 1 else a * v) := by
  obtain ⟨m1, h1⟩ := h1.app [⟨8, k, 0, u, v, noSet⟩]
  refine ⟨m1 + 1, ?_⟩
  rw [wF_last, if_neg (by simp)]
  simp only
  rw [h1]
  simp only [Option.bind_some]
  rw [if_neg (by decide), if_pos (by decide), if_pos ⟨b1, b2⟩]

/-- Steps in a row, each of whose first bytes is such. -/
def SeqN (t : ByteArray) (P : Int → Bool) : Nat → Nat → Nat → Prop
  | 0, A, B => A = B
  | n + 1, A, B => ∃ C, A < C ∧ C ≤ B ∧ P (byteAt t A) = true ∧ StepT t A C ∧ SeqN t P n C B
def Seq' (t : ByteArray) (P : Int → Bool) (A B : Nat) : Prop := ∃ n, SeqN t P n A B
theorem SeqN.trans {t : ByteArray} {P : Int → Bool} : ∀ (n m A B C : Nat), B ≤ C → SeqN t P n A B → SeqN t P m B C → SeqN t P (n + m) A C
  | 0, m, A, B, C, _, h, k => by have e : A = B := h; subst e; rw [Nat.zero_add]; exact k
  | n + 1, m, A, B, C, hBC, h, k => by
    obtain ⟨D, h1, h2, h3, h4, h5⟩ := h
    rw [show n + 1 + m = (n + m) + 1 from by omega]
    exact ⟨D, h1, by omega, h3, h4, SeqN.trans n m D B C hBC h5 k⟩
theorem Seq'.refl (t : ByteArray) (P : Int → Bool) (A : Nat) : Seq' t P A A := ⟨0, rfl⟩
theorem Seq'.trans {t : ByteArray} {P : Int → Bool} {A B C : Nat} (hBC : B ≤ C) (h : Seq' t P A B) (k : Seq' t P B C) : Seq' t P A C := by
  obtain ⟨n, h⟩ := h; obtain ⟨m, k⟩ := k; exact ⟨n + m, SeqN.trans n m A B C hBC h k⟩
theorem Seq'.one {t : ByteArray} {P : Int → Bool} {A B : Nat} (h : A < B) (hp : P (byteAt t A) = true) (hs : StepT t A B) : Seq' t P A B := ⟨1, B, h, Nat.le_refl _, hp, hs, rfl⟩
theorem SeqN.mono {t : ByteArray} {P Q : Int → Bool} (hPQ : ∀ c, P c = true → Q c = true) : ∀ (n A B : Nat), SeqN t P n A B → SeqN t Q n A B
  | 0, _, _, h => h
  | n + 1, A, B, h => by obtain ⟨D, h1, h2, h3, h4, h5⟩ := h; exact ⟨D, h1, h2, hPQ _ h3, h4, SeqN.mono hPQ n D B h5⟩
theorem Seq'.mono {t : ByteArray} {P Q : Int → Bool} (hPQ : ∀ c, P c = true → Q c = true) {A B : Nat} (h : Seq' t P A B) : Seq' t Q A B := by
  obtain ⟨n, h⟩ := h; exact ⟨n, SeqN.mono hPQ n A B h⟩

def noBar (c : Int) : Bool := !(c == 124) && !(c == 41)
def noPar (c : Int) : Bool := !(c == 41)

theorem ovF_two (p : ByteArray) (f i : Nat) : ovF p (f + 1) 2 i = if i < p.size then (if byteAt p i == 41 then some (i + 1) else (ovF p f 0 i).bind fun j => ovF p f 2 j) else none := by
  simp only [ovF]

/-- A bracket is gone over. -/
theorem par_loop {t : ByteArray} {C : Nat} (hC : C < t.size) (hc : byteAt t C = 41) : ∀ (n A : Nat), A ≤ C → SeqN t noPar n A C → ∀ a b, a ≤ A → C < b → b ≤ t.size → ∀ f, 2 * (C - A) + 1 ≤ f → ovF (t.extract a b) f 2 (A - a) = some (C + 1 - a)
  | 0, A, _, h, a, b, ha, hb, hbs, f, hf => by
    have e : A = C := h
    subst e
    have hs := size_ext (a := a) hbs
    obtain ⟨f, rfl⟩ : ∃ f', f = f' + 1 := ⟨f - 1, by omega⟩
    rw [ovF_two, if_pos (by omega), byteAt_win hbs ha hb, if_pos (by simp [hc])]
    congr 1; omega
  | n + 1, A, hA, h, a, b, ha, hb, hbs, f, hf => by
    obtain ⟨D, h1, h2, h3, h4, h5⟩ := h
    have hs := size_ext (a := a) hbs
    have hp : byteAt t A ≠ 41 := by simpa [noPar] using h3
    obtain ⟨f, rfl⟩ : ∃ f', f = f' + 1 := ⟨f - 1, by omega⟩
    rw [ovF_two, if_pos (by omega), byteAt_win hbs ha (by omega), if_neg (by simp [hp]), h4 a b ha (by omega) hbs f (by omega)]
    simp only [Option.bind_some]
    exact par_loop hC hc n D h2 h5 a b (by omega) hb hbs f (by omega)
theorem step_par {t : ByteArray} {A C : Nat} (hA : byteAt t A = 40) (h : Seq' t noPar (A + 1) C) (hAC : A + 1 ≤ C) (hC : C < t.size) (hc : byteAt t C = 41) : StepT t A (C + 1) := by
  obtain ⟨n, h⟩ := h
  intro a b ha hb hbs f hf
  have hs := size_ext (a := a) hbs
  obtain ⟨f, rfl⟩ : ∃ f', f = f' + 1 := ⟨f - 1, by omega⟩
  rw [ovF, if_pos (by omega), byteAt_win hbs ha (by omega), if_neg (by simp [hA]), if_neg (by simp [hA]), if_pos (by simp [hA]), show A - a + 1 = (A + 1) - a from by omega]
  exact par_loop hC hc n (A + 1) hAC h a b (by omega) (by omega) hbs f (by omega)

/-- Steps without a bar are gone over by a pattern's look for its first branch. -/
theorem read_loop {t : ByteArray} {A0 B C : Nat} (h60 : t.size ≤ 60) (hB : B ≤ t.size) (hCB : C ≤ B) (rs : List Rn) (fin : List Rn × Int) : ∀ (n A : Nat), A0 ≤ A → A ≤ C → SeqN t noBar n A C → (∃ m, rfF m 1 (t.extract A0 B) (C - A0) 0 rs = some fin) → ∃ m, rfF m 1 (t.extract A0 B) (A - A0) 0 rs = some fin
  | 0, A, _, _, h, k => by have e : A = C := h; subst e; exact k
  | n + 1, A, hA0, hA, h, k => by
    obtain ⟨D, h1, h2, h3, h4, h5⟩ := h
    obtain ⟨m, hm⟩ := read_loop h60 hB hCB rs fin n D (by omega) h2 h5 k
    have hs := size_ext (a := A0) hB
    refine ⟨m + 1, ?_⟩
    have hp : byteAt t A ≠ 124 := by simp [noBar] at h3; exact h3.1
    rw [rfF, if_pos ⟨by omega, by rw [byteAt_win hB hA0 (by omega)]; simp [hp]⟩, h4 A0 B hA0 (by omega) hB 200 (by omega)]
    simp only [Option.bind_some]
    exact hm

end Go.Proofs.Ytibhlnhmejlhbaa
