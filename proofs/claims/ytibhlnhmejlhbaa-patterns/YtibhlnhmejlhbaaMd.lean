/-
  Plain definitions: the reading of a pattern, with fuel.
-/
import Derived.Test.YtibhlnhmejlhbaaMc
namespace Go.Proofs.Ytibhlnhmejlhbaa

/-- A reader's state: its place and mark, its nodes, its sets. -/
structure St where
  s : S1
  ns : List Nd
  fs : List (Nat → Bool)

def St.at (x : St) (s : S1) : St := ⟨s, x.ns, x.fs⟩
def St.add (x : St) (n : Nd) : St := ⟨x.s, x.ns ++ [n], x.fs⟩
def St.addSet (x : St) (f : Nat → Bool) : St := ⟨x.s, x.ns ++ [⟨1, 0, 0, 0, 0, (x.fs.length : Int)⟩], x.fs ++ [f]⟩
def St.num (x : St) : Int := (x.ns.length : Int)

def atAtomB (b : Int) : Bool := b == 46 || b == 40 || b == 91 || b == 92 || isPlainB b
def atSuffixB (b : Int) : Bool := b == 42 || b == 43 || b == 63 || b == 123

/-- A suffix, put on the node 'inner'. -/
def readSuffixS (t : ByteArray) (inner : Int) (x : St) : St :=
  if x.s.pk t == 42 then (x.at (takeS t 42 x.s)).add ⟨4, inner, 0, 0, 0, 0⟩
  else if x.s.pk t == 43 then (x.at (takeS t 43 x.s)).add ⟨5, inner, 0, 0, 0, 0⟩
  else if x.s.pk t == 63 then (x.at (takeS t 63 x.s)).add ⟨6, inner, 0, 0, 0, 0⟩
  else
    let s1 := expectS t 123 x.s
    let lo := readDigitS t 10 s1
    let s3 := expectS t 44 lo.2
    let hi := readDigitS t 10 s3
    let s5 := expectS t 125 hi.2
    (x.at s5).add ⟨7, inner, 0, lo.1, hi.1, 0⟩

/-- An atom that is no bracket. -/
def readLeafS (t : ByteArray) (x : St) : St :=
  if x.s.pk t == 91 then (x.at (readSetS t (takeS t 91 x.s)).2).addSet (readSetS t (takeS t 91 x.s)).1
  else if x.s.pk t == 46 then (x.at (takeS t 46 x.s)).addSet (fun _ => true)
  else (x.at (readByteS t x.s).2).addSet (addR (fun _ => false) (readByteS t x.s).1 (readByteS t x.s).1)

/-- What the reader does: 0 a pattern, 1 its further branches, 2 a branch, 3 its further pieces, 4 a piece, 5 its suffixes, else an atom; none: the fuel is spent. -/
def rdF (t : ByteArray) : Nat → Nat → Int → St → Option (St × Int)
  | 0, _, _, _ => none
  | f + 1, 0, _, x => (rdF t f 2 0 x).bind fun r => rdF t f 1 r.2 r.1
  | f + 1, 1, whole, x =>
    if x.s.pk t == 124 then (rdF t f 2 0 (x.at (takeS t 124 x.s))).bind fun r => rdF t f 1 r.1.num (r.1.add ⟨3, whole, r.2, 0, 0, 0⟩)
    else some (x, whole)
  | f + 1, 2, _, x =>
    if atAtomB (x.s.pk t) then (rdF t f 4 0 x).bind fun r => rdF t f 3 r.2 r.1
    else some (x.add ⟨0, 0, 0, 0, 0, 0⟩, x.num)
  | f + 1, 3, whole, x =>
    if atAtomB (x.s.pk t) then (rdF t f 4 0 x).bind fun r => rdF t f 3 r.1.num (r.1.add ⟨2, whole, r.2, 0, 0, 0⟩)
    else some (x, whole)
  | f + 1, 4, _, x => (rdF t f 6 0 x).bind fun r => rdF t f 5 r.2 r.1
  | f + 1, 5, whole, x =>
    if atSuffixB (x.s.pk t) then rdF t f 5 x.num (readSuffixS t whole x)
    else some (x, whole)
  | f + 1, _, _, x =>
    if x.s.pk t == 40 then (rdF t f 0 0 (x.at (takeS t 40 x.s))).bind fun r => some (r.1.at (expectS t 41 r.1.s), r.2)
    else some (readLeafS t x, x.num)

theorem rdF_mono (t : ByteArray) : ∀ (f g : Nat) (tag : Nat) (whole : Int) (x : St) (r : St × Int), f ≤ g → rdF t f tag whole x = some r → rdF t g tag whole x = some r := by
  intro f
  induction f with
  | zero => intro g tag whole x r _ h; simp [rdF] at h
  | succ f ih =>
    intro g tag whole x r hg h
    obtain ⟨g, rfl⟩ : ∃ g', g = g' + 1 := ⟨g - 1, by omega⟩
    have hle : f ≤ g := by omega
    match tag with
    | 0 =>
      simp only [rdF, Option.bind_eq_some_iff] at h ⊢
      obtain ⟨r1, h1, h2⟩ := h
      exact ⟨r1, ih _ _ _ _ _ hle h1, ih _ _ _ _ _ hle h2⟩
    | 1 =>
      simp only [rdF] at h ⊢
      split at h
      · rename_i hc
        simp only [hc, if_true, Option.bind_eq_some_iff] at h ⊢
        obtain ⟨r1, h1, h2⟩ := h
        exact ⟨r1, ih _ _ _ _ _ hle h1, ih _ _ _ _ _ hle h2⟩
      · rename_i hc
        rw [if_neg hc]; exact h
    | 2 =>
      simp only [rdF] at h ⊢
      split at h
      · rename_i hc
        simp only [hc, if_true, Option.bind_eq_some_iff] at h ⊢
        obtain ⟨r1, h1, h2⟩ := h
        exact ⟨r1, ih _ _ _ _ _ hle h1, ih _ _ _ _ _ hle h2⟩
      · rename_i hc
        rw [if_neg hc]; exact h
    | 3 =>
      simp only [rdF] at h ⊢
      split at h
      · rename_i hc
        simp only [hc, if_true, Option.bind_eq_some_iff] at h ⊢
        obtain ⟨r1, h1, h2⟩ := h
        exact ⟨r1, ih _ _ _ _ _ hle h1, ih _ _ _ _ _ hle h2⟩
      · rename_i hc
        rw [if_neg hc]; exact h
    | 4 =>
      simp only [rdF, Option.bind_eq_some_iff] at h ⊢
      obtain ⟨r1, h1, h2⟩ := h
      exact ⟨r1, ih _ _ _ _ _ hle h1, ih _ _ _ _ _ hle h2⟩
    | 5 =>
      simp only [rdF] at h ⊢
      split at h
      · rename_i hc
        simp only [hc, if_true] at h ⊢
        exact ih _ _ _ _ _ hle h
      · rename_i hc
        rw [if_neg hc]; exact h
    | tag + 6 =>
      simp only [rdF] at h ⊢
      split at h
      · rename_i hc
        simp only [hc, if_true, Option.bind_eq_some_iff] at h ⊢
        obtain ⟨r1, h1, h2⟩ := h
        exact ⟨r1, ih _ _ _ _ _ hle h1, h2⟩
      · rename_i hc
        rw [if_neg hc]; exact h

/-- The reading comes to this. -/
def Rds (t : ByteArray) (tag : Nat) (whole : Int) (x : St) (r : St × Int) : Prop := ∃ f, rdF t f tag whole x = some r

section
variable {t : ByteArray} {whole : Int} {x y : St} {i : Int} {r : St × Int}
theorem Rds.pattern (h1 : Rds t 2 0 x (y, i)) (h2 : Rds t 1 i y r) : Rds t 0 whole x r := by
  obtain ⟨f, hf⟩ := h1
  obtain ⟨g, hg⟩ := h2
  refine ⟨max f g + 1, ?_⟩
  simp only [rdF, rdF_mono t f (max f g) _ _ _ _ (by omega) hf, Option.bind_some]
  exact rdF_mono t g (max f g) _ _ _ _ (by omega) hg
theorem Rds.alt (hc : (x.s.pk t == 124) = true) (h1 : Rds t 2 0 (x.at (takeS t 124 x.s)) (y, i)) (h2 : Rds t 1 y.num (y.add ⟨3, whole, i, 0, 0, 0⟩) r) : Rds t 1 whole x r := by
  obtain ⟨f, hf⟩ := h1
  obtain ⟨g, hg⟩ := h2
  refine ⟨max f g + 1, ?_⟩
  simp only [rdF, hc, if_true, rdF_mono t f (max f g) _ _ _ _ (by omega) hf, Option.bind_some]
  exact rdF_mono t g (max f g) _ _ _ _ (by omega) hg
theorem Rds.altEnd (hc : (x.s.pk t == 124) = false) : Rds t 1 whole x (x, whole) := ⟨1, by simp only [rdF, hc]; rfl⟩
theorem Rds.branch (hc : atAtomB (x.s.pk t) = true) (h1 : Rds t 4 0 x (y, i)) (h2 : Rds t 3 i y r) : Rds t 2 whole x r := by
  obtain ⟨f, hf⟩ := h1
  obtain ⟨g, hg⟩ := h2
  refine ⟨max f g + 1, ?_⟩
  simp only [rdF, hc, if_true, rdF_mono t f (max f g) _ _ _ _ (by omega) hf, Option.bind_some]
  exact rdF_mono t g (max f g) _ _ _ _ (by omega) hg
theorem Rds.branchNone (hc : atAtomB (x.s.pk t) = false) : Rds t 2 whole x (x.add ⟨0, 0, 0, 0, 0, 0⟩, x.num) := ⟨1, by simp only [rdF, hc]; rfl⟩
theorem Rds.join (hc : atAtomB (x.s.pk t) = true) (h1 : Rds t 4 0 x (y, i)) (h2 : Rds t 3 y.num (y.add ⟨2, whole, i, 0, 0, 0⟩) r) : Rds t 3 whole x r := by
  obtain ⟨f, hf⟩ := h1
  obtain ⟨g, hg⟩ := h2
  refine ⟨max f g + 1, ?_⟩
  simp only [rdF, hc, if_true, rdF_mono t f (max f g) _ _ _ _ (by omega) hf, Option.bind_some]
  exact rdF_mono t g (max f g) _ _ _ _ (by omega) hg
theorem Rds.joinEnd (hc : atAtomB (x.s.pk t) = false) : Rds t 3 whole x (x, whole) := ⟨1, by simp only [rdF, hc]; rfl⟩
theorem Rds.piece (h1 : Rds t 6 0 x (y, i)) (h2 : Rds t 5 i y r) : Rds t 4 whole x r := by
  obtain ⟨f, hf⟩ := h1
  obtain ⟨g, hg⟩ := h2
  refine ⟨max f g + 1, ?_⟩
  simp only [rdF, rdF_mono t f (max f g) _ _ _ _ (by omega) hf, Option.bind_some]
  exact rdF_mono t g (max f g) _ _ _ _ (by omega) hg
theorem Rds.suffix (hc : atSuffixB (x.s.pk t) = true) (h : Rds t 5 x.num (readSuffixS t whole x) r) : Rds t 5 whole x r := by
  obtain ⟨g, hg⟩ := h
  exact ⟨g + 1, by simp only [rdF, hc, if_true]; exact hg⟩
theorem Rds.suffixEnd (hc : atSuffixB (x.s.pk t) = false) : Rds t 5 whole x (x, whole) := ⟨1, by simp only [rdF, hc]; rfl⟩
theorem Rds.bracket (hc : (x.s.pk t == 40) = true) (h : Rds t 0 0 (x.at (takeS t 40 x.s)) (y, i)) : Rds t 6 whole x (y.at (expectS t 41 y.s), i) := by
  obtain ⟨f, hf⟩ := h
  exact ⟨f + 1, by simp only [rdF, hc, if_true, hf, Option.bind_some]⟩
theorem Rds.leaf (hc : (x.s.pk t == 40) = false) : Rds t 6 whole x (readLeafS t x, x.num) := ⟨1, by simp only [rdF, hc]; rfl⟩
end

end Go.Proofs.Ytibhlnhmejlhbaa
