/-
  Plain definitions: the look over a pattern's text, byte by byte.
-/
import Derived.Test.YtibhlnhmejlhbaaMg
namespace Go.Proofs.Ytibhlnhmejlhbaa

def decB (c : Int) : Bool := decide (48 ≤ c) && decide (c ≤ 57)
def hexB (c : Int) : Bool := decB c || (decide (97 ≤ c) && decide (c ≤ 102))
def printB (c : Int) : Bool := decide (32 ≤ c) && decide (c ≤ 126)

/-- Where a look over a text stands. -/
structure Sc where
  mode : Int
  depth : Int
  back : Int

def outsideS (x : Sc) (c : Int) : Bool × Sc :=
  if c == 124 then (true, ⟨0, x.depth, x.back⟩)
  else if c == 40 then (true, ⟨0, x.depth + 1, x.back⟩)
  else if c == 41 then (decide (0 ≤ x.depth - 1), ⟨1, x.depth - 1, x.back⟩)
  else if c == 42 || c == 43 || c == 63 then (x.mode == 1, x)
  else if c == 123 then (x.mode == 1, ⟨4, x.depth, x.back⟩)
  else if c == 91 then (true, ⟨8, x.depth, x.back⟩)
  else if c == 92 then (true, ⟨2, x.depth, 1⟩)
  else if c == 125 || c == 93 then (false, x)
  else (printB c, ⟨1, x.depth, x.back⟩)

def toS (x : Sc) : Int := if x.mode == 11 then 12 else 10
def insideS (x : Sc) (c : Int) : Bool × Sc :=
  if c == 94 then (x.mode == 8, ⟨9, x.depth, x.back⟩)
  else if c == 45 then (x.mode == 10, ⟨11, x.depth, x.back⟩)
  else if c == 93 then (x.mode == 10 || x.mode == 12, ⟨1, x.depth, x.back⟩)
  else if c == 91 then (false, x)
  else if c == 92 then (true, ⟨2, x.depth, toS x⟩)
  else (printB c, ⟨toS x, x.depth, x.back⟩)

def goesS (x : Sc) (c : Int) : Bool × Sc :=
  if x.mode == 0 || x.mode == 1 then outsideS x c
  else if x.mode == 2 then (mayBeEscapedB c || hexB c, ⟨if mayBeEscapedB c then x.back else 3, x.depth, x.back⟩)
  else if x.mode == 3 then (hexB c, ⟨x.back, x.depth, x.back⟩)
  else if x.mode == 4 || x.mode == 6 then (decB c, ⟨x.mode + 1, x.depth, x.back⟩)
  else if x.mode == 5 then (c == 44, ⟨6, x.depth, x.back⟩)
  else if x.mode == 7 then (c == 125, ⟨1, x.depth, x.back⟩)
  else insideS x c

def byteAt (t : ByteArray) (k : Nat) : Int := if h : k < t.size then (t[k].toNat : Int) else 0
theorem byteAt_bd (t : ByteArray) (k : Nat) : 0 ≤ byteAt t k ∧ byteAt t k ≤ 255 := by
  unfold byteAt
  split
  · have := t[k].toNat_lt; omega
  · omega
theorem byteAt_eq {t : ByteArray} {k : Nat} (h : k < t.size) : byteAt t k = (t[k].toNat : Int) := by unfold byteAt; rw [dif_pos h]

/-- The place of the error in a text, from place k on; -1: none. -/
def scanS (t : ByteArray) : Nat → Nat → Sc → Int
  | 0, _, x => if (decide (0 < x.depth) || decide (1 < x.mode)) = true then (t.size : Int) else -1
  | n + 1, k, x => if (goesS x (byteAt t k)).1 = true then scanS t n (k + 1) (goesS x (byteAt t k)).2 else (k : Int)
def placeS (t : ByteArray) : Int := scanS t t.size 0 ⟨0, 0, 0⟩

def ScOk (k : Nat) (x : Sc) : Prop := 0 ≤ x.mode ∧ x.mode ≤ 12 ∧ 0 ≤ x.back ∧ x.back ≤ 12 ∧ 0 ≤ x.depth ∧ x.depth ≤ k
theorem goesS_ok {k : Nat} {x : Sc} {c : Int} (h : ScOk k x) (hg : (goesS x c).1 = true) : ScOk (k + 1) (goesS x c).2 := by
  obtain ⟨h1, h2, h3, h4, h5, h6⟩ := h
  revert hg
  unfold goesS
  split
  · unfold outsideS
    repeat' split
    all_goals (intro hg; try simp at hg)
    all_goals (refine ⟨?_, ?_, ?_, ?_, ?_, ?_⟩ <;> simp only <;> omega)
  · split
    · intro _
      refine ⟨?_, ?_, h3, h4, h5, by simp only; omega⟩
      · simp only; split <;> omega
      · simp only; split <;> omega
    · split
      · intro _; refine ⟨?_, ?_, ?_, ?_, ?_, ?_⟩ <;> simp only <;> omega
      · split
        · rename_i hm
          intro _
          simp at hm
          refine ⟨?_, ?_, ?_, ?_, ?_, ?_⟩ <;> simp only <;> omega
        · split
          · intro _; refine ⟨?_, ?_, ?_, ?_, ?_, ?_⟩ <;> simp only <;> omega
          · split
            · intro _; refine ⟨?_, ?_, ?_, ?_, ?_, ?_⟩ <;> simp only <;> omega
            · have ht : 10 ≤ toS x ∧ toS x ≤ 12 := by unfold toS; split <;> omega
              unfold insideS
              repeat' split
              all_goals (intro hg; refine ⟨?_, ?_, ?_, ?_, ?_, ?_⟩ <;> simp only <;> omega)

end Go.Proofs.Ytibhlnhmejlhbaa
