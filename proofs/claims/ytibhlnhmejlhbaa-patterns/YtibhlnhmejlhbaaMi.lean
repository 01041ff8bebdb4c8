/-
  Plain definitions: how the document's answer takes a right pattern apart; its nodes.
-/
import Derived.Test.YtibhlnhmejlhbaaMh
namespace Go.Proofs.Ytibhlnhmejlhbaa

/-- The number behind the atom (tag 0) that begins at i; in a set (1), in a bracket (2). -/
def ovF (p : ByteArray) : Nat → Nat → Nat → Option Nat
  | 0, _, _ => none
  | f + 1, 0, i =>
    if i < p.size then
      if byteAt p i == 92 then (if i + 1 < p.size then some (if mayBeEscapedB (byteAt p (i + 1)) then i + 2 else i + 3) else none)
      else if byteAt p i == 91 then ovF p f 1 (i + 1)
      else if byteAt p i == 40 then ovF p f 2 (i + 1)
      else some (i + 1)
    else none
  | f + 1, 1, i =>
    if i < p.size then
      if byteAt p i == 93 then some (i + 1)
      else if byteAt p i == 92 then (ovF p f 0 i).bind fun j => ovF p f 1 j
      else ovF p f 1 (i + 1)
    else none
  | f + 1, _, i =>
    if i < p.size then
      if byteAt p i == 41 then some (i + 1) else (ovF p f 0 i).bind fun j => ovF p f 2 j
    else none

/-- The byte that is named at i, and the number behind it. -/
def namedS (p : ByteArray) (i : Nat) : Option (Int × Nat) :=
  if i < p.size then
    if byteAt p i == 92 then
      if i + 1 < p.size then
        if mayBeEscapedB (byteAt p (i + 1)) then some (byteAt p (i + 1), i + 2)
        else if i + 2 < p.size ∧ hexB (byteAt p (i + 1)) = true ∧ hexB (byteAt p (i + 2)) = true then some (16 * digitI (byteAt p (i + 1)) + digitI (byteAt p (i + 2)), i + 3)
        else none
      else none
    else some (byteAt p i, i + 1)
  else none

def itemsF (p : ByteArray) : Nat → Nat → (Nat → Bool) → Option (Nat → Bool)
  | 0, _, _ => none
  | n + 1, i, f =>
    if i < p.size then
      if byteAt p i == 93 then some f
      else (namedS p i).bind fun lo =>
        if lo.2 < p.size then
          if byteAt p lo.2 == 45 then (namedS p (lo.2 + 1)).bind fun hi => itemsF p n hi.2 (addR f lo.1 hi.1)
          else itemsF p n lo.2 (addR f lo.1 lo.1)
        else none
    else none

/-- A node of the document's answer. -/
structure Rn where
  kind : Int
  l : Int
  r : Int
  m : Int
  n : Int
  f : Nat → Bool

def noSet : Nat → Bool := fun _ => false

/-- An atom that is no bracket, whole. -/
def leafS (p : ByteArray) : Option Rn :=
  if 0 < p.size then
    if byteAt p 0 == 46 then some ⟨2, 0, 0, 0, 0, fun _ => true⟩
    else if byteAt p 0 == 91 then
      if 1 < p.size then
        if byteAt p 1 == 94 then (itemsF p 61 2 noSet).bind fun f => some ⟨2, 0, 0, 0, 0, fun j => !f j⟩
        else (itemsF p 61 1 noSet).bind fun f => some ⟨2, 0, 0, 0, 0, f⟩
      else none
    else (namedS p 0).bind fun b => some ⟨2, 0, 0, 0, 0, addR noSet b.1 b.1⟩
  else none

/-- What the document's answer makes of a right text: tag 0 a pattern, 1 the same behind the place at, 2 a branch, 3 its suffixes from at on upon the node l, else an atom. -/
def rfF : Nat → Nat → ByteArray → Nat → Int → List Rn → Option (List Rn × Int)
  | 0, _, _, _, _, _ => none
  | n + 1, 0, p, _, _, rs => rfF n 1 p 0 0 rs
  | n + 1, 1, p, at_, _, rs =>
    if at_ < p.size ∧ (byteAt p at_ == 124) = false then (ovF p 200 0 at_).bind fun j => rfF n 1 p j 0 rs
    else if at_ ≤ p.size then
      (rfF n 2 (p.extract 0 at_) 0 0 rs).bind fun x =>
        if at_ = p.size then some x
        else (rfF n 0 (p.extract (at_ + 1) p.size) 0 0 x.1).bind fun y => some (y.1 ++ [⟨4, x.2, y.2, 0, 0, noSet⟩], (y.1.length : Int))
    else none
  | n + 1, 2, p, _, _, rs =>
    if p.size = 0 then some (rs ++ [⟨1, 0, 0, 0, 0, noSet⟩], (rs.length : Int))
    else (ovF p 200 0 0).bind fun j => if j ≤ p.size then (rfF n 4 (p.extract 0 j) 0 0 rs).bind fun x => rfF n 3 p j x.2 x.1 else none
  | n + 1, 3, p, at_, l, rs =>
    if at_ < p.size ∧ (byteAt p at_ == 42) = true then rfF n 3 p (at_ + 1) rs.length (rs ++ [⟨5, l, 0, 0, 0, noSet⟩])
    else if at_ < p.size ∧ (byteAt p at_ == 43) = true then rfF n 3 p (at_ + 1) rs.length (rs ++ [⟨6, l, 0, 0, 0, noSet⟩])
    else if at_ < p.size ∧ (byteAt p at_ == 63) = true then rfF n 3 p (at_ + 1) rs.length (rs ++ [⟨7, l, 0, 0, 0, noSet⟩])
    else if at_ < p.size ∧ (byteAt p at_ == 123) = true then
      if at_ + 4 < p.size ∧ decB (byteAt p (at_ + 1)) = true ∧ decB (byteAt p (at_ + 3)) = true then
        rfF n 3 p (at_ + 5) rs.length (rs ++ [⟨8, l, 0, byteAt p (at_ + 1) - 48, byteAt p (at_ + 3) - 48, noSet⟩])
      else none
    else if at_ = p.size then some (rs, l)
    else if at_ < p.size then (rfF n 2 (p.extract at_ p.size) 0 0 rs).bind fun y => some (y.1 ++ [⟨3, l, y.2, 0, 0, noSet⟩], (y.1.length : Int))
    else none
  | n + 1, _, p, _, _, rs =>
    if 0 < p.size ∧ (byteAt p 0 == 40) = true then (if 1 < p.size then rfF n 0 (p.extract 1 (p.size - 1)) 0 0 rs else none)
    else (leafS p).bind fun r => some (rs ++ [r], (rs.length : Int))

end Go.Proofs.Ytibhlnhmejlhbaa
