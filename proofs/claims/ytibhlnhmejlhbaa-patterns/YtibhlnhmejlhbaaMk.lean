/-
  Plain definitions: the weight of the document's answer's nodes.
-/
import Derived.Test.YtibhlnhmejlhbaaMj
namespace Go.Proofs.Ytibhlnhmejlhbaa

def wTop : Int := 1152921504606846976

/-- The weight of node k; none: the fuel is spent, there is no such node, or it is beyond all reach. -/
def wF (rs : List Rn) : Nat → Int → Option Int
  | 0, _ => none
  | n + 1, k =>
    if 0 ≤ k then
      (rs[k.toNat]?).bind fun r =>
        if (r.kind == 1 || r.kind == 2) = true then some 1
        else (wF rs n r.l).bind fun a =>
          if (r.kind == 3 || r.kind == 4) = true then (wF rs n r.r).bind fun c => if 0 ≤ a ∧ 0 ≤ c ∧ a ≤ wTop ∧ c ≤ wTop then some (a + c) else none
          else if (r.kind == 8) = true then (if 0 ≤ a * r.n ∧ a * r.n ≤ wTop then some (if a * r.n < 1 then 1 else a * r.n) else none)
          else some a
    else none

/-- The document's answer agrees with the reading that came to y. -/
def RefOk (t : ByteArray) (y : St) : Prop :=
  ((y.s.bad = true ∨ y.s.k < t.size) → placeS t = (y.s.k : Int)) ∧
  (¬ (y.s.bad = true ∨ y.s.k < t.size) → placeS t = -1 ∧ ∃ n r m W, rfF n 0 t 0 0 [] = some r ∧ r.1.length ≤ 1000 ∧ wF r.1 m r.2 = some W ∧ lastW (weighAll y.ns) = if 13 < W then 13 else W)

end Go.Proofs.Ytibhlnhmejlhbaa
