/-
  Plain definitions: the nodes of a pattern's tree.
-/
import Derived.Test.YtibhlnhmejlhbaaMb
namespace Go.Proofs.Ytibhlnhmejlhbaa

/-- A node: its kind, the numbers of its parts, how often, the number of its set. -/
structure Nd where
  kind : Int
  left : Int
  right : Int
  low : Int
  high : Int
  set : Int

end Go.Proofs.Ytibhlnhmejlhbaa
