/-
  The document's reader of formulas and the program's agree; veilref.step, veilref.granted.
-/
import Derived.Test.YtjooemengpeaaaaGreatQd
namespace Go.Proofs.YtjooemengpeaaaaGreat
namespace Mc
open Go.RowKit
attribute [local go_sem ↓] Go.wp_at_zero Go.wp_at_succ
def tblX (x:ByteArray) (p:Nat):ByteArray:=x.extract p (p+tsz x p)
end Mc
end Go.Proofs.YtjooemengpeaaaaGreat
