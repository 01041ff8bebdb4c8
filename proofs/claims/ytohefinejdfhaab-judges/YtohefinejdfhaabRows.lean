/-
  No cell of these rows narrows 'for every input' (looked for: loops, veiled, ifaces, maps, wideKeys, modest, calm, conditions, laid).
  DERIVED. THE GIVEN ROWS OF THIS SEAT. 6 by the template 'for every input the law returns true; each argument reads behind the call as it read before'; 0 by the template 'total and deterministic' (their statements: YtohefinejdfhaabTotals.lean).
  GIVEN WITH THE SEED: the statements are not yours to turn. If you find one false, say at which input.
  Laid BY PROGRAM, IN A SANDBOX (cutbox-rows.mjs): the forced cells as the released guide's own fill.sh prints them over the translation c63c44faec0f3e97… (all of the seat's roots in one cut). By AI agents, Wed Nov 11 2026. No macro, syntax, notation, axiom, sorry.
-/
import Derived.Test.YtohefinejdfhaabChecked
import GoSem.Claim
import GoSem.ClaimJoined
import GoSem.ClaimMapViews
import Derived.JoinedTies
import Derived.KernelRfl
namespace Go.Proofs.Ytohefinejdfhaab
/- THE CELL 'sum', in the pinned program and in every row, IS THE sha256 OF THE DUMP (.gsa) THAT YtohefinejdfhaabProg.lean LOADS. Nothing in Lean hashes anything: it is a label: what it is worth is what the hold of that sum in a sandbox is worth. -/
noncomputable def Try.pinned : Pinned := { name := "ytohefinejdfhaab", sum := "c63c44faec0f3e972d72a83604a96b27a2642acd9b0b600f44cb1518b4bd7b09", checked := Try.checked }
namespace Rows
def none {H : Type} : Left H := { results := [], args := [] }

/-- 'veilkeep.Loops': WHATEVER THE INPUT: true; the input reads as it did. -/
def loopsSpec : ChangeSpec := { name := "loops", fn := fun _ => fun
  | [d1, d2, d3, d4] => { results := [.lit (.bool true)], args := [d1, d2, d3, d4] }
  | _ => none }
def loopsRow : OpenClaim := { program := "ytohefinejdfhaab", sum := "c63c44faec0f3e972d72a83604a96b27a2642acd9b0b600f44cb1518b4bd7b09", func := "veil/veilkeep.Loops", spec := "loops", recurses := true, apart := false }
def LoopsSaid : Prop := loopsRow.holds Try.pinned (OpenSpec.ofChange loopsSpec)

/-- ITS FALSE NEIGHBOUR: 'it returns false'. Refute it at one input. -/
def loopsWrong : ChangeSpec := { name := "loops", fn := fun _ => fun
  | [d1, d2, d3, d4] => { results := [.lit (.bool false)], args := [d1, d2, d3, d4] }
  | _ => none }
def LoopsWrongFalsely : Prop := loopsRow.holds Try.pinned (OpenSpec.ofChange loopsWrong)

/-- 'veilkeep.Least': WHATEVER THE INPUT: true; the input reads as it did. -/
def leastSpec : ChangeSpec := { name := "least", fn := fun _ => fun
  | [d1, d2] => { results := [.lit (.bool true)], args := [d1, d2] }
  | _ => none }
def leastRow : OpenClaim := { program := "ytohefinejdfhaab", sum := "c63c44faec0f3e972d72a83604a96b27a2642acd9b0b600f44cb1518b4bd7b09", func := "veil/veilkeep.Least", spec := "least", recurses := true, apart := false }
def LeastSaid : Prop := leastRow.holds Try.pinned (OpenSpec.ofChange leastSpec)

/-- ITS FALSE NEIGHBOUR: 'it returns false'. Refute it at one input. -/
def leastWrong : ChangeSpec := { name := "least", fn := fun _ => fun
  | [d1, d2] => { results := [.lit (.bool false)], args := [d1, d2] }
  | _ => none }
def LeastWrongFalsely : Prop := leastRow.holds Try.pinned (OpenSpec.ofChange leastWrong)

/-- 'veilkeep.Veiled': WHATEVER THE INPUT: true; the input reads as it did. -/
def veiledSpec : ChangeSpec := { name := "veiled", fn := fun _ => fun
  | [d1, d2, d3, d4, d5] => { results := [.lit (.bool true)], args := [d1, d2, d3, d4, d5] }
  | _ => none }
def veiledRow : OpenClaim := { program := "ytohefinejdfhaab", sum := "c63c44faec0f3e972d72a83604a96b27a2642acd9b0b600f44cb1518b4bd7b09", func := "veil/veilkeep.Veiled", spec := "veiled", recurses := true, apart := false }
def VeiledSaid : Prop := veiledRow.holds Try.pinned (OpenSpec.ofChange veiledSpec)

/-- ITS FALSE NEIGHBOUR: 'it returns false'. Refute it at one input. -/
def veiledWrong : ChangeSpec := { name := "veiled", fn := fun _ => fun
  | [d1, d2, d3, d4, d5] => { results := [.lit (.bool false)], args := [d1, d2, d3, d4, d5] }
  | _ => none }
def VeiledWrongFalsely : Prop := veiledRow.holds Try.pinned (OpenSpec.ofChange veiledWrong)

/-- 'veilkeep.Judges': WHATEVER THE INPUT: true; the input reads as it did. -/
def judgesSpec : ChangeSpec := { name := "judges", fn := fun _ => fun
  | [d1, d2, d3, d4] => { results := [.lit (.bool true)], args := [d1, d2, d3, d4] }
  | _ => none }
def judgesRow : OpenClaim := { program := "ytohefinejdfhaab", sum := "c63c44faec0f3e972d72a83604a96b27a2642acd9b0b600f44cb1518b4bd7b09", func := "veil/veilkeep.Judges", spec := "judges", recurses := true, apart := false }
def JudgesSaid : Prop := judgesRow.holds Try.pinned (OpenSpec.ofChange judgesSpec)

/-- ITS FALSE NEIGHBOUR: 'it returns false'. Refute it at one input. -/
def judgesWrong : ChangeSpec := { name := "judges", fn := fun _ => fun
  | [d1, d2, d3, d4] => { results := [.lit (.bool false)], args := [d1, d2, d3, d4] }
  | _ => none }
def JudgesWrongFalsely : Prop := judgesRow.holds Try.pinned (OpenSpec.ofChange judgesWrong)

/-- 'veilkeep.First': WHATEVER THE INPUT: true; the input reads as it did. -/
def firstSpec : ChangeSpec := { name := "first", fn := fun _ => fun
  | [d1, d2, d3, d4] => { results := [.lit (.bool true)], args := [d1, d2, d3, d4] }
  | _ => none }
def firstRow : OpenClaim := { program := "ytohefinejdfhaab", sum := "c63c44faec0f3e972d72a83604a96b27a2642acd9b0b600f44cb1518b4bd7b09", func := "veil/veilkeep.First", spec := "first", recurses := true, apart := false }
def FirstSaid : Prop := firstRow.holds Try.pinned (OpenSpec.ofChange firstSpec)

/-- ITS FALSE NEIGHBOUR: 'it returns false'. Refute it at one input. -/
def firstWrong : ChangeSpec := { name := "first", fn := fun _ => fun
  | [d1, d2, d3, d4] => { results := [.lit (.bool false)], args := [d1, d2, d3, d4] }
  | _ => none }
def FirstWrongFalsely : Prop := firstRow.holds Try.pinned (OpenSpec.ofChange firstWrong)

/-- 'veilkeep.Told': WHATEVER THE INPUT: true; the input reads as it did. -/
def toldSpec : ChangeSpec := { name := "told", fn := fun _ => fun
  | [d1, d2, d3, d4, d5] => { results := [.lit (.bool true)], args := [d1, d2, d3, d4, d5] }
  | _ => none }
def toldRow : OpenClaim := { program := "ytohefinejdfhaab", sum := "c63c44faec0f3e972d72a83604a96b27a2642acd9b0b600f44cb1518b4bd7b09", func := "veil/veilkeep.Told", spec := "told", recurses := true, apart := false }
def ToldSaid : Prop := toldRow.holds Try.pinned (OpenSpec.ofChange toldSpec)

/-- ITS FALSE NEIGHBOUR: 'it returns false'. Refute it at one input. -/
def toldWrong : ChangeSpec := { name := "told", fn := fun _ => fun
  | [d1, d2, d3, d4, d5] => { results := [.lit (.bool false)], args := [d1, d2, d3, d4, d5] }
  | _ => none }
def ToldWrongFalsely : Prop := toldRow.holds Try.pinned (OpenSpec.ofChange toldWrong)

/- THE SECOND FORM. 'bulk': how many values and letters a reading holds, each counted each time it is reached (what is shared counts as often as it is met; a slice's spare places count too). A statement '..UptoSaid' is the law's where the arguments, and the package variables that the reading takes, are together of bulk at most 1048576: NARROWER than '..Said'. Prove '..Said' where nothing that the law and all that it calls make is longer than what came in: it says more and counts as full. Else prove '..UptoSaid'. A law counts once. -/
mutual
def uptoBulk {H : Type} : DataW H → Nat
  | .lit (.string bytes) => bytes.length + 1
  | .lit _ => 1
  | .nil => 1
  | .ptr d => uptoBulk d + 1
  | .slice elems spare => uptoBulkAll elems + uptoBulkAll spare + 1
  | .agg parts => uptoBulkAll parts + 1
  | .iface _ d => uptoBulk d + 1
  | .map entries => uptoBulkEntries entries + 1
  | .held _ => 1
def uptoBulkAll {H : Type} : List (DataW H) → Nat
  | [] => 0
  | d :: r => uptoBulk d + uptoBulkAll r
def uptoBulkEntries {H : Type} : List (Lit × DataW H) → Nat
  | [] => 0
  | x :: r => uptoBulkEntry x + uptoBulkEntries r
def uptoBulkEntry {H : Type} : Lit × DataW H → Nat
  | (.string bytes, d) => bytes.length + uptoBulk d + 1
  | (_, d) => uptoBulk d + 1
 end
def uptoSmall : (H : Type) → List (DataW H) → Bool := fun _ ds => decide (uptoBulkAll ds ≤ 1048576)
def OpenSpec.upto (s : _root_.Go.ChangeSpec) : _root_.Go.OpenSpec := { _root_.Go.OpenSpec.ofChange s with cond := some uptoSmall }

/-- 'veilkeep.Loops', WHERE WHAT IT READS IS OF BULK AT MOST 1048576: true; the input reads as it did. -/
def loopsUptoRow : OpenClaim := { program := "ytohefinejdfhaab", sum := "c63c44faec0f3e972d72a83604a96b27a2642acd9b0b600f44cb1518b4bd7b09", func := "veil/veilkeep.Loops", spec := "loops", recurses := true, apart := false, narrowed := true }
def LoopsUptoSaid : Prop := loopsUptoRow.holds Try.pinned (OpenSpec.upto loopsSpec)

/-- 'veilkeep.Least', WHERE WHAT IT READS IS OF BULK AT MOST 1048576: true; the input reads as it did. -/
def leastUptoRow : OpenClaim := { program := "ytohefinejdfhaab", sum := "c63c44faec0f3e972d72a83604a96b27a2642acd9b0b600f44cb1518b4bd7b09", func := "veil/veilkeep.Least", spec := "least", recurses := true, apart := false, narrowed := true }
def LeastUptoSaid : Prop := leastUptoRow.holds Try.pinned (OpenSpec.upto leastSpec)

/-- 'veilkeep.Veiled', WHERE WHAT IT READS IS OF BULK AT MOST 1048576: true; the input reads as it did. -/
def veiledUptoRow : OpenClaim := { program := "ytohefinejdfhaab", sum := "c63c44faec0f3e972d72a83604a96b27a2642acd9b0b600f44cb1518b4bd7b09", func := "veil/veilkeep.Veiled", spec := "veiled", recurses := true, apart := false, narrowed := true }
def VeiledUptoSaid : Prop := veiledUptoRow.holds Try.pinned (OpenSpec.upto veiledSpec)

/-- 'veilkeep.Judges', WHERE WHAT IT READS IS OF BULK AT MOST 1048576: true; the input reads as it did. -/
def judgesUptoRow : OpenClaim := { program := "ytohefinejdfhaab", sum := "c63c44faec0f3e972d72a83604a96b27a2642acd9b0b600f44cb1518b4bd7b09", func := "veil/veilkeep.Judges", spec := "judges", recurses := true, apart := false, narrowed := true }
def JudgesUptoSaid : Prop := judgesUptoRow.holds Try.pinned (OpenSpec.upto judgesSpec)

/-- 'veilkeep.First', WHERE WHAT IT READS IS OF BULK AT MOST 1048576: true; the input reads as it did. -/
def firstUptoRow : OpenClaim := { program := "ytohefinejdfhaab", sum := "c63c44faec0f3e972d72a83604a96b27a2642acd9b0b600f44cb1518b4bd7b09", func := "veil/veilkeep.First", spec := "first", recurses := true, apart := false, narrowed := true }
def FirstUptoSaid : Prop := firstUptoRow.holds Try.pinned (OpenSpec.upto firstSpec)

/-- 'veilkeep.Told', WHERE WHAT IT READS IS OF BULK AT MOST 1048576: true; the input reads as it did. -/
def toldUptoRow : OpenClaim := { program := "ytohefinejdfhaab", sum := "c63c44faec0f3e972d72a83604a96b27a2642acd9b0b600f44cb1518b4bd7b09", func := "veil/veilkeep.Told", spec := "told", recurses := true, apart := false, narrowed := true }
def ToldUptoSaid : Prop := toldUptoRow.holds Try.pinned (OpenSpec.upto toldSpec)

end Rows
end Go.Proofs.Ytohefinejdfhaab
