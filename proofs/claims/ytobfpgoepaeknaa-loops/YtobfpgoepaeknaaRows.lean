/-
  No cell of these rows narrows 'for every input' (looked for: loops, veiled, ifaces, maps, wideKeys, modest, calm, conditions, laid).
  DERIVED. THE GIVEN ROWS OF THIS SEAT. 5 by the template 'for every input the law returns true; each argument reads behind the call as it read before'; 0 by the template 'total and deterministic' (their statements: YtobfpgoepaeknaaTotals.lean).
  GIVEN WITH THE SEED: the statements are not yours to turn. If you find one false, say at which input.
  Laid BY PROGRAM, IN A SANDBOX (cutbox-rows.mjs): the forced cells as the released guide's own fill.sh prints them over the translation 653eb0843ea9080c… (all of the seat's roots in one cut). By AI agents, Wed Nov 11 2026. No macro, syntax, notation, axiom, sorry.
-/
import Derived.Test.YtobfpgoepaeknaaChecked
import GoSem.Claim
import GoSem.ClaimJoined
import GoSem.ClaimMapViews
import Derived.JoinedTies
import Derived.KernelRfl
namespace Go.Proofs.Ytobfpgoepaeknaa
/- THE CELL 'sum', in the pinned program and in every row, IS THE sha256 OF THE DUMP (.gsa) THAT YtobfpgoepaeknaaProg.lean LOADS. Nothing in Lean hashes anything: it is a label: what it is worth is what the hold of that sum in a sandbox is worth. -/
noncomputable def Try.pinned : Pinned := { name := "ytobfpgoepaeknaa", sum := "653eb0843ea9080c5983e0d140e68ba51fcf8e529be53da62aaac8e49bda7e12", checked := Try.checked }
namespace Rows
def none {H : Type} : Left H := { results := [], args := [] }

/-- 'veillaw.Matches': WHATEVER THE INPUT: true; the input reads as it did. -/
def matchesSpec : ChangeSpec := { name := "matches", fn := fun _ => fun
  | [d1, d2] => { results := [.lit (.bool true)], args := [d1, d2] }
  | _ => none }
def matchesRow : OpenClaim := { program := "ytobfpgoepaeknaa", sum := "653eb0843ea9080c5983e0d140e68ba51fcf8e529be53da62aaac8e49bda7e12", func := "veil/veillaw.Matches", spec := "matches", recurses := true, apart := false }
def MatchesSaid : Prop := matchesRow.holds Try.pinned (OpenSpec.ofChange matchesSpec)

/-- ITS FALSE NEIGHBOUR: 'it returns false'. Refute it at one input. -/
def matchesWrong : ChangeSpec := { name := "matches", fn := fun _ => fun
  | [d1, d2] => { results := [.lit (.bool false)], args := [d1, d2] }
  | _ => none }
def MatchesWrongFalsely : Prop := matchesRow.holds Try.pinned (OpenSpec.ofChange matchesWrong)

/-- 'veilkeep.Bytes': WHATEVER THE INPUT: true; the input reads as it did. -/
def bytesSpec : ChangeSpec := { name := "bytes", fn := fun _ => fun
  | [d1, d2, d3, d4, d5] => { results := [.lit (.bool true)], args := [d1, d2, d3, d4, d5] }
  | _ => none }
def bytesRow : OpenClaim := { program := "ytobfpgoepaeknaa", sum := "653eb0843ea9080c5983e0d140e68ba51fcf8e529be53da62aaac8e49bda7e12", func := "veil/veilkeep.Bytes", spec := "bytes", recurses := true, apart := false }
def BytesSaid : Prop := bytesRow.holds Try.pinned (OpenSpec.ofChange bytesSpec)

/-- ITS FALSE NEIGHBOUR: 'it returns false'. Refute it at one input. -/
def bytesWrong : ChangeSpec := { name := "bytes", fn := fun _ => fun
  | [d1, d2, d3, d4, d5] => { results := [.lit (.bool false)], args := [d1, d2, d3, d4, d5] }
  | _ => none }
def BytesWrongFalsely : Prop := bytesRow.holds Try.pinned (OpenSpec.ofChange bytesWrong)

/-- 'veilkeep.Splits': WHATEVER THE INPUT: true; the input reads as it did. -/
def splitsSpec : ChangeSpec := { name := "splits", fn := fun _ => fun
  | [d1, d2, d3] => { results := [.lit (.bool true)], args := [d1, d2, d3] }
  | _ => none }
def splitsRow : OpenClaim := { program := "ytobfpgoepaeknaa", sum := "653eb0843ea9080c5983e0d140e68ba51fcf8e529be53da62aaac8e49bda7e12", func := "veil/veilkeep.Splits", spec := "splits", recurses := true, apart := false }
def SplitsSaid : Prop := splitsRow.holds Try.pinned (OpenSpec.ofChange splitsSpec)

/-- ITS FALSE NEIGHBOUR: 'it returns false'. Refute it at one input. -/
def splitsWrong : ChangeSpec := { name := "splits", fn := fun _ => fun
  | [d1, d2, d3] => { results := [.lit (.bool false)], args := [d1, d2, d3] }
  | _ => none }
def SplitsWrongFalsely : Prop := splitsRow.holds Try.pinned (OpenSpec.ofChange splitsWrong)

/-- 'veilkeep.Loops': WHATEVER THE INPUT: true; the input reads as it did. -/
def loopsSpec : ChangeSpec := { name := "loops", fn := fun _ => fun
  | [d1, d2, d3, d4] => { results := [.lit (.bool true)], args := [d1, d2, d3, d4] }
  | _ => none }
def loopsRow : OpenClaim := { program := "ytobfpgoepaeknaa", sum := "653eb0843ea9080c5983e0d140e68ba51fcf8e529be53da62aaac8e49bda7e12", func := "veil/veilkeep.Loops", spec := "loops", recurses := true, apart := false }
def LoopsSaid : Prop := loopsRow.holds Try.pinned (OpenSpec.ofChange loopsSpec)

/-- ITS FALSE NEIGHBOUR: 'it returns false'. Refute it at one input. -/
def loopsWrong : ChangeSpec := { name := "loops", fn := fun _ => fun
  | [d1, d2, d3, d4] => { results := [.lit (.bool false)], args := [d1, d2, d3, d4] }
  | _ => none }
def LoopsWrongFalsely : Prop := loopsRow.holds Try.pinned (OpenSpec.ofChange loopsWrong)

/-- 'veilkeep.Least': WHATEVER THE INPUT: true; the input reads as it did. -/
def leastSpec : ChangeSpec := { name := "least", fn := fun _ => fun
  | [d1, d2] => { results := [.lit (.bool true)], args := [d1, d2] }
  | _ => none }
def leastRow : OpenClaim := { program := "ytobfpgoepaeknaa", sum := "653eb0843ea9080c5983e0d140e68ba51fcf8e529be53da62aaac8e49bda7e12", func := "veil/veilkeep.Least", spec := "least", recurses := true, apart := false }
def LeastSaid : Prop := leastRow.holds Try.pinned (OpenSpec.ofChange leastSpec)

/-- ITS FALSE NEIGHBOUR: 'it returns false'. Refute it at one input. -/
def leastWrong : ChangeSpec := { name := "least", fn := fun _ => fun
  | [d1, d2] => { results := [.lit (.bool false)], args := [d1, d2] }
  | _ => none }
def LeastWrongFalsely : Prop := leastRow.holds Try.pinned (OpenSpec.ofChange leastWrong)

/- THE SECOND FORM. 'bulk': how many values and letters a reading holds, each counted each time it is reached (what is shared counts as often as it is met; a slice's spare places count too). A statement '..UptoSaid' is the law's where the arguments, and the package variables that the reading takes, are together of bulk at most 1048576: NARROWER than '..Said'. Prove '..Said' where nothing that the law and all that it calls make is longer than what came in: it says more and counts as full. Else prove '..UptoSaid'. A law counts once. -/
mutual
def uptoBulk {H : Type} : DataW H → Nat
  | .lit (.string bytes) => bytes.length + 1
  | .lit _ => 1
  | .nil => 1
  | .ptr d => uptoBulk d + 1
  | .slice elems spare => uptoBulkAll elems + uptoBulkAll spare + 1
  | .agg parts => uptoBulkAll parts + 1
  | .iface _ d => uptoBulk d + 1
  | .map entries => uptoBulkEntries entries + 1
  | .held _ => 1
def uptoBulkAll {H : Type} : List (DataW H) → Nat
  | [] => 0
  | d :: r => uptoBulk d + uptoBulkAll r
def uptoBulkEntries {H : Type} : List (Lit × DataW H) → Nat
  | [] => 0
  | x :: r => uptoBulkEntry x + uptoBulkEntries r
def uptoBulkEntry {H : Type} : Lit × DataW H → Nat
  | (.string bytes, d) => bytes.length + uptoBulk d + 1
  | (_, d) => uptoBulk d + 1
 end
def uptoSmall : (H : Type) → List (DataW H) → Bool := fun _ ds => decide (uptoBulkAll ds ≤ 1048576)
def OpenSpec.upto (s : _root_.Go.ChangeSpec) : _root_.Go.OpenSpec := { _root_.Go.OpenSpec.ofChange s with cond := some uptoSmall }

/-- 'veillaw.Matches', WHERE WHAT IT READS IS OF BULK AT MOST 1048576: true; the input reads as it did. -/
def matchesUptoRow : OpenClaim := { program := "ytobfpgoepaeknaa", sum := "653eb0843ea9080c5983e0d140e68ba51fcf8e529be53da62aaac8e49bda7e12", func := "veil/veillaw.Matches", spec := "matches", recurses := true, apart := false, narrowed := true }
def MatchesUptoSaid : Prop := matchesUptoRow.holds Try.pinned (OpenSpec.upto matchesSpec)

/-- 'veilkeep.Bytes', WHERE WHAT IT READS IS OF BULK AT MOST 1048576: true; the input reads as it did. -/
def bytesUptoRow : OpenClaim := { program := "ytobfpgoepaeknaa", sum := "653eb0843ea9080c5983e0d140e68ba51fcf8e529be53da62aaac8e49bda7e12", func := "veil/veilkeep.Bytes", spec := "bytes", recurses := true, apart := false, narrowed := true }
def BytesUptoSaid : Prop := bytesUptoRow.holds Try.pinned (OpenSpec.upto bytesSpec)

/-- 'veilkeep.Splits', WHERE WHAT IT READS IS OF BULK AT MOST 1048576: true; the input reads as it did. -/
def splitsUptoRow : OpenClaim := { program := "ytobfpgoepaeknaa", sum := "653eb0843ea9080c5983e0d140e68ba51fcf8e529be53da62aaac8e49bda7e12", func := "veil/veilkeep.Splits", spec := "splits", recurses := true, apart := false, narrowed := true }
def SplitsUptoSaid : Prop := splitsUptoRow.holds Try.pinned (OpenSpec.upto splitsSpec)

/-- 'veilkeep.Loops', WHERE WHAT IT READS IS OF BULK AT MOST 1048576: true; the input reads as it did. -/
def loopsUptoRow : OpenClaim := { program := "ytobfpgoepaeknaa", sum := "653eb0843ea9080c5983e0d140e68ba51fcf8e529be53da62aaac8e49bda7e12", func := "veil/veilkeep.Loops", spec := "loops", recurses := true, apart := false, narrowed := true }
def LoopsUptoSaid : Prop := loopsUptoRow.holds Try.pinned (OpenSpec.upto loopsSpec)

/-- 'veilkeep.Least', WHERE WHAT IT READS IS OF BULK AT MOST 1048576: true; the input reads as it did. -/
def leastUptoRow : OpenClaim := { program := "ytobfpgoepaeknaa", sum := "653eb0843ea9080c5983e0d140e68ba51fcf8e529be53da62aaac8e49bda7e12", func := "veil/veilkeep.Least", spec := "least", recurses := true, apart := false, narrowed := true }
def LeastUptoSaid : Prop := leastUptoRow.holds Try.pinned (OpenSpec.upto leastSpec)

end Rows
end Go.Proofs.Ytobfpgoepaeknaa
