/-
  No cell of these rows narrows 'for every input' (looked for: loops, veiled, ifaces, maps, wideKeys, modest, calm, conditions, laid).
  DERIVED. THE GIVEN ROWS OF THIS SEAT. 9 by the template 'for every input the law returns true; each argument reads behind the call as it read before'; 0 by the template 'total and deterministic' (their statements: YtohefinejdfhaaaTotals.lean).
  GIVEN WITH THE SEED: the statements are not yours to turn. If you find one false, say at which input.
  Laid BY PROGRAM, IN A SANDBOX (cutbox-rows.mjs): the forced cells as the released guide's own fill.sh prints them over the translation 1a1a95b50bec0439… (all of the seat's roots in one cut). By AI agents, Wed Nov 11 2026. No macro, syntax, notation, axiom, sorry.
-/
import Derived.Test.YtohefinejdfhaaaChecked
import GoSem.Claim
import GoSem.ClaimJoined
import GoSem.ClaimMapViews
import Derived.JoinedTies
import Derived.KernelRfl
namespace Go.Proofs.Ytohefinejdfhaaa
/- THE CELL 'sum', in the pinned program and in every row, IS THE sha256 OF THE DUMP (.gsa) THAT YtohefinejdfhaaaProg.lean LOADS. Nothing in Lean hashes anything: it is a label: what it is worth is what the hold of that sum in a sandbox is worth. -/
noncomputable def Try.pinned : Pinned := { name := "ytohefinejdfhaaa", sum := "1a1a95b50bec04399e8a040534e4ed5af61c6ee8ef2b94f3bd2e8bb68ec8f140", checked := Try.checked }
namespace Rows
def none {H : Type} : Left H := { results := [], args := [] }

/-- 'veillaw.Patterns': WHATEVER THE INPUT: true; the input reads as it did. -/
def patternsSpec : ChangeSpec := { name := "patterns", fn := fun _ => fun
  | [d] => { results := [.lit (.bool true)], args := [d] }
  | _ => none }
def patternsRow : OpenClaim := { program := "ytohefinejdfhaaa", sum := "1a1a95b50bec04399e8a040534e4ed5af61c6ee8ef2b94f3bd2e8bb68ec8f140", func := "veil/veillaw.Patterns", spec := "patterns", recurses := true, apart := false }
def PatternsSaid : Prop := patternsRow.holds Try.pinned (OpenSpec.ofChange patternsSpec)

/-- ITS FALSE NEIGHBOUR: 'it returns false'. Refute it at one input. -/
def patternsWrong : ChangeSpec := { name := "patterns", fn := fun _ => fun
  | [d] => { results := [.lit (.bool false)], args := [d] }
  | _ => none }
def PatternsWrongFalsely : Prop := patternsRow.holds Try.pinned (OpenSpec.ofChange patternsWrong)

/-- 'veillaw.Matches': WHATEVER THE INPUT: true; the input reads as it did. -/
def matchesSpec : ChangeSpec := { name := "matches", fn := fun _ => fun
  | [d1, d2] => { results := [.lit (.bool true)], args := [d1, d2] }
  | _ => none }
def matchesRow : OpenClaim := { program := "ytohefinejdfhaaa", sum := "1a1a95b50bec04399e8a040534e4ed5af61c6ee8ef2b94f3bd2e8bb68ec8f140", func := "veil/veillaw.Matches", spec := "matches", recurses := true, apart := false }
def MatchesSaid : Prop := matchesRow.holds Try.pinned (OpenSpec.ofChange matchesSpec)

/-- ITS FALSE NEIGHBOUR: 'it returns false'. Refute it at one input. -/
def matchesWrong : ChangeSpec := { name := "matches", fn := fun _ => fun
  | [d1, d2] => { results := [.lit (.bool false)], args := [d1, d2] }
  | _ => none }
def MatchesWrongFalsely : Prop := matchesRow.holds Try.pinned (OpenSpec.ofChange matchesWrong)

/-- 'veillaw.Runs': WHATEVER THE INPUT: true; the input reads as it did. -/
def runsSpec : ChangeSpec := { name := "runs", fn := fun _ => fun
  | [d1, d2, d3] => { results := [.lit (.bool true)], args := [d1, d2, d3] }
  | _ => none }
def runsRow : OpenClaim := { program := "ytohefinejdfhaaa", sum := "1a1a95b50bec04399e8a040534e4ed5af61c6ee8ef2b94f3bd2e8bb68ec8f140", func := "veil/veillaw.Runs", spec := "runs", apart := false }
def RunsSaid : Prop := runsRow.holds Try.pinned (OpenSpec.ofChange runsSpec)

/-- ITS FALSE NEIGHBOUR: 'it returns false'. Refute it at one input. -/
def runsWrong : ChangeSpec := { name := "runs", fn := fun _ => fun
  | [d1, d2, d3] => { results := [.lit (.bool false)], args := [d1, d2, d3] }
  | _ => none }
def RunsWrongFalsely : Prop := runsRow.holds Try.pinned (OpenSpec.ofChange runsWrong)

/-- 'veillaw.Codes': WHATEVER THE INPUT: true; the input reads as it did. -/
def codesSpec : ChangeSpec := { name := "codes", fn := fun _ => fun
  | [d1, d2] => { results := [.lit (.bool true)], args := [d1, d2] }
  | _ => none }
def codesRow : OpenClaim := { program := "ytohefinejdfhaaa", sum := "1a1a95b50bec04399e8a040534e4ed5af61c6ee8ef2b94f3bd2e8bb68ec8f140", func := "veil/veillaw.Codes", spec := "codes", recurses := true, apart := false }
def CodesSaid : Prop := codesRow.holds Try.pinned (OpenSpec.ofChange codesSpec)

/-- ITS FALSE NEIGHBOUR: 'it returns false'. Refute it at one input. -/
def codesWrong : ChangeSpec := { name := "codes", fn := fun _ => fun
  | [d1, d2] => { results := [.lit (.bool false)], args := [d1, d2] }
  | _ => none }
def CodesWrongFalsely : Prop := codesRow.holds Try.pinned (OpenSpec.ofChange codesWrong)

/-- 'veillaw.Checks': WHATEVER THE INPUT: true; the input reads as it did. -/
def checksSpec : ChangeSpec := { name := "checks", fn := fun _ => fun
  | [d1, d2] => { results := [.lit (.bool true)], args := [d1, d2] }
  | _ => none }
def checksRow : OpenClaim := { program := "ytohefinejdfhaaa", sum := "1a1a95b50bec04399e8a040534e4ed5af61c6ee8ef2b94f3bd2e8bb68ec8f140", func := "veil/veillaw.Checks", spec := "checks", recurses := true, apart := false }
def ChecksSaid : Prop := checksRow.holds Try.pinned (OpenSpec.ofChange checksSpec)

/-- ITS FALSE NEIGHBOUR: 'it returns false'. Refute it at one input. -/
def checksWrong : ChangeSpec := { name := "checks", fn := fun _ => fun
  | [d1, d2] => { results := [.lit (.bool false)], args := [d1, d2] }
  | _ => none }
def ChecksWrongFalsely : Prop := checksRow.holds Try.pinned (OpenSpec.ofChange checksWrong)

/-- 'veillaw.Witnesses': WHATEVER THE INPUT: true; the input reads as it did. -/
def witnessesSpec : ChangeSpec := { name := "witnesses", fn := fun _ => fun
  | [d] => { results := [.lit (.bool true)], args := [d] }
  | _ => none }
def witnessesRow : OpenClaim := { program := "ytohefinejdfhaaa", sum := "1a1a95b50bec04399e8a040534e4ed5af61c6ee8ef2b94f3bd2e8bb68ec8f140", func := "veil/veillaw.Witnesses", spec := "witnesses", recurses := true, apart := false }
def WitnessesSaid : Prop := witnessesRow.holds Try.pinned (OpenSpec.ofChange witnessesSpec)

/-- ITS FALSE NEIGHBOUR: 'it returns false'. Refute it at one input. -/
def witnessesWrong : ChangeSpec := { name := "witnesses", fn := fun _ => fun
  | [d] => { results := [.lit (.bool false)], args := [d] }
  | _ => none }
def WitnessesWrongFalsely : Prop := witnessesRow.holds Try.pinned (OpenSpec.ofChange witnessesWrong)

/-- 'veillaw.Differs': WHATEVER THE INPUT: true; the input reads as it did. -/
def differsSpec : ChangeSpec := { name := "differs", fn := fun _ => fun
  | [d1, d2] => { results := [.lit (.bool true)], args := [d1, d2] }
  | _ => none }
def differsRow : OpenClaim := { program := "ytohefinejdfhaaa", sum := "1a1a95b50bec04399e8a040534e4ed5af61c6ee8ef2b94f3bd2e8bb68ec8f140", func := "veil/veillaw.Differs", spec := "differs", recurses := true, apart := false }
def DiffersSaid : Prop := differsRow.holds Try.pinned (OpenSpec.ofChange differsSpec)

/-- ITS FALSE NEIGHBOUR: 'it returns false'. Refute it at one input. -/
def differsWrong : ChangeSpec := { name := "differs", fn := fun _ => fun
  | [d1, d2] => { results := [.lit (.bool false)], args := [d1, d2] }
  | _ => none }
def DiffersWrongFalsely : Prop := differsRow.holds Try.pinned (OpenSpec.ofChange differsWrong)

/-- 'veilkeep.Bytes': WHATEVER THE INPUT: true; the input reads as it did. -/
def bytesSpec : ChangeSpec := { name := "bytes", fn := fun _ => fun
  | [d1, d2, d3, d4, d5] => { results := [.lit (.bool true)], args := [d1, d2, d3, d4, d5] }
  | _ => none }
def bytesRow : OpenClaim := { program := "ytohefinejdfhaaa", sum := "1a1a95b50bec04399e8a040534e4ed5af61c6ee8ef2b94f3bd2e8bb68ec8f140", func := "veil/veilkeep.Bytes", spec := "bytes", recurses := true, apart := false }
def BytesSaid : Prop := bytesRow.holds Try.pinned (OpenSpec.ofChange bytesSpec)

/-- ITS FALSE NEIGHBOUR: 'it returns false'. Refute it at one input. -/
def bytesWrong : ChangeSpec := { name := "bytes", fn := fun _ => fun
  | [d1, d2, d3, d4, d5] => { results := [.lit (.bool false)], args := [d1, d2, d3, d4, d5] }
  | _ => none }
def BytesWrongFalsely : Prop := bytesRow.holds Try.pinned (OpenSpec.ofChange bytesWrong)

/-- 'veilkeep.Splits': WHATEVER THE INPUT: true; the input reads as it did. -/
def splitsSpec : ChangeSpec := { name := "splits", fn := fun _ => fun
  | [d1, d2, d3] => { results := [.lit (.bool true)], args := [d1, d2, d3] }
  | _ => none }
def splitsRow : OpenClaim := { program := "ytohefinejdfhaaa", sum := "1a1a95b50bec04399e8a040534e4ed5af61c6ee8ef2b94f3bd2e8bb68ec8f140", func := "veil/veilkeep.Splits", spec := "splits", recurses := true, apart := false }
def SplitsSaid : Prop := splitsRow.holds Try.pinned (OpenSpec.ofChange splitsSpec)

/-- ITS FALSE NEIGHBOUR: 'it returns false'. Refute it at one input. -/
def splitsWrong : ChangeSpec := { name := "splits", fn := fun _ => fun
  | [d1, d2, d3] => { results := [.lit (.bool false)], args := [d1, d2, d3] }
  | _ => none }
def SplitsWrongFalsely : Prop := splitsRow.holds Try.pinned (OpenSpec.ofChange splitsWrong)

/- THE SECOND FORM. 'bulk': how many values and letters a reading holds, each counted each time it is reached (what is shared counts as often as it is met; a slice's spare places count too). A statement '..UptoSaid' is the law's where the arguments, and the package variables that the reading takes, are together of bulk at most 1048576: NARROWER than '..Said'. Prove '..Said' where nothing that the law and all that it calls make is longer than what came in: it says more and counts as full. Else prove '..UptoSaid'. A law counts once. -/
mutual
def uptoBulk {H : Type} : DataW H → Nat
  | .lit (.string bytes) => bytes.length + 1
  | .lit _ => 1
  | .nil => 1
  | .ptr d => uptoBulk d + 1
  | .slice elems spare => uptoBulkAll elems + uptoBulkAll spare + 1
  | .agg parts => uptoBulkAll parts + 1
  | .iface _ d => uptoBulk d + 1
  | .map entries => uptoBulkEntries entries + 1
  | .held _ => 1
def uptoBulkAll {H : Type} : List (DataW H) → Nat
  | [] => 0
  | d :: r => uptoBulk d + uptoBulkAll r
def uptoBulkEntries {H : Type} : List (Lit × DataW H) → Nat
  | [] => 0
  | x :: r => uptoBulkEntry x + uptoBulkEntries r
def uptoBulkEntry {H : Type} : Lit × DataW H → Nat
  | (.string bytes, d) => bytes.length + uptoBulk d + 1
  | (_, d) => uptoBulk d + 1
 end
def uptoSmall : (H : Type) → List (DataW H) → Bool := fun _ ds => decide (uptoBulkAll ds ≤ 1048576)
def OpenSpec.upto (s : _root_.Go.ChangeSpec) : _root_.Go.OpenSpec := { _root_.Go.OpenSpec.ofChange s with cond := some uptoSmall }

/-- 'veillaw.Patterns', WHERE WHAT IT READS IS OF BULK AT MOST 1048576: true; the input reads as it did. -/
def patternsUptoRow : OpenClaim := { program := "ytohefinejdfhaaa", sum := "1a1a95b50bec04399e8a040534e4ed5af61c6ee8ef2b94f3bd2e8bb68ec8f140", func := "veil/veillaw.Patterns", spec := "patterns", recurses := true, apart := false, narrowed := true }
def PatternsUptoSaid : Prop := patternsUptoRow.holds Try.pinned (OpenSpec.upto patternsSpec)

/-- 'veillaw.Matches', WHERE WHAT IT READS IS OF BULK AT MOST 1048576: true; the input reads as it did. -/
def matchesUptoRow : OpenClaim := { program := "ytohefinejdfhaaa", sum := "1a1a95b50bec04399e8a040534e4ed5af61c6ee8ef2b94f3bd2e8bb68ec8f140", func := "veil/veillaw.Matches", spec := "matches", recurses := true, apart := false, narrowed := true }
def MatchesUptoSaid : Prop := matchesUptoRow.holds Try.pinned (OpenSpec.upto matchesSpec)

/-- 'veillaw.Runs', WHERE WHAT IT READS IS OF BULK AT MOST 1048576: true; the input reads as it did. -/
def runsUptoRow : OpenClaim := { program := "ytohefinejdfhaaa", sum := "1a1a95b50bec04399e8a040534e4ed5af61c6ee8ef2b94f3bd2e8bb68ec8f140", func := "veil/veillaw.Runs", spec := "runs", apart := false, narrowed := true }
def RunsUptoSaid : Prop := runsUptoRow.holds Try.pinned (OpenSpec.upto runsSpec)

/-- 'veillaw.Codes', WHERE WHAT IT READS IS OF BULK AT MOST 1048576: true; the input reads as it did. -/
def codesUptoRow : OpenClaim := { program := "ytohefinejdfhaaa", sum := "1a1a95b50bec04399e8a040534e4ed5af61c6ee8ef2b94f3bd2e8bb68ec8f140", func := "veil/veillaw.Codes", spec := "codes", recurses := true, apart := false, narrowed := true }
def CodesUptoSaid : Prop := codesUptoRow.holds Try.pinned (OpenSpec.upto codesSpec)

/-- 'veillaw.Checks', WHERE WHAT IT READS IS OF BULK AT MOST 1048576: true; the input reads as it did. -/
def checksUptoRow : OpenClaim := { program := "ytohefinejdfhaaa", sum := "1a1a95b50bec04399e8a040534e4ed5af61c6ee8ef2b94f3bd2e8bb68ec8f140", func := "veil/veillaw.Checks", spec := "checks", recurses := true, apart := false, narrowed := true }
def ChecksUptoSaid : Prop := checksUptoRow.holds Try.pinned (OpenSpec.upto checksSpec)

/-- 'veillaw.Witnesses', WHERE WHAT IT READS IS OF BULK AT MOST 1048576: true; the input reads as it did. -/
def witnessesUptoRow : OpenClaim := { program := "ytohefinejdfhaaa", sum := "1a1a95b50bec04399e8a040534e4ed5af61c6ee8ef2b94f3bd2e8bb68ec8f140", func := "veil/veillaw.Witnesses", spec := "witnesses", recurses := true, apart := false, narrowed := true }
def WitnessesUptoSaid : Prop := witnessesUptoRow.holds Try.pinned (OpenSpec.upto witnessesSpec)

/-- 'veillaw.Differs', WHERE WHAT IT READS IS OF BULK AT MOST 1048576: true; the input reads as it did. -/
def differsUptoRow : OpenClaim := { program := "ytohefinejdfhaaa", sum := "1a1a95b50bec04399e8a040534e4ed5af61c6ee8ef2b94f3bd2e8bb68ec8f140", func := "veil/veillaw.Differs", spec := "differs", recurses := true, apart := false, narrowed := true }
def DiffersUptoSaid : Prop := differsUptoRow.holds Try.pinned (OpenSpec.upto differsSpec)

/-- 'veilkeep.Bytes', WHERE WHAT IT READS IS OF BULK AT MOST 1048576: true; the input reads as it did. -/
def bytesUptoRow : OpenClaim := { program := "ytohefinejdfhaaa", sum := "1a1a95b50bec04399e8a040534e4ed5af61c6ee8ef2b94f3bd2e8bb68ec8f140", func := "veil/veilkeep.Bytes", spec := "bytes", recurses := true, apart := false, narrowed := true }
def BytesUptoSaid : Prop := bytesUptoRow.holds Try.pinned (OpenSpec.upto bytesSpec)

/-- 'veilkeep.Splits', WHERE WHAT IT READS IS OF BULK AT MOST 1048576: true; the input reads as it did. -/
def splitsUptoRow : OpenClaim := { program := "ytohefinejdfhaaa", sum := "1a1a95b50bec04399e8a040534e4ed5af61c6ee8ef2b94f3bd2e8bb68ec8f140", func := "veil/veilkeep.Splits", spec := "splits", recurses := true, apart := false, narrowed := true }
def SplitsUptoSaid : Prop := splitsUptoRow.holds Try.pinned (OpenSpec.upto splitsSpec)

end Rows
end Go.Proofs.Ytohefinejdfhaaa
