/-
  No cell of these rows narrows 'for every input' (looked for: loops, veiled, ifaces, maps, wideKeys, modest, calm, conditions, laid).
  DERIVED. THE GIVEN ROWS OF THIS SEAT. 9 by the template 'for every input the law returns true; each argument reads behind the call as it read before'; 0 by the template 'total and deterministic' (their statements: YtnkdbcicphnmiaaTotals.lean).
  GIVEN WITH THE SEED: the statements are not yours to turn. If you find one false, say at which input.
  Laid BY PROGRAM, IN A SANDBOX (cutbox-rows.mjs): the forced cells as the released guide's own fill.sh prints them over the translation 4ae044d22733c43c… (all of the seat's roots in one cut). By AI agents, Wed Nov 11 2026. No macro, syntax, notation, axiom, sorry.
-/
import Derived.Test.YtnkdbcicphnmiaaChecked
import GoSem.Claim
import GoSem.ClaimJoined
import GoSem.ClaimMapViews
import Derived.JoinedTies
import Derived.KernelRfl
namespace Go.Proofs.Ytnkdbcicphnmiaa
/- THE CELL 'sum', in the pinned program and in every row, IS THE sha256 OF THE DUMP (.gsa) THAT YtnkdbcicphnmiaaProg.lean LOADS. Nothing in Lean hashes anything: it is a label: what it is worth is what the hold of that sum in a sandbox is worth. -/
noncomputable def Try.pinned : Pinned := { name := "ytnkdbcicphnmiaa", sum := "4ae044d22733c43cc61dfd9971a2ba5ba45fa338653ffd46639ff7a79732cb44", checked := Try.checked }
namespace Rows
def none {H : Type} : Left H := { results := [], args := [] }

/-- 'veillaw.Runs': WHATEVER THE INPUT: true; the input reads as it did. -/
def runsSpec : ChangeSpec := { name := "runs", fn := fun _ => fun
  | [d1, d2, d3] => { results := [.lit (.bool true)], args := [d1, d2, d3] }
  | _ => none }
def runsRow : OpenClaim := { program := "ytnkdbcicphnmiaa", sum := "4ae044d22733c43cc61dfd9971a2ba5ba45fa338653ffd46639ff7a79732cb44", func := "veil/veillaw.Runs", spec := "runs", apart := false }
def RunsSaid : Prop := runsRow.holds Try.pinned (OpenSpec.ofChange runsSpec)

/-- ITS FALSE NEIGHBOUR: 'it returns false'. Refute it at one input. -/
def runsWrong : ChangeSpec := { name := "runs", fn := fun _ => fun
  | [d1, d2, d3] => { results := [.lit (.bool false)], args := [d1, d2, d3] }
  | _ => none }
def RunsWrongFalsely : Prop := runsRow.holds Try.pinned (OpenSpec.ofChange runsWrong)

/-- 'veillaw.Codes': WHATEVER THE INPUT: true; the input reads as it did. -/
def codesSpec : ChangeSpec := { name := "codes", fn := fun _ => fun
  | [d1, d2] => { results := [.lit (.bool true)], args := [d1, d2] }
  | _ => none }
def codesRow : OpenClaim := { program := "ytnkdbcicphnmiaa", sum := "4ae044d22733c43cc61dfd9971a2ba5ba45fa338653ffd46639ff7a79732cb44", func := "veil/veillaw.Codes", spec := "codes", recurses := true, apart := false }
def CodesSaid : Prop := codesRow.holds Try.pinned (OpenSpec.ofChange codesSpec)

/-- ITS FALSE NEIGHBOUR: 'it returns false'. Refute it at one input. -/
def codesWrong : ChangeSpec := { name := "codes", fn := fun _ => fun
  | [d1, d2] => { results := [.lit (.bool false)], args := [d1, d2] }
  | _ => none }
def CodesWrongFalsely : Prop := codesRow.holds Try.pinned (OpenSpec.ofChange codesWrong)

/-- 'veillaw.Checks': WHATEVER THE INPUT: true; the input reads as it did. -/
def checksSpec : ChangeSpec := { name := "checks", fn := fun _ => fun
  | [d1, d2] => { results := [.lit (.bool true)], args := [d1, d2] }
  | _ => none }
def checksRow : OpenClaim := { program := "ytnkdbcicphnmiaa", sum := "4ae044d22733c43cc61dfd9971a2ba5ba45fa338653ffd46639ff7a79732cb44", func := "veil/veillaw.Checks", spec := "checks", recurses := true, apart := false }
def ChecksSaid : Prop := checksRow.holds Try.pinned (OpenSpec.ofChange checksSpec)

/-- ITS FALSE NEIGHBOUR: 'it returns false'. Refute it at one input. -/
def checksWrong : ChangeSpec := { name := "checks", fn := fun _ => fun
  | [d1, d2] => { results := [.lit (.bool false)], args := [d1, d2] }
  | _ => none }
def ChecksWrongFalsely : Prop := checksRow.holds Try.pinned (OpenSpec.ofChange checksWrong)

/-- 'veillaw.Witnesses': WHATEVER THE INPUT: true; the input reads as it did. -/
def witnessesSpec : ChangeSpec := { name := "witnesses", fn := fun _ => fun
  | [d] => { results := [.lit (.bool true)], args := [d] }
  | _ => none }
def witnessesRow : OpenClaim := { program := "ytnkdbcicphnmiaa", sum := "4ae044d22733c43cc61dfd9971a2ba5ba45fa338653ffd46639ff7a79732cb44", func := "veil/veillaw.Witnesses", spec := "witnesses", recurses := true, apart := false }
def WitnessesSaid : Prop := witnessesRow.holds Try.pinned (OpenSpec.ofChange witnessesSpec)

/-- ITS FALSE NEIGHBOUR: 'it returns false'. Refute it at one input. -/
def witnessesWrong : ChangeSpec := { name := "witnesses", fn := fun _ => fun
  | [d] => { results := [.lit (.bool false)], args := [d] }
  | _ => none }
def WitnessesWrongFalsely : Prop := witnessesRow.holds Try.pinned (OpenSpec.ofChange witnessesWrong)

/-- 'veillaw.Differs': WHATEVER THE INPUT: true; the input reads as it did. -/
def differsSpec : ChangeSpec := { name := "differs", fn := fun _ => fun
  | [d1, d2] => { results := [.lit (.bool true)], args := [d1, d2] }
  | _ => none }
def differsRow : OpenClaim := { program := "ytnkdbcicphnmiaa", sum := "4ae044d22733c43cc61dfd9971a2ba5ba45fa338653ffd46639ff7a79732cb44", func := "veil/veillaw.Differs", spec := "differs", recurses := true, apart := false }
def DiffersSaid : Prop := differsRow.holds Try.pinned (OpenSpec.ofChange differsSpec)

/-- ITS FALSE NEIGHBOUR: 'it returns false'. Refute it at one input. -/
def differsWrong : ChangeSpec := { name := "differs", fn := fun _ => fun
  | [d1, d2] => { results := [.lit (.bool false)], args := [d1, d2] }
  | _ => none }
def DiffersWrongFalsely : Prop := differsRow.holds Try.pinned (OpenSpec.ofChange differsWrong)

/-- 'veilkeep.Veiled': WHATEVER THE INPUT: true; the input reads as it did. -/
def veiledSpec : ChangeSpec := { name := "veiled", fn := fun _ => fun
  | [d1, d2, d3, d4, d5] => { results := [.lit (.bool true)], args := [d1, d2, d3, d4, d5] }
  | _ => none }
def veiledRow : OpenClaim := { program := "ytnkdbcicphnmiaa", sum := "4ae044d22733c43cc61dfd9971a2ba5ba45fa338653ffd46639ff7a79732cb44", func := "veil/veilkeep.Veiled", spec := "veiled", recurses := true, apart := false }
def VeiledSaid : Prop := veiledRow.holds Try.pinned (OpenSpec.ofChange veiledSpec)

/-- ITS FALSE NEIGHBOUR: 'it returns false'. Refute it at one input. -/
def veiledWrong : ChangeSpec := { name := "veiled", fn := fun _ => fun
  | [d1, d2, d3, d4, d5] => { results := [.lit (.bool false)], args := [d1, d2, d3, d4, d5] }
  | _ => none }
def VeiledWrongFalsely : Prop := veiledRow.holds Try.pinned (OpenSpec.ofChange veiledWrong)

/-- 'veilkeep.Judges': WHATEVER THE INPUT: true; the input reads as it did. -/
def judgesSpec : ChangeSpec := { name := "judges", fn := fun _ => fun
  | [d1, d2, d3, d4] => { results := [.lit (.bool true)], args := [d1, d2, d3, d4] }
  | _ => none }
def judgesRow : OpenClaim := { program := "ytnkdbcicphnmiaa", sum := "4ae044d22733c43cc61dfd9971a2ba5ba45fa338653ffd46639ff7a79732cb44", func := "veil/veilkeep.Judges", spec := "judges", recurses := true, apart := false }
def JudgesSaid : Prop := judgesRow.holds Try.pinned (OpenSpec.ofChange judgesSpec)

/-- ITS FALSE NEIGHBOUR: 'it returns false'. Refute it at one input. -/
def judgesWrong : ChangeSpec := { name := "judges", fn := fun _ => fun
  | [d1, d2, d3, d4] => { results := [.lit (.bool false)], args := [d1, d2, d3, d4] }
  | _ => none }
def JudgesWrongFalsely : Prop := judgesRow.holds Try.pinned (OpenSpec.ofChange judgesWrong)

/-- 'veilkeep.First': WHATEVER THE INPUT: true; the input reads as it did. -/
def firstSpec : ChangeSpec := { name := "first", fn := fun _ => fun
  | [d1, d2, d3, d4] => { results := [.lit (.bool true)], args := [d1, d2, d3, d4] }
  | _ => none }
def firstRow : OpenClaim := { program := "ytnkdbcicphnmiaa", sum := "4ae044d22733c43cc61dfd9971a2ba5ba45fa338653ffd46639ff7a79732cb44", func := "veil/veilkeep.First", spec := "first", recurses := true, apart := false }
def FirstSaid : Prop := firstRow.holds Try.pinned (OpenSpec.ofChange firstSpec)

/-- ITS FALSE NEIGHBOUR: 'it returns false'. Refute it at one input. -/
def firstWrong : ChangeSpec := { name := "first", fn := fun _ => fun
  | [d1, d2, d3, d4] => { results := [.lit (.bool false)], args := [d1, d2, d3, d4] }
  | _ => none }
def FirstWrongFalsely : Prop := firstRow.holds Try.pinned (OpenSpec.ofChange firstWrong)

/-- 'veilkeep.Told': WHATEVER THE INPUT: true; the input reads as it did. -/
def toldSpec : ChangeSpec := { name := "told", fn := fun _ => fun
  | [d1, d2, d3, d4, d5] => { results := [.lit (.bool true)], args := [d1, d2, d3, d4, d5] }
  | _ => none }
def toldRow : OpenClaim := { program := "ytnkdbcicphnmiaa", sum := "4ae044d22733c43cc61dfd9971a2ba5ba45fa338653ffd46639ff7a79732cb44", func := "veil/veilkeep.Told", spec := "told", recurses := true, apart := false }
def ToldSaid : Prop := toldRow.holds Try.pinned (OpenSpec.ofChange toldSpec)

/-- ITS FALSE NEIGHBOUR: 'it returns false'. Refute it at one input. -/
def toldWrong : ChangeSpec := { name := "told", fn := fun _ => fun
  | [d1, d2, d3, d4, d5] => { results := [.lit (.bool false)], args := [d1, d2, d3, d4, d5] }
  | _ => none }
def ToldWrongFalsely : Prop := toldRow.holds Try.pinned (OpenSpec.ofChange toldWrong)

/- THE SECOND FORM. 'bulk': how many values and letters a reading holds, each counted each time it is reached (what is shared counts as often as it is met; a slice's spare places count too). A statement '..UptoSaid' is the law's where the arguments, and the package variables that the reading takes, are together of bulk at most 1048576: NARROWER than '..Said'. Prove '..Said' where nothing that the law and all that it calls make is longer than what came in: it says more and counts as full. Else prove '..UptoSaid'. A law counts once. -/
mutual
def uptoBulk {H : Type} : DataW H → Nat
  | .lit (.string bytes) => bytes.length + 1
  | .lit _ => 1
  | .nil => 1
  | .ptr d => uptoBulk d + 1
  | .slice elems spare => uptoBulkAll elems + uptoBulkAll spare + 1
  | .agg parts => uptoBulkAll parts + 1
  | .iface _ d => uptoBulk d + 1
  | .map entries => uptoBulkEntries entries + 1
  | .held _ => 1
def uptoBulkAll {H : Type} : List (DataW H) → Nat
  | [] => 0
  | d :: r => uptoBulk d + uptoBulkAll r
def uptoBulkEntries {H : Type} : List (Lit × DataW H) → Nat
  | [] => 0
  | x :: r => uptoBulkEntry x + uptoBulkEntries r
def uptoBulkEntry {H : Type} : Lit × DataW H → Nat
  | (.string bytes, d) => bytes.length + uptoBulk d + 1
  | (_, d) => uptoBulk d + 1
 end
def uptoSmall : (H : Type) → List (DataW H) → Bool := fun _ ds => decide (uptoBulkAll ds ≤ 1048576)
def OpenSpec.upto (s : _root_.Go.ChangeSpec) : _root_.Go.OpenSpec := { _root_.Go.OpenSpec.ofChange s with cond := some uptoSmall }

/-- 'veillaw.Runs', WHERE WHAT IT READS IS OF BULK AT MOST 1048576: true; the input reads as it did. -/
def runsUptoRow : OpenClaim := { program := "ytnkdbcicphnmiaa", sum := "4ae044d22733c43cc61dfd9971a2ba5ba45fa338653ffd46639ff7a79732cb44", func := "veil/veillaw.Runs", spec := "runs", apart := false, narrowed := true }
def RunsUptoSaid : Prop := runsUptoRow.holds Try.pinned (OpenSpec.upto runsSpec)

/-- 'veillaw.Codes', WHERE WHAT IT READS IS OF BULK AT MOST 1048576: true; the input reads as it did. -/
def codesUptoRow : OpenClaim := { program := "ytnkdbcicphnmiaa", sum := "4ae044d22733c43cc61dfd9971a2ba5ba45fa338653ffd46639ff7a79732cb44", func := "veil/veillaw.Codes", spec := "codes", recurses := true, apart := false, narrowed := true }
def CodesUptoSaid : Prop := codesUptoRow.holds Try.pinned (OpenSpec.upto codesSpec)

/-- 'veillaw.Checks', WHERE WHAT IT READS IS OF BULK AT MOST 1048576: true; the input reads as it did. -/
def checksUptoRow : OpenClaim := { program := "ytnkdbcicphnmiaa", sum := "4ae044d22733c43cc61dfd9971a2ba5ba45fa338653ffd46639ff7a79732cb44", func := "veil/veillaw.Checks", spec := "checks", recurses := true, apart := false, narrowed := true }
def ChecksUptoSaid : Prop := checksUptoRow.holds Try.pinned (OpenSpec.upto checksSpec)

/-- 'veillaw.Witnesses', WHERE WHAT IT READS IS OF BULK AT MOST 1048576: true; the input reads as it did. -/
def witnessesUptoRow : OpenClaim := { program := "ytnkdbcicphnmiaa", sum := "4ae044d22733c43cc61dfd9971a2ba5ba45fa338653ffd46639ff7a79732cb44", func := "veil/veillaw.Witnesses", spec := "witnesses", recurses := true, apart := false, narrowed := true }
def WitnessesUptoSaid : Prop := witnessesUptoRow.holds Try.pinned (OpenSpec.upto witnessesSpec)

/-- 'veillaw.Differs', WHERE WHAT IT READS IS OF BULK AT MOST 1048576: true; the input reads as it did. -/
def differsUptoRow : OpenClaim := { program := "ytnkdbcicphnmiaa", sum := "4ae044d22733c43cc61dfd9971a2ba5ba45fa338653ffd46639ff7a79732cb44", func := "veil/veillaw.Differs", spec := "differs", recurses := true, apart := false, narrowed := true }
def DiffersUptoSaid : Prop := differsUptoRow.holds Try.pinned (OpenSpec.upto differsSpec)

/-- 'veilkeep.Veiled', WHERE WHAT IT READS IS OF BULK AT MOST 1048576: true; the input reads as it did. -/
def veiledUptoRow : OpenClaim := { program := "ytnkdbcicphnmiaa", sum := "4ae044d22733c43cc61dfd9971a2ba5ba45fa338653ffd46639ff7a79732cb44", func := "veil/veilkeep.Veiled", spec := "veiled", recurses := true, apart := false, narrowed := true }
def VeiledUptoSaid : Prop := veiledUptoRow.holds Try.pinned (OpenSpec.upto veiledSpec)

/-- 'veilkeep.Judges', WHERE WHAT IT READS IS OF BULK AT MOST 1048576: true; the input reads as it did. -/
def judgesUptoRow : OpenClaim := { program := "ytnkdbcicphnmiaa", sum := "4ae044d22733c43cc61dfd9971a2ba5ba45fa338653ffd46639ff7a79732cb44", func := "veil/veilkeep.Judges", spec := "judges", recurses := true, apart := false, narrowed := true }
def JudgesUptoSaid : Prop := judgesUptoRow.holds Try.pinned (OpenSpec.upto judgesSpec)

/-- 'veilkeep.First', WHERE WHAT IT READS IS OF BULK AT MOST 1048576: true; the input reads as it did. -/
def firstUptoRow : OpenClaim := { program := "ytnkdbcicphnmiaa", sum := "4ae044d22733c43cc61dfd9971a2ba5ba45fa338653ffd46639ff7a79732cb44", func := "veil/veilkeep.First", spec := "first", recurses := true, apart := false, narrowed := true }
def FirstUptoSaid : Prop := firstUptoRow.holds Try.pinned (OpenSpec.upto firstSpec)

/-- 'veilkeep.Told', WHERE WHAT IT READS IS OF BULK AT MOST 1048576: true; the input reads as it did. -/
def toldUptoRow : OpenClaim := { program := "ytnkdbcicphnmiaa", sum := "4ae044d22733c43cc61dfd9971a2ba5ba45fa338653ffd46639ff7a79732cb44", func := "veil/veilkeep.Told", spec := "told", recurses := true, apart := false, narrowed := true }
def ToldUptoSaid : Prop := toldUptoRow.holds Try.pinned (OpenSpec.upto toldSpec)

end Rows
end Go.Proofs.Ytnkdbcicphnmiaa
