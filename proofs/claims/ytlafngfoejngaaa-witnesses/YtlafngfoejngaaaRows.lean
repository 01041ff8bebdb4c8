/-
  No cell of these rows narrows 'for every input' (looked for: loops, veiled, ifaces, maps, wideKeys, modest, calm, conditions, laid).
  DERIVED. THE GIVEN ROWS OF THIS SEAT. 4 by the template 'for every input the law returns true; each argument reads behind the call as it read before'; 0 by the template 'total and deterministic' (their statements: YtlafngfoejngaaaTotals.lean).
  GIVEN WITH THE SEED: the statements are not yours to turn. If you find one false, say at which input.
  Laid BY PROGRAM, IN A SANDBOX (cutbox-rows.mjs): the forced cells as the released guide's own fill.sh prints them over the translation 43d4dc3214556278… (all of the seat's roots in one cut). By AI agents, Wed Nov 11 2026. No macro, syntax, notation, axiom, sorry.
-/
import Derived.Test.YtlafngfoejngaaaChecked
import GoSem.Claim
import GoSem.ClaimJoined
import GoSem.ClaimMapViews
import Derived.JoinedTies
import Derived.KernelRfl
namespace Go.Proofs.Ytlafngfoejngaaa
/- THE CELL 'sum', in the pinned program and in every row, IS THE sha256 OF THE DUMP (.gsa) THAT YtlafngfoejngaaaProg.lean LOADS. Nothing in Lean hashes anything: it is a label: what it is worth is what the hold of that sum in a sandbox is worth. -/
noncomputable def Try.pinned : Pinned := { name := "ytlafngfoejngaaa", sum := "43d4dc32145562787b0de96da6db92ec2c89e17baff43c3b219051b1a3f019da", checked := Try.checked }
namespace Rows
def none {H : Type} : Left H := { results := [], args := [] }

/-- 'veillaw.Witnesses': WHATEVER THE INPUT: true; the input reads as it did. -/
def witnessesSpec : ChangeSpec := { name := "witnesses", fn := fun _ => fun
  | [d] => { results := [.lit (.bool true)], args := [d] }
  | _ => none }
def witnessesRow : OpenClaim := { program := "ytlafngfoejngaaa", sum := "43d4dc32145562787b0de96da6db92ec2c89e17baff43c3b219051b1a3f019da", func := "veil/veillaw.Witnesses", spec := "witnesses", recurses := true, apart := false }
def WitnessesSaid : Prop := witnessesRow.holds Try.pinned (OpenSpec.ofChange witnessesSpec)

/-- ITS FALSE NEIGHBOUR: 'it returns false'. Refute it at one input. -/
def witnessesWrong : ChangeSpec := { name := "witnesses", fn := fun _ => fun
  | [d] => { results := [.lit (.bool false)], args := [d] }
  | _ => none }
def WitnessesWrongFalsely : Prop := witnessesRow.holds Try.pinned (OpenSpec.ofChange witnessesWrong)

/-- 'veillaw.Differs': WHATEVER THE INPUT: true; the input reads as it did. -/
def differsSpec : ChangeSpec := { name := "differs", fn := fun _ => fun
  | [d1, d2] => { results := [.lit (.bool true)], args := [d1, d2] }
  | _ => none }
def differsRow : OpenClaim := { program := "ytlafngfoejngaaa", sum := "43d4dc32145562787b0de96da6db92ec2c89e17baff43c3b219051b1a3f019da", func := "veil/veillaw.Differs", spec := "differs", recurses := true, apart := false }
def DiffersSaid : Prop := differsRow.holds Try.pinned (OpenSpec.ofChange differsSpec)

/-- ITS FALSE NEIGHBOUR: 'it returns false'. Refute it at one input. -/
def differsWrong : ChangeSpec := { name := "differs", fn := fun _ => fun
  | [d1, d2] => { results := [.lit (.bool false)], args := [d1, d2] }
  | _ => none }
def DiffersWrongFalsely : Prop := differsRow.holds Try.pinned (OpenSpec.ofChange differsWrong)

/-- 'veilkeep.First': WHATEVER THE INPUT: true; the input reads as it did. -/
def firstSpec : ChangeSpec := { name := "first", fn := fun _ => fun
  | [d1, d2, d3, d4] => { results := [.lit (.bool true)], args := [d1, d2, d3, d4] }
  | _ => none }
def firstRow : OpenClaim := { program := "ytlafngfoejngaaa", sum := "43d4dc32145562787b0de96da6db92ec2c89e17baff43c3b219051b1a3f019da", func := "veil/veilkeep.First", spec := "first", recurses := true, apart := false }
def FirstSaid : Prop := firstRow.holds Try.pinned (OpenSpec.ofChange firstSpec)

/-- ITS FALSE NEIGHBOUR: 'it returns false'. Refute it at one input. -/
def firstWrong : ChangeSpec := { name := "first", fn := fun _ => fun
  | [d1, d2, d3, d4] => { results := [.lit (.bool false)], args := [d1, d2, d3, d4] }
  | _ => none }
def FirstWrongFalsely : Prop := firstRow.holds Try.pinned (OpenSpec.ofChange firstWrong)

/-- 'veilkeep.Told': WHATEVER THE INPUT: true; the input reads as it did. -/
def toldSpec : ChangeSpec := { name := "told", fn := fun _ => fun
  | [d1, d2, d3, d4, d5] => { results := [.lit (.bool true)], args := [d1, d2, d3, d4, d5] }
  | _ => none }
def toldRow : OpenClaim := { program := "ytlafngfoejngaaa", sum := "43d4dc32145562787b0de96da6db92ec2c89e17baff43c3b219051b1a3f019da", func := "veil/veilkeep.Told", spec := "told", recurses := true, apart := false }
def ToldSaid : Prop := toldRow.holds Try.pinned (OpenSpec.ofChange toldSpec)

/-- ITS FALSE NEIGHBOUR: 'it returns false'. Refute it at one input. -/
def toldWrong : ChangeSpec := { name := "told", fn := fun _ => fun
  | [d1, d2, d3, d4, d5] => { results := [.lit (.bool false)], args := [d1, d2, d3, d4, d5] }
  | _ => none }
def ToldWrongFalsely : Prop := toldRow.holds Try.pinned (OpenSpec.ofChange toldWrong)

/- THE SECOND FORM. 'bulk': how many values and letters a reading holds, each counted each time it is reached (what is shared counts as often as it is met; a slice's spare places count too). A statement '..UptoSaid' is the law's where the arguments, and the package variables that the reading takes, are together of bulk at most 1048576: NARROWER than '..Said'. Prove '..Said' where nothing that the law and all that it calls make is longer than what came in: it says more and counts as full. Else prove '..UptoSaid'. A law counts once. -/
mutual
def uptoBulk {H : Type} : DataW H → Nat
  | .lit (.string bytes) => bytes.length + 1
  | .lit _ => 1
  | .nil => 1
  | .ptr d => uptoBulk d + 1
  | .slice elems spare => uptoBulkAll elems + uptoBulkAll spare + 1
  | .agg parts => uptoBulkAll parts + 1
  | .iface _ d => uptoBulk d + 1
  | .map entries => uptoBulkEntries entries + 1
  | .held _ => 1
def uptoBulkAll {H : Type} : List (DataW H) → Nat
  | [] => 0
  | d :: r => uptoBulk d + uptoBulkAll r
def uptoBulkEntries {H : Type} : List (Lit × DataW H) → Nat
  | [] => 0
  | x :: r => uptoBulkEntry x + uptoBulkEntries r
def uptoBulkEntry {H : Type} : Lit × DataW H → Nat
  | (.string bytes, d) => bytes.length + uptoBulk d + 1
  | (_, d) => uptoBulk d + 1
 end
def uptoSmall : (H : Type) → List (DataW H) → Bool := fun _ ds => decide (uptoBulkAll ds ≤ 1048576)
def OpenSpec.upto (s : _root_.Go.ChangeSpec) : _root_.Go.OpenSpec := { _root_.Go.OpenSpec.ofChange s with cond := some uptoSmall }

/-- 'veillaw.Witnesses', WHERE WHAT IT READS IS OF BULK AT MOST 1048576: true; the input reads as it did. -/
def witnessesUptoRow : OpenClaim := { program := "ytlafngfoejngaaa", sum := "43d4dc32145562787b0de96da6db92ec2c89e17baff43c3b219051b1a3f019da", func := "veil/veillaw.Witnesses", spec := "witnesses", recurses := true, apart := false, narrowed := true }
def WitnessesUptoSaid : Prop := witnessesUptoRow.holds Try.pinned (OpenSpec.upto witnessesSpec)

/-- 'veillaw.Differs', WHERE WHAT IT READS IS OF BULK AT MOST 1048576: true; the input reads as it did. -/
def differsUptoRow : OpenClaim := { program := "ytlafngfoejngaaa", sum := "43d4dc32145562787b0de96da6db92ec2c89e17baff43c3b219051b1a3f019da", func := "veil/veillaw.Differs", spec := "differs", recurses := true, apart := false, narrowed := true }
def DiffersUptoSaid : Prop := differsUptoRow.holds Try.pinned (OpenSpec.upto differsSpec)

/-- 'veilkeep.First', WHERE WHAT IT READS IS OF BULK AT MOST 1048576: true; the input reads as it did. -/
def firstUptoRow : OpenClaim := { program := "ytlafngfoejngaaa", sum := "43d4dc32145562787b0de96da6db92ec2c89e17baff43c3b219051b1a3f019da", func := "veil/veilkeep.First", spec := "first", recurses := true, apart := false, narrowed := true }
def FirstUptoSaid : Prop := firstUptoRow.holds Try.pinned (OpenSpec.upto firstSpec)

/-- 'veilkeep.Told', WHERE WHAT IT READS IS OF BULK AT MOST 1048576: true; the input reads as it did. -/
def toldUptoRow : OpenClaim := { program := "ytlafngfoejngaaa", sum := "43d4dc32145562787b0de96da6db92ec2c89e17baff43c3b219051b1a3f019da", func := "veil/veilkeep.Told", spec := "told", recurses := true, apart := false, narrowed := true }
def ToldUptoSaid : Prop := toldUptoRow.holds Try.pinned (OpenSpec.upto toldSpec)

end Rows
end Go.Proofs.Ytlafngfoejngaaa
