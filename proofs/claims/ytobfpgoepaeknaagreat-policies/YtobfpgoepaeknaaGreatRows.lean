/-
  No cell of these rows narrows 'for every input' (looked for: loops, veiled, ifaces, maps, wideKeys, modest, calm, conditions, laid).
  DERIVED. THE GIVEN ROWS OF THIS SEAT. 3 by the template 'for every input the law returns true; each argument reads behind the call as it read before'; 0 by the template 'total and deterministic' (their statements: YtobfpgoepaeknaaGreatTotals.lean).
  GIVEN WITH THE SEED: the statements are not yours to turn. If you find one false, say at which input.
  Laid BY PROGRAM, IN A SANDBOX (cutbox-rows.mjs): the forced cells as the released guide's own fill.sh prints them over the translation f2e3dd47ad45312e… (all of the seat's roots in one cut). By AI agents, Wed Nov 11 2026. No macro, syntax, notation, axiom, sorry.
-/
import Derived.Test.YtobfpgoepaeknaaGreatChecked
import GoSem.Claim
import GoSem.ClaimJoined
import GoSem.ClaimMapViews
import Derived.JoinedTies
import Derived.KernelRfl
namespace Go.Proofs.YtobfpgoepaeknaaGreat
/- THE CELL 'sum', in the pinned program and in every row, IS THE sha256 OF THE DUMP (.gsa) THAT YtobfpgoepaeknaaGreatProg.lean LOADS. Nothing in Lean hashes anything: it is a label: what it is worth is what the hold of that sum in a sandbox is worth. -/
noncomputable def Tryz.pinned : Pinned := { name := "ytobfpgoepaeknaagreat", sum := "f2e3dd47ad45312eff56a6b85295515a511701fe867bbd7b855f0f8fb06d03af", checked := Tryz.checked }
namespace Rows
def none {H : Type} : Left H := { results := [], args := [] }

/-- 'veillaw.Tables': WHATEVER THE INPUT: true; the input reads as it did. -/
def tablesSpec : ChangeSpec := { name := "tables", fn := fun _ => fun
  | [d] => { results := [.lit (.bool true)], args := [d] }
  | _ => none }
def tablesRow : OpenClaim := { program := "ytobfpgoepaeknaagreat", sum := "f2e3dd47ad45312eff56a6b85295515a511701fe867bbd7b855f0f8fb06d03af", func := "veil/veillaw.Tables", spec := "tables", recurses := true, apart := false }
def TablesSaid : Prop := tablesRow.holds Tryz.pinned (OpenSpec.ofChange tablesSpec)

/-- ITS FALSE NEIGHBOUR: 'it returns false'. Refute it at one input. -/
def tablesWrong : ChangeSpec := { name := "tables", fn := fun _ => fun
  | [d] => { results := [.lit (.bool false)], args := [d] }
  | _ => none }
def TablesWrongFalsely : Prop := tablesRow.holds Tryz.pinned (OpenSpec.ofChange tablesWrong)

/-- 'veillaw.Policies': WHATEVER THE INPUT: true; the input reads as it did. -/
def policiesSpec : ChangeSpec := { name := "policies", fn := fun _ => fun
  | [d1, d2, d3] => { results := [.lit (.bool true)], args := [d1, d2, d3] }
  | _ => none }
def policiesRow : OpenClaim := { program := "ytobfpgoepaeknaagreat", sum := "f2e3dd47ad45312eff56a6b85295515a511701fe867bbd7b855f0f8fb06d03af", func := "veil/veillaw.Policies", spec := "policies", recurses := true, apart := false }
def PoliciesSaid : Prop := policiesRow.holds Tryz.pinned (OpenSpec.ofChange policiesSpec)

/-- ITS FALSE NEIGHBOUR: 'it returns false'. Refute it at one input. -/
def policiesWrong : ChangeSpec := { name := "policies", fn := fun _ => fun
  | [d1, d2, d3] => { results := [.lit (.bool false)], args := [d1, d2, d3] }
  | _ => none }
def PoliciesWrongFalsely : Prop := policiesRow.holds Tryz.pinned (OpenSpec.ofChange policiesWrong)

/-- 'veilkeep.Meant': WHATEVER THE INPUT: true; the input reads as it did. -/
def meantSpec : ChangeSpec := { name := "meant", fn := fun _ => fun
  | [d1, d2, d3, d4] => { results := [.lit (.bool true)], args := [d1, d2, d3, d4] }
  | _ => none }
def meantRow : OpenClaim := { program := "ytobfpgoepaeknaagreat", sum := "f2e3dd47ad45312eff56a6b85295515a511701fe867bbd7b855f0f8fb06d03af", func := "veil/veilkeep.Meant", spec := "meant", recurses := true, apart := false }
def MeantSaid : Prop := meantRow.holds Tryz.pinned (OpenSpec.ofChange meantSpec)

/-- ITS FALSE NEIGHBOUR: 'it returns false'. Refute it at one input. -/
def meantWrong : ChangeSpec := { name := "meant", fn := fun _ => fun
  | [d1, d2, d3, d4] => { results := [.lit (.bool false)], args := [d1, d2, d3, d4] }
  | _ => none }
def MeantWrongFalsely : Prop := meantRow.holds Tryz.pinned (OpenSpec.ofChange meantWrong)

/- THE SECOND FORM. 'bulk': how many values and letters a reading holds, each counted each time it is reached (what is shared counts as often as it is met; a slice's spare places count too). A statement '..UptoSaid' is the law's where the arguments, and the package variables that the reading takes, are together of bulk at most 1048576: NARROWER than '..Said'. Prove '..Said' where nothing that the law and all that it calls make is longer than what came in: it says more and counts as full. Else prove '..UptoSaid'. A law counts once. -/
mutual
def uptoBulk {H : Type} : DataW H → Nat
  | .lit (.string bytes) => bytes.length + 1
  | .lit _ => 1
  | .nil => 1
  | .ptr d => uptoBulk d + 1
  | .slice elems spare => uptoBulkAll elems + uptoBulkAll spare + 1
  | .agg parts => uptoBulkAll parts + 1
  | .iface _ d => uptoBulk d + 1
  | .map entries => uptoBulkEntries entries + 1
  | .held _ => 1
def uptoBulkAll {H : Type} : List (DataW H) → Nat
  | [] => 0
  | d :: r => uptoBulk d + uptoBulkAll r
def uptoBulkEntries {H : Type} : List (Lit × DataW H) → Nat
  | [] => 0
  | x :: r => uptoBulkEntry x + uptoBulkEntries r
def uptoBulkEntry {H : Type} : Lit × DataW H → Nat
  | (.string bytes, d) => bytes.length + uptoBulk d + 1
  | (_, d) => uptoBulk d + 1
 end
def uptoSmall : (H : Type) → List (DataW H) → Bool := fun _ ds => decide (uptoBulkAll ds ≤ 1048576)
def OpenSpec.upto (s : _root_.Go.ChangeSpec) : _root_.Go.OpenSpec := { _root_.Go.OpenSpec.ofChange s with cond := some uptoSmall }

/-- 'veillaw.Tables', WHERE WHAT IT READS IS OF BULK AT MOST 1048576: true; the input reads as it did. -/
def tablesUptoRow : OpenClaim := { program := "ytobfpgoepaeknaagreat", sum := "f2e3dd47ad45312eff56a6b85295515a511701fe867bbd7b855f0f8fb06d03af", func := "veil/veillaw.Tables", spec := "tables", recurses := true, apart := false, narrowed := true }
def TablesUptoSaid : Prop := tablesUptoRow.holds Tryz.pinned (OpenSpec.upto tablesSpec)

/-- 'veillaw.Policies', WHERE WHAT IT READS IS OF BULK AT MOST 1048576: true; the input reads as it did. -/
def policiesUptoRow : OpenClaim := { program := "ytobfpgoepaeknaagreat", sum := "f2e3dd47ad45312eff56a6b85295515a511701fe867bbd7b855f0f8fb06d03af", func := "veil/veillaw.Policies", spec := "policies", recurses := true, apart := false, narrowed := true }
def PoliciesUptoSaid : Prop := policiesUptoRow.holds Tryz.pinned (OpenSpec.upto policiesSpec)

/-- 'veilkeep.Meant', WHERE WHAT IT READS IS OF BULK AT MOST 1048576: true; the input reads as it did. -/
def meantUptoRow : OpenClaim := { program := "ytobfpgoepaeknaagreat", sum := "f2e3dd47ad45312eff56a6b85295515a511701fe867bbd7b855f0f8fb06d03af", func := "veil/veilkeep.Meant", spec := "meant", recurses := true, apart := false, narrowed := true }
def MeantUptoSaid : Prop := meantUptoRow.holds Tryz.pinned (OpenSpec.upto meantSpec)

end Rows
end Go.Proofs.YtobfpgoepaeknaaGreat
