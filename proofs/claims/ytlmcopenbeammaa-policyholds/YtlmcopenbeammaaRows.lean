/-
  No cell of these rows narrows 'for every input' (looked for: loops, veiled, ifaces, maps, wideKeys, modest, calm, conditions, laid).
  DERIVED. THE GIVEN ROWS OF THIS SEAT. 3 by the template 'for every input the law returns true; each argument reads behind the call as it read before'; 0 by the template 'total and deterministic' (their statements: YtlmcopenbeammaaTotals.lean).
  GIVEN WITH THE SEED: the statements are not yours to turn. If you find one false, say at which input.
  Laid BY PROGRAM, IN A SANDBOX (cutbox-rows.mjs): the forced cells as the released guide's own fill.sh prints them over the translation 6538d65a39fb4839… (all of the seat's roots in one cut). By AI agents, Wed Nov 11 2026. No macro, syntax, notation, axiom, sorry.
-/
import Derived.Test.YtlmcopenbeammaaChecked
import GoSem.Claim
import GoSem.ClaimJoined
import GoSem.ClaimMapViews
import Derived.JoinedTies
import Derived.KernelRfl
namespace Go.Proofs.Ytlmcopenbeammaa
/- THE CELL 'sum', in the pinned program and in every row, IS THE sha256 OF THE DUMP (.gsa) THAT YtlmcopenbeammaaProg.lean LOADS. Nothing in Lean hashes anything: it is a label: what it is worth is what the hold of that sum in a sandbox is worth. -/
noncomputable def Try.pinned : Pinned := { name := "ytlmcopenbeammaa", sum := "6538d65a39fb4839a862eaeeba148be8f4c6e35836d9dc014786e10d0182568b", checked := Try.checked }
namespace Rows
def none {H : Type} : Left H := { results := [], args := [] }

/-- 'pantrylaw11.PolicyHolds': WHATEVER THE INPUT: true; the input reads as it did. -/
def policyHoldsSpec : ChangeSpec := { name := "policyHolds", fn := fun _ => fun
  | [d1, d2, d3] => { results := [.lit (.bool true)], args := [d1, d2, d3] }
  | _ => none }
def policyHoldsRow : OpenClaim := { program := "ytlmcopenbeammaa", sum := "6538d65a39fb4839a862eaeeba148be8f4c6e35836d9dc014786e10d0182568b", func := "pantry/pantrylaw11.PolicyHolds", spec := "policyHolds", unfollowed := true, recurses := true, apart := false }
def PolicyHoldsSaid : Prop := policyHoldsRow.holds Try.pinned (OpenSpec.ofChange policyHoldsSpec)

/-- ITS FALSE NEIGHBOUR: 'it returns false'. Refute it at one input. -/
def policyHoldsWrong : ChangeSpec := { name := "policyHolds", fn := fun _ => fun
  | [d1, d2, d3] => { results := [.lit (.bool false)], args := [d1, d2, d3] }
  | _ => none }
def PolicyHoldsWrongFalsely : Prop := policyHoldsRow.holds Try.pinned (OpenSpec.ofChange policyHoldsWrong)

/-- 'pantrylaw11.PolicyKeeps': WHATEVER THE INPUT: true; the input reads as it did. -/
def policyKeepsSpec : ChangeSpec := { name := "policyKeeps", fn := fun _ => fun
  | [d1, d2, d3] => { results := [.lit (.bool true)], args := [d1, d2, d3] }
  | _ => none }
def policyKeepsRow : OpenClaim := { program := "ytlmcopenbeammaa", sum := "6538d65a39fb4839a862eaeeba148be8f4c6e35836d9dc014786e10d0182568b", func := "pantry/pantrylaw11.PolicyKeeps", spec := "policyKeeps", unfollowed := true, recurses := true, apart := false }
def PolicyKeepsSaid : Prop := policyKeepsRow.holds Try.pinned (OpenSpec.ofChange policyKeepsSpec)

/-- ITS FALSE NEIGHBOUR: 'it returns false'. Refute it at one input. -/
def policyKeepsWrong : ChangeSpec := { name := "policyKeeps", fn := fun _ => fun
  | [d1, d2, d3] => { results := [.lit (.bool false)], args := [d1, d2, d3] }
  | _ => none }
def PolicyKeepsWrongFalsely : Prop := policyKeepsRow.holds Try.pinned (OpenSpec.ofChange policyKeepsWrong)

/-- 'pantrylaw11.PolicySingle': WHATEVER THE INPUT: true; the input reads as it did. -/
def policySingleSpec : ChangeSpec := { name := "policySingle", fn := fun _ => fun
  | [d1, d2, d3] => { results := [.lit (.bool true)], args := [d1, d2, d3] }
  | _ => none }
def policySingleRow : OpenClaim := { program := "ytlmcopenbeammaa", sum := "6538d65a39fb4839a862eaeeba148be8f4c6e35836d9dc014786e10d0182568b", func := "pantry/pantrylaw11.PolicySingle", spec := "policySingle", unfollowed := true, recurses := true, apart := false }
def PolicySingleSaid : Prop := policySingleRow.holds Try.pinned (OpenSpec.ofChange policySingleSpec)

/-- ITS FALSE NEIGHBOUR: 'it returns false'. Refute it at one input. -/
def policySingleWrong : ChangeSpec := { name := "policySingle", fn := fun _ => fun
  | [d1, d2, d3] => { results := [.lit (.bool false)], args := [d1, d2, d3] }
  | _ => none }
def PolicySingleWrongFalsely : Prop := policySingleRow.holds Try.pinned (OpenSpec.ofChange policySingleWrong)

/- THE SECOND FORM. 'bulk': how many values and letters a reading holds, each counted each time it is reached (what is shared counts as often as it is met; a slice's spare places count too). A statement '..UptoSaid' is the law's where the arguments, and the package variables that the reading takes, are together of bulk at most 1048576: NARROWER than '..Said'. Prove '..Said' where nothing that the law and all that it calls make is longer than what came in: it says more and counts as full. Else prove '..UptoSaid'. A law counts once. -/
mutual
def uptoBulk {H : Type} : DataW H → Nat
  | .lit (.string bytes) => bytes.length + 1
  | .lit _ => 1
  | .nil => 1
  | .ptr d => uptoBulk d + 1
  | .slice elems spare => uptoBulkAll elems + uptoBulkAll spare + 1
  | .agg parts => uptoBulkAll parts + 1
  | .iface _ d => uptoBulk d + 1
  | .map entries => uptoBulkEntries entries + 1
  | .held _ => 1
def uptoBulkAll {H : Type} : List (DataW H) → Nat
  | [] => 0
  | d :: r => uptoBulk d + uptoBulkAll r
def uptoBulkEntries {H : Type} : List (Lit × DataW H) → Nat
  | [] => 0
  | x :: r => uptoBulkEntry x + uptoBulkEntries r
def uptoBulkEntry {H : Type} : Lit × DataW H → Nat
  | (.string bytes, d) => bytes.length + uptoBulk d + 1
  | (_, d) => uptoBulk d + 1
 end
def uptoSmall : (H : Type) → List (DataW H) → Bool := fun _ ds => decide (uptoBulkAll ds ≤ 1048576)
def OpenSpec.upto (s : _root_.Go.ChangeSpec) : _root_.Go.OpenSpec := { _root_.Go.OpenSpec.ofChange s with cond := some uptoSmall }

/-- 'pantrylaw11.PolicyHolds', WHERE WHAT IT READS IS OF BULK AT MOST 1048576: true; the input reads as it did. -/
def policyHoldsUptoRow : OpenClaim := { program := "ytlmcopenbeammaa", sum := "6538d65a39fb4839a862eaeeba148be8f4c6e35836d9dc014786e10d0182568b", func := "pantry/pantrylaw11.PolicyHolds", spec := "policyHolds", unfollowed := true, recurses := true, apart := false, narrowed := true }
def PolicyHoldsUptoSaid : Prop := policyHoldsUptoRow.holds Try.pinned (OpenSpec.upto policyHoldsSpec)

/-- 'pantrylaw11.PolicyKeeps', WHERE WHAT IT READS IS OF BULK AT MOST 1048576: true; the input reads as it did. -/
def policyKeepsUptoRow : OpenClaim := { program := "ytlmcopenbeammaa", sum := "6538d65a39fb4839a862eaeeba148be8f4c6e35836d9dc014786e10d0182568b", func := "pantry/pantrylaw11.PolicyKeeps", spec := "policyKeeps", unfollowed := true, recurses := true, apart := false, narrowed := true }
def PolicyKeepsUptoSaid : Prop := policyKeepsUptoRow.holds Try.pinned (OpenSpec.upto policyKeepsSpec)

/-- 'pantrylaw11.PolicySingle', WHERE WHAT IT READS IS OF BULK AT MOST 1048576: true; the input reads as it did. -/
def policySingleUptoRow : OpenClaim := { program := "ytlmcopenbeammaa", sum := "6538d65a39fb4839a862eaeeba148be8f4c6e35836d9dc014786e10d0182568b", func := "pantry/pantrylaw11.PolicySingle", spec := "policySingle", unfollowed := true, recurses := true, apart := false, narrowed := true }
def PolicySingleUptoSaid : Prop := policySingleUptoRow.holds Try.pinned (OpenSpec.upto policySingleSpec)

end Rows
end Go.Proofs.Ytlmcopenbeammaa
