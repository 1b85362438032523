/-
  No cell of these rows narrows 'for every input' (looked for: loops, veiled, ifaces, maps, wideKeys, modest, calm, conditions, laid).
  DERIVED. THE GIVEN ROWS OF THIS SEAT. 3 by the template 'for every input the law returns true; each argument reads behind the call as it read before'; 0 by the template 'total and deterministic' (their statements: YtlmcopenbeammaaGreatTotals.lean).
  GIVEN WITH THE SEED: the statements are not yours to turn. If you find one false, say at which input.
  Laid BY PROGRAM, IN A SANDBOX (cutbox-rows.mjs): the forced cells as the released guide's own fill.sh prints them over the translation 45068aae2d926aa3… (all of the seat's roots in one cut). By AI agents, Wed Nov 11 2026. No macro, syntax, notation, axiom, sorry.
-/
import Derived.Test.YtlmcopenbeammaaGreatChecked
import GoSem.Claim
import GoSem.ClaimJoined
import GoSem.ClaimMapViews
import Derived.JoinedTies
import Derived.KernelRfl
namespace Go.Proofs.YtlmcopenbeammaaGreat
/- THE CELL 'sum', in the pinned program and in every row, IS THE sha256 OF THE DUMP (.gsa) THAT YtlmcopenbeammaaGreatProg.lean LOADS. Nothing in Lean hashes anything: it is a label: what it is worth is what the hold of that sum in a sandbox is worth. -/
noncomputable def Tryz.pinned : Pinned := { name := "ytlmcopenbeammaagreat", sum := "45068aae2d926aa36d28276f086f59498f67104699e878b30581b1a0b82ba47c", checked := Tryz.checked }
namespace Rows
def none {H : Type} : Left H := { results := [], args := [] }

/-- 'pantrylaw11.PolicyRow': WHATEVER THE INPUT: true; the input reads as it did. -/
def policyRowSpec : ChangeSpec := { name := "policyRow", fn := fun _ => fun
  | [d1, d2, d3] => { results := [.lit (.bool true)], args := [d1, d2, d3] }
  | _ => none }
def policyRowRow : OpenClaim := { program := "ytlmcopenbeammaagreat", sum := "45068aae2d926aa36d28276f086f59498f67104699e878b30581b1a0b82ba47c", func := "pantry/pantrylaw11.PolicyRow", spec := "policyRow", unfollowed := true, recurses := true, apart := false }
def PolicyRowSaid : Prop := policyRowRow.holds Tryz.pinned (OpenSpec.ofChange policyRowSpec)

/-- ITS FALSE NEIGHBOUR: 'it returns false'. Refute it at one input. -/
def policyRowWrong : ChangeSpec := { name := "policyRow", fn := fun _ => fun
  | [d1, d2, d3] => { results := [.lit (.bool false)], args := [d1, d2, d3] }
  | _ => none }
def PolicyRowWrongFalsely : Prop := policyRowRow.holds Tryz.pinned (OpenSpec.ofChange policyRowWrong)

/-- 'pantrylaw11.PolicyHot': WHATEVER THE INPUT: true; the input reads as it did. -/
def policyHotSpec : ChangeSpec := { name := "policyHot", fn := fun _ => fun
  | [d1, d2, d3, d4] => { results := [.lit (.bool true)], args := [d1, d2, d3, d4] }
  | _ => none }
def policyHotRow : OpenClaim := { program := "ytlmcopenbeammaagreat", sum := "45068aae2d926aa36d28276f086f59498f67104699e878b30581b1a0b82ba47c", func := "pantry/pantrylaw11.PolicyHot", spec := "policyHot", unfollowed := true, recurses := true, apart := false }
def PolicyHotSaid : Prop := policyHotRow.holds Tryz.pinned (OpenSpec.ofChange policyHotSpec)

/-- ITS FALSE NEIGHBOUR: 'it returns false'. Refute it at one input. -/
def policyHotWrong : ChangeSpec := { name := "policyHot", fn := fun _ => fun
  | [d1, d2, d3, d4] => { results := [.lit (.bool false)], args := [d1, d2, d3, d4] }
  | _ => none }
def PolicyHotWrongFalsely : Prop := policyHotRow.holds Tryz.pinned (OpenSpec.ofChange policyHotWrong)

/-- 'pantrylaw11.PolicyErrors': WHATEVER THE INPUT: true; the input reads as it did. -/
def policyErrorsSpec : ChangeSpec := { name := "policyErrors", fn := fun _ => fun
  | [d1, d2, d3, d4] => { results := [.lit (.bool true)], args := [d1, d2, d3, d4] }
  | _ => none }
def policyErrorsRow : OpenClaim := { program := "ytlmcopenbeammaagreat", sum := "45068aae2d926aa36d28276f086f59498f67104699e878b30581b1a0b82ba47c", func := "pantry/pantrylaw11.PolicyErrors", spec := "policyErrors", unfollowed := true, recurses := true, apart := false }
def PolicyErrorsSaid : Prop := policyErrorsRow.holds Tryz.pinned (OpenSpec.ofChange policyErrorsSpec)

/-- ITS FALSE NEIGHBOUR: 'it returns false'. Refute it at one input. -/
def policyErrorsWrong : ChangeSpec := { name := "policyErrors", fn := fun _ => fun
  | [d1, d2, d3, d4] => { results := [.lit (.bool false)], args := [d1, d2, d3, d4] }
  | _ => none }
def PolicyErrorsWrongFalsely : Prop := policyErrorsRow.holds Tryz.pinned (OpenSpec.ofChange policyErrorsWrong)

/- THE SECOND FORM. 'bulk': how many values and letters a reading holds, each counted each time it is reached (what is shared counts as often as it is met; a slice's spare places count too). A statement '..UptoSaid' is the law's where the arguments, and the package variables that the reading takes, are together of bulk at most 1048576: NARROWER than '..Said'. Prove '..Said' where nothing that the law and all that it calls make is longer than what came in: it says more and counts as full. Else prove '..UptoSaid'. A law counts once. -/
mutual
def uptoBulk {H : Type} : DataW H → Nat
  | .lit (.string bytes) => bytes.length + 1
  | .lit _ => 1
  | .nil => 1
  | .ptr d => uptoBulk d + 1
  | .slice elems spare => uptoBulkAll elems + uptoBulkAll spare + 1
  | .agg parts => uptoBulkAll parts + 1
  | .iface _ d => uptoBulk d + 1
  | .map entries => uptoBulkEntries entries + 1
  | .held _ => 1
def uptoBulkAll {H : Type} : List (DataW H) → Nat
  | [] => 0
  | d :: r => uptoBulk d + uptoBulkAll r
def uptoBulkEntries {H : Type} : List (Lit × DataW H) → Nat
  | [] => 0
  | x :: r => uptoBulkEntry x + uptoBulkEntries r
def uptoBulkEntry {H : Type} : Lit × DataW H → Nat
  | (.string bytes, d) => bytes.length + uptoBulk d + 1
  | (_, d) => uptoBulk d + 1
 end
def uptoSmall : (H : Type) → List (DataW H) → Bool := fun _ ds => decide (uptoBulkAll ds ≤ 1048576)
def OpenSpec.upto (s : _root_.Go.ChangeSpec) : _root_.Go.OpenSpec := { _root_.Go.OpenSpec.ofChange s with cond := some uptoSmall }

/-- 'pantrylaw11.PolicyRow', WHERE WHAT IT READS IS OF BULK AT MOST 1048576: true; the input reads as it did. -/
def policyRowUptoRow : OpenClaim := { program := "ytlmcopenbeammaagreat", sum := "45068aae2d926aa36d28276f086f59498f67104699e878b30581b1a0b82ba47c", func := "pantry/pantrylaw11.PolicyRow", spec := "policyRow", unfollowed := true, recurses := true, apart := false, narrowed := true }
def PolicyRowUptoSaid : Prop := policyRowUptoRow.holds Tryz.pinned (OpenSpec.upto policyRowSpec)

/-- 'pantrylaw11.PolicyHot', WHERE WHAT IT READS IS OF BULK AT MOST 1048576: true; the input reads as it did. -/
def policyHotUptoRow : OpenClaim := { program := "ytlmcopenbeammaagreat", sum := "45068aae2d926aa36d28276f086f59498f67104699e878b30581b1a0b82ba47c", func := "pantry/pantrylaw11.PolicyHot", spec := "policyHot", unfollowed := true, recurses := true, apart := false, narrowed := true }
def PolicyHotUptoSaid : Prop := policyHotUptoRow.holds Tryz.pinned (OpenSpec.upto policyHotSpec)

/-- 'pantrylaw11.PolicyErrors', WHERE WHAT IT READS IS OF BULK AT MOST 1048576: true; the input reads as it did. -/
def policyErrorsUptoRow : OpenClaim := { program := "ytlmcopenbeammaagreat", sum := "45068aae2d926aa36d28276f086f59498f67104699e878b30581b1a0b82ba47c", func := "pantry/pantrylaw11.PolicyErrors", spec := "policyErrors", unfollowed := true, recurses := true, apart := false, narrowed := true }
def PolicyErrorsUptoSaid : Prop := policyErrorsUptoRow.holds Tryz.pinned (OpenSpec.upto policyErrorsSpec)

end Rows
end Go.Proofs.YtlmcopenbeammaaGreat
