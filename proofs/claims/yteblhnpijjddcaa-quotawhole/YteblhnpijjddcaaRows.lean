/-
  No cell of these rows narrows 'for every input' (looked for: loops, veiled, ifaces, maps, wideKeys, modest, calm, conditions, laid).
  DERIVED. THE GIVEN ROWS OF THIS SEAT. 4 by the template 'for every input the law returns true; each argument reads behind the call as it read before'; 0 by the template 'total and deterministic' (their statements: YteblhnpijjddcaaTotals.lean).
  GIVEN WITH THE SEED: the statements are not yours to turn. If you find one false, say at which input.
  Laid BY PROGRAM, IN A SANDBOX (cutbox-rows.mjs): the forced cells as the released guide's own fill.sh prints them over the translation a49cd831872af51d… (all of the seat's roots in one cut). By AI agents, Wed Nov 11 2026. No macro, syntax, notation, axiom, sorry.
-/
import Derived.Test.YteblhnpijjddcaaChecked
import GoSem.Claim
import GoSem.ClaimJoined
import GoSem.ClaimMapViews
import Derived.JoinedTies
import Derived.KernelRfl
namespace Go.Proofs.Yteblhnpijjddcaa
/- THE CELL 'sum', in the pinned program and in every row, IS THE sha256 OF THE DUMP (.gsa) THAT YteblhnpijjddcaaProg.lean LOADS. Nothing in Lean hashes anything: it is a label: what it is worth is what the hold of that sum in a sandbox is worth. -/
noncomputable def Try.pinned : Pinned := { name := "yteblhnpijjddcaa", sum := "a49cd831872af51d3d128293509462215330276803095974bde57e3a760eda97", checked := Try.checked }
namespace Rows
def none {H : Type} : Left H := { results := [], args := [] }

/-- 'pantrylaw09.QuotaTells': WHATEVER THE INPUT: true; the input reads as it did. -/
def quotaTellsSpec : ChangeSpec := { name := "quotaTells", fn := fun _ => fun
  | [d1, d2, d3] => { results := [.lit (.bool true)], args := [d1, d2, d3] }
  | _ => none }
def quotaTellsRow : OpenClaim := { program := "yteblhnpijjddcaa", sum := "a49cd831872af51d3d128293509462215330276803095974bde57e3a760eda97", func := "pantry/pantrylaw09.QuotaTells", spec := "quotaTells", apart := false }
def QuotaTellsSaid : Prop := quotaTellsRow.holds Try.pinned (OpenSpec.ofChange quotaTellsSpec)

/-- ITS FALSE NEIGHBOUR: 'it returns false'. Refute it at one input. -/
def quotaTellsWrong : ChangeSpec := { name := "quotaTells", fn := fun _ => fun
  | [d1, d2, d3] => { results := [.lit (.bool false)], args := [d1, d2, d3] }
  | _ => none }
def QuotaTellsWrongFalsely : Prop := quotaTellsRow.holds Try.pinned (OpenSpec.ofChange quotaTellsWrong)

/-- 'pantrylaw09.QuotaWhole': WHATEVER THE INPUT: true; the input reads as it did. -/
def quotaWholeSpec : ChangeSpec := { name := "quotaWhole", fn := fun _ => fun
  | [d1, d2, d3] => { results := [.lit (.bool true)], args := [d1, d2, d3] }
  | _ => none }
def quotaWholeRow : OpenClaim := { program := "yteblhnpijjddcaa", sum := "a49cd831872af51d3d128293509462215330276803095974bde57e3a760eda97", func := "pantry/pantrylaw09.QuotaWhole", spec := "quotaWhole", apart := false }
def QuotaWholeSaid : Prop := quotaWholeRow.holds Try.pinned (OpenSpec.ofChange quotaWholeSpec)

/-- ITS FALSE NEIGHBOUR: 'it returns false'. Refute it at one input. -/
def quotaWholeWrong : ChangeSpec := { name := "quotaWhole", fn := fun _ => fun
  | [d1, d2, d3] => { results := [.lit (.bool false)], args := [d1, d2, d3] }
  | _ => none }
def QuotaWholeWrongFalsely : Prop := quotaWholeRow.holds Try.pinned (OpenSpec.ofChange quotaWholeWrong)

/-- 'pantrylaw09.QuotaBack': WHATEVER THE INPUT: true; the input reads as it did. -/
def quotaBackSpec : ChangeSpec := { name := "quotaBack", fn := fun _ => fun
  | [d1, d2, d3, d4] => { results := [.lit (.bool true)], args := [d1, d2, d3, d4] }
  | _ => none }
def quotaBackRow : OpenClaim := { program := "yteblhnpijjddcaa", sum := "a49cd831872af51d3d128293509462215330276803095974bde57e3a760eda97", func := "pantry/pantrylaw09.QuotaBack", spec := "quotaBack", apart := false }
def QuotaBackSaid : Prop := quotaBackRow.holds Try.pinned (OpenSpec.ofChange quotaBackSpec)

/-- ITS FALSE NEIGHBOUR: 'it returns false'. Refute it at one input. -/
def quotaBackWrong : ChangeSpec := { name := "quotaBack", fn := fun _ => fun
  | [d1, d2, d3, d4] => { results := [.lit (.bool false)], args := [d1, d2, d3, d4] }
  | _ => none }
def QuotaBackWrongFalsely : Prop := quotaBackRow.holds Try.pinned (OpenSpec.ofChange quotaBackWrong)

/-- 'pantrylaw09.QuotaEnds': WHATEVER THE INPUT: true; the input reads as it did. -/
def quotaEndsSpec : ChangeSpec := { name := "quotaEnds", fn := fun _ => fun
  | [d] => { results := [.lit (.bool true)], args := [d] }
  | _ => none }
def quotaEndsRow : OpenClaim := { program := "yteblhnpijjddcaa", sum := "a49cd831872af51d3d128293509462215330276803095974bde57e3a760eda97", func := "pantry/pantrylaw09.QuotaEnds", spec := "quotaEnds", apart := false }
def QuotaEndsSaid : Prop := quotaEndsRow.holds Try.pinned (OpenSpec.ofChange quotaEndsSpec)

/-- ITS FALSE NEIGHBOUR: 'it returns false'. Refute it at one input. -/
def quotaEndsWrong : ChangeSpec := { name := "quotaEnds", fn := fun _ => fun
  | [d] => { results := [.lit (.bool false)], args := [d] }
  | _ => none }
def QuotaEndsWrongFalsely : Prop := quotaEndsRow.holds Try.pinned (OpenSpec.ofChange quotaEndsWrong)

/- THE SECOND FORM. 'bulk': how many values and letters a reading holds, each counted each time it is reached (what is shared counts as often as it is met; a slice's spare places count too). A statement '..UptoSaid' is the law's where the arguments, and the package variables that the reading takes, are together of bulk at most 1048576: NARROWER than '..Said'. Prove '..Said' where nothing that the law and all that it calls make is longer than what came in: it says more and counts as full. Else prove '..UptoSaid'. A law counts once. -/
mutual
def uptoBulk {H : Type} : DataW H → Nat
  | .lit (.string bytes) => bytes.length + 1
  | .lit _ => 1
  | .nil => 1
  | .ptr d => uptoBulk d + 1
  | .slice elems spare => uptoBulkAll elems + uptoBulkAll spare + 1
  | .agg parts => uptoBulkAll parts + 1
  | .iface _ d => uptoBulk d + 1
  | .map entries => uptoBulkEntries entries + 1
  | .held _ => 1
def uptoBulkAll {H : Type} : List (DataW H) → Nat
  | [] => 0
  | d :: r => uptoBulk d + uptoBulkAll r
def uptoBulkEntries {H : Type} : List (Lit × DataW H) → Nat
  | [] => 0
  | x :: r => uptoBulkEntry x + uptoBulkEntries r
def uptoBulkEntry {H : Type} : Lit × DataW H → Nat
  | (.string bytes, d) => bytes.length + uptoBulk d + 1
  | (_, d) => uptoBulk d + 1
 end
def uptoSmall : (H : Type) → List (DataW H) → Bool := fun _ ds => decide (uptoBulkAll ds ≤ 1048576)
def OpenSpec.upto (s : _root_.Go.ChangeSpec) : _root_.Go.OpenSpec := { _root_.Go.OpenSpec.ofChange s with cond := some uptoSmall }

/-- 'pantrylaw09.QuotaTells', WHERE WHAT IT READS IS OF BULK AT MOST 1048576: true; the input reads as it did. -/
def quotaTellsUptoRow : OpenClaim := { program := "yteblhnpijjddcaa", sum := "a49cd831872af51d3d128293509462215330276803095974bde57e3a760eda97", func := "pantry/pantrylaw09.QuotaTells", spec := "quotaTells", apart := false, narrowed := true }
def QuotaTellsUptoSaid : Prop := quotaTellsUptoRow.holds Try.pinned (OpenSpec.upto quotaTellsSpec)

/-- 'pantrylaw09.QuotaWhole', WHERE WHAT IT READS IS OF BULK AT MOST 1048576: true; the input reads as it did. -/
def quotaWholeUptoRow : OpenClaim := { program := "yteblhnpijjddcaa", sum := "a49cd831872af51d3d128293509462215330276803095974bde57e3a760eda97", func := "pantry/pantrylaw09.QuotaWhole", spec := "quotaWhole", apart := false, narrowed := true }
def QuotaWholeUptoSaid : Prop := quotaWholeUptoRow.holds Try.pinned (OpenSpec.upto quotaWholeSpec)

/-- 'pantrylaw09.QuotaBack', WHERE WHAT IT READS IS OF BULK AT MOST 1048576: true; the input reads as it did. -/
def quotaBackUptoRow : OpenClaim := { program := "yteblhnpijjddcaa", sum := "a49cd831872af51d3d128293509462215330276803095974bde57e3a760eda97", func := "pantry/pantrylaw09.QuotaBack", spec := "quotaBack", apart := false, narrowed := true }
def QuotaBackUptoSaid : Prop := quotaBackUptoRow.holds Try.pinned (OpenSpec.upto quotaBackSpec)

/-- 'pantrylaw09.QuotaEnds', WHERE WHAT IT READS IS OF BULK AT MOST 1048576: true; the input reads as it did. -/
def quotaEndsUptoRow : OpenClaim := { program := "yteblhnpijjddcaa", sum := "a49cd831872af51d3d128293509462215330276803095974bde57e3a760eda97", func := "pantry/pantrylaw09.QuotaEnds", spec := "quotaEnds", apart := false, narrowed := true }
def QuotaEndsUptoSaid : Prop := quotaEndsUptoRow.holds Try.pinned (OpenSpec.upto quotaEndsSpec)

end Rows
end Go.Proofs.Yteblhnpijjddcaa
