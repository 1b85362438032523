/-
  The loops of one law's function, taken out of its translation. No condition.
-/
import Derived.Test.YtlmcopenbeammaaPoOne
namespace Go.Proofs.Ytlmcopenbeammaa.Po
open Go.RowKit Go.Deep
/-- The bodies of a function's loops, each ahead of those inside it. -/
def loopsOf : Code → List Code
  | .loop c => c :: loopsOf c
  | .seq a b => loopsOf a ++ loopsOf b
  | .block _ c => loopsOf c
  | .scope c => loopsOf c
  | .cond _ a b => loopsOf a ++ loopsOf b
  | _ => []
noncomputable def lp (k : Nat) : Code := ((Try.f3.body.map loopsOf).bind fun l => l[k]?).getD .skip
end Go.Proofs.Ytlmcopenbeammaa.Po
