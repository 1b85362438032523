/-
  Rows of the statements' own events. No condition.
-/
import Derived.Test.YtigmjgmkeoineaaDoorWbSep
namespace Go.Proofs.YtigmjgmkeoineaaDoor.Wb
open Go.RowKit Go.Deep Us

/-- The events of the first k numbers. -/
def evs (k : Nat) : List Ev := (List.range k).map fun i : Nat => ev (i : Int)
theorem evs_len (k : Nat) : (evs k).length = k := by simp [evs]
theorem evs_succ (k : Nat) : evs (k + 1) = evs k ++ [ev (k : Int)] := by simp [evs, List.range_succ]
end Go.Proofs.YtigmjgmkeoineaaDoor.Wb
