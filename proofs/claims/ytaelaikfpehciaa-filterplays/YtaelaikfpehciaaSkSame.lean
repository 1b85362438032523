/-
  A sketch and the document's that have the same width, samples and counters are told alike.
-/
import Derived.Test.YtaelaikfpehciaaSkRefAdd
namespace Go.Proofs.Ytaelaikfpehciaa
open Go.RowKit Go.Deep

variable {w : World} {b m : Nat} {seed n : Int} {c : Nat → Nat → Int}

theorem skc_drewN (h : Skc w b seed n m c) (d : Nat) : Skc (w.drewN d) b seed n m c := h.grown (grownDrewN (Grown.refl _) d)

end Go.Proofs.Ytaelaikfpehciaa
