/-
  A door and the document's, both in memory: what one call to each leaves of both.
-/
import Derived.Test.YtaelaikfpehciaaDrRef
namespace Go.Proofs.Ytaelaikfpehciaa
open Go.RowKit Go.Deep

/-- A door at block bx and the document's at block by that are alike. -/
structure BothD (w : World) (bx by_ : Nat) (seed : Int) (m : Nat) (s : Nat → Bool) : Prop where
  x : Drb w bx seed m s
  y : Rd w by_ seed m s
  apart : bx + 2 ≤ by_
namespace BothD
variable {w w' w'' : World} {bx by_ m : Nat} {seed : Int} {s s' : Nat → Bool}
theorem grown (h : BothD w bx by_ seed m s) (g : Grown w w') : BothD w' bx by_ seed m s := ⟨h.x.grown g, Ow.grown h.y g, h.apart⟩
theorem drewN (h : BothD w bx by_ seed m s) (d : Nat) : BothD (w.drewN d) bx by_ seed m s := ⟨h.x.drewN d, h.y.drewN d, h.apart⟩
theorem keepY (h : BothD w bx by_ seed m s) (o : Off bx 2 w w') : Rd w' by_ seed m s := Ow.off h.y o (by have := h.apart; omega)
theorem mk2 (h : BothD w bx by_ seed m s) (hx : Drb w' bx seed m s') (hy : Rd w'' by_ seed m s') (o : Off by_ 2 w' w'') : BothD w'' bx by_ seed m s' :=
  ⟨hx.off o (by have := h.apart; omega), hy, h.apart⟩
end BothD
theorem grownD {W w w' w'' : World} {bx by_ : Nat} (g : Grown W w) (o : Off bx 2 w w') (o' : Off by_ 2 w' w'') (hb : W.heap.size ≤ bx) (ha : bx + 2 ≤ by_) : Grown W w'' :=
  o'.grown (o.grown g hb) (by omega)
end Go.Proofs.Ytaelaikfpehciaa
