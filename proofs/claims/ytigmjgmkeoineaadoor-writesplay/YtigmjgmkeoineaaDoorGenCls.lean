/-
  A region that draws its order, whose operations only read and whose callees make new blocks: walked once, over the class of all worlds of which something holds that every callee keeps. No condition but those told at each sentence.
-/
import Derived.Test.YtigmjgmkeoineaaDoorGenMem
import Derived.BigQuiet
namespace Go.Proofs.YtigmjgmkeoineaaDoor
open Go.RowKit Go.Deep

/-- A world of which Good holds. -/
structure Wor (Good : World → Prop) where
  w : World
  h : Good w
/-- One walk in the order of the text serves every order, if whatever is asked of the worlds between is Good alone. -/
theorem wp_region_class {P : Program} {id : Nat} {Q : Exit → Act → World → Prop} {a : Act} {w : World} {l : List Oper} {Good : World → Prop} (hm : P.follows .mixedOrders = true) (hB : Region.lexB .any l.toArray = true) (hC : Good w.drew)
    (h : wpQuiet P l.toArray (fun w' => ∃ r : Wor Good, w' = r.w) (fun a' => ∀ w', (∃ r : Wor Good, w' = r.w) → Q .normal a' w') l a) : (Code.region id l.toArray true).wp P Q a w :=
  wp_region_quiet (C := fun w' => ∃ r : Wor Good, w' = r.w) hm hB ⟨⟨_, hC⟩, rfl⟩ (by simpa using h)
/-- A callee's contract over the class. -/
theorem calls_class {P : Program} {f : FuncId} {args : Array Value} {Good : World → Prop} {v : Value} {w : World} (h : Calls P f args w fun e w' => e = .returned v ∧ Good w') : Calls P f args w fun e w' => e = .returned v ∧ ∃ r : Wor Good, w' = r.w :=
  h.mono fun _ _ ⟨he, hg⟩ => ⟨he, ⟨_, hg⟩, rfl⟩
end Go.Proofs.YtigmjgmkeoineaaDoor
