/-
  Package errors at the errors of package api: errors.Is of an Errno, at nil, at a Fault and at an Errno; errors.As, at a Fault, at an Errno and at nil, into a Fault's pointer or an Errno. No condition but those told at each sentence.
-/
import Derived.Test.YtigmjgmkeoineaaDoorGenMem
import Derived.WalkKit
import Derived.LaidEql
import Derived.Stop.Asserts
import Derived.RowKitTokens
namespace Go.Proofs.YtigmjgmkeoineaaDoor
open Go.RowKit Go.Extern.Stop Go.Stop Go.Extern

/-- 'x == y', both interface values of one integer type: as the numbers are. -/
theorem eqlIn_iface_int {P : Program} (w : World) (d : Nat) {ti tn : TypeId} {ms : Array (String × TypeId)} {i : TypeInfo} {k : IntKind} (a b : Int)
    (hi : P.underlying ti = some (.interface ms)) (hn : P.underlying tn = some (.int k)) (hinfo : P.info? tn = some i) (hcomp : i.comparable = true) :
    (Op.equalIn (d + 2) ti (.iface tn (.int k a)) (.iface tn (.int k b))).run P w = .ok (a == b) w := by
  simp [Op.equalIn, run_underlying hi, run_underlying hn, typeInfo, hinfo, hcomp]
theorem eql_iface_int {P : Program} (w : World) {ti tn : TypeId} {ms : Array (String × TypeId)} {i : TypeInfo} {k : IntKind} (a b : Int)
    (hi : P.underlying ti = some (.interface ms)) (hn : P.underlying tn = some (.int k)) (hinfo : P.info? tn = some i) (hcomp : i.comparable = true) :
    (binOp .eql ti (.iface tn (.int k a)) (.iface tn (.int k b))).run P w = .ok (.bool (a == b)) w := by
  simp only [binOp]
  simp [Op.equal, Op.maxDepth, eqlIn_iface_int w 9998 a b hi hn hinfo hcomp]

/-! ### Types and methods -/
theorem Tryd.handle (t : TypeId) : typeHandle Tryd.prog t = .pointer (some ⟨4, t, none⟩) := by kernel_rfl
theorem Tryd.typeOfN (v : Value) (w : World) : (ReflectliteType.typeOf #[.iface 39 v]).run Tryd.prog w = .ok (.iface 75 (.agg #[.pointer (some ⟨4, 39, none⟩)])) w := by kernel_rfl
theorem Tryd.typeOfF (v : Value) (w : World) : (ReflectliteType.typeOf #[.iface 55 v]).run Tryd.prog w = .ok (.iface 75 (.agg #[.pointer (some ⟨4, 55, none⟩)])) w := by kernel_rfl
/-- What the model does for a type's Comparable. -/
def compEntry : Array Value → Sem Value := ReflectliteType.method fun t => do Rtype.noPackHeld "Comparable" t; pure (.bool (← typeInfo t).comparable)
theorem Tryd.comparableN (w : World) : (compEntry #[.agg #[.pointer (some ⟨4, 39, none⟩)]]).run Tryd.prog w = .ok (.bool true) w := by kernel_rfl
theorem Tryd.mComparable (h : Value) (w : World) : (Go.method 233 75 (.agg #[h]) "Comparable").run Tryd.prog w = .ok (79, .agg #[h]) w := by kernel_rfl
theorem Tryd.compN : (Tryd.prog.info? 39).map (·.comparable) = some true := by kernel_rfl
theorem Tryd.noAsF (v : Value) (xT : TypeId) (w : World) : (Instr.typeAssert (.iface 55 v) xT 80 true).run Tryd.prog w = .ok (.tuple #[.nilIface, .bool false]) w := run_typeAssert_lacksB Tryd.underlying80 (by kernel_rfl) (by kernel_rfl) v xT w
theorem Tryd.noAsN (v : Value) (xT : TypeId) (w : World) : (Instr.typeAssert (.iface 39 v) xT 80 true).run Tryd.prog w = .ok (.tuple #[.nilIface, .bool false]) w := run_typeAssert_lacksB Tryd.underlying80 (by kernel_rfl) (by kernel_rfl) v xT w
theorem Tryd.unwrapF (v : Value) (xT : TypeId) (w : World) : (Instr.typeAssert (.iface 55 v) xT 83 true).run Tryd.prog w = .ok (.tuple #[.iface 55 v, .bool true]) w := run_typeAssert_hasB Tryd.underlying83 (by kernel_rfl) v xT w
theorem Tryd.noUnwrapN (v : Value) (xT : TypeId) (w : World) : (Instr.typeAssert (.iface 39 v) xT 83 true).run Tryd.prog w = .ok (.tuple #[.nilIface, .bool false]) w := run_typeAssert_lacksB Tryd.underlying83 (by kernel_rfl) (by kernel_rfl) v xT w
theorem Tryd.noUnwrapsN (v : Value) (xT : TypeId) (w : World) : (Instr.typeAssert (.iface 39 v) xT 84 true).run Tryd.prog w = .ok (.tuple #[.nilIface, .bool false]) w := run_typeAssert_lacksB Tryd.underlying84 (by kernel_rfl) (by kernel_rfl) v xT w
theorem Tryd.mUnwrap (v : Value) (w : World) : (Go.method 233 55 v "Unwrap").run Tryd.prog w = .ok (73, v) w := by kernel_rfl

end Go.Proofs.YtigmjgmkeoineaaDoor
