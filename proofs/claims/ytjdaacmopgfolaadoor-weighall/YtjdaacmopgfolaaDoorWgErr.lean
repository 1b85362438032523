/-
  Package errors at the errors of package api: errors.Is of an Errno, at nil, at a Fault and at an Errno; errors.As, at a Fault, at an Errno and at nil, into a Fault's pointer or an Errno. No condition but those told at each sentence.
-/
import Derived.Test.YtjdaacmopgfolaaDoorGenMem
import Derived.WalkKit
import Derived.LaidEql
import Derived.Stop.Asserts
import Derived.RowKitTokens
namespace Go.Proofs.YtjdaacmopgfolaaDoor
open Go.RowKit Go.Extern.Stop Go.Stop Go.Extern

/-- 'x == y', both interface values of one integer type: as the numbers are. -/
theorem eqlIn_iface_int {P : Program} (w : World) (d : Nat) {ti tn : TypeId} {ms : Array (String × TypeId)} {i : TypeInfo} {k : IntKind} (a b : Int)
    (hi : P.underlying ti = some (.interface ms)) (hn : P.underlying tn = some (.int k)) (hinfo : P.info? tn = some i) (hcomp : i.comparable = true) :
    (Op.equalIn (d + 2) ti (.iface tn (.int k a)) (.iface tn (.int k b))).run P w = .ok (a == b) w := by
  simp [Op.equalIn, run_underlying hi, run_underlying hn, typeInfo, hinfo, hcomp]
theorem eql_iface_int {P : Program} (w : World) {ti tn : TypeId} {ms : Array (String × TypeId)} {i : TypeInfo} {k : IntKind} (a b : Int)
    (hi : P.underlying ti = some (.interface ms)) (hn : P.underlying tn = some (.int k)) (hinfo : P.info? tn = some i) (hcomp : i.comparable = true) :
    (binOp .eql ti (.iface tn (.int k a)) (.iface tn (.int k b))).run P w = .ok (.bool (a == b)) w := by
  simp only [binOp]
  simp [Op.equal, Op.maxDepth, eqlIn_iface_int w 9998 a b hi hn hinfo hcomp]

/-! ### Types and methods -/
theorem Tryd.handle (t : TypeId) : typeHandle Tryd.prog t = .pointer (some ⟨4, t, none⟩) := by kernel_rfl
theorem Tryd.typeOfN (v : Value) (w : World) : (ReflectliteType.typeOf #[.iface 26 v]).run Tryd.prog w = .ok (.iface 70 (.agg #[.pointer (some ⟨4, 26, none⟩)])) w := by kernel_rfl
theorem Tryd.typeOfF (v : Value) (w : World) : (ReflectliteType.typeOf #[.iface 46 v]).run Tryd.prog w = .ok (.iface 70 (.agg #[.pointer (some ⟨4, 46, none⟩)])) w := by kernel_rfl
/-- What the model does for a type's Comparable. -/
def compEntry : Array Value → Sem Value := ReflectliteType.method fun t => do Rtype.noPackHeld "Comparable" t; pure (.bool (← typeInfo t).comparable)
theorem Tryd.comparableN (w : World) : (compEntry #[.agg #[.pointer (some ⟨4, 26, none⟩)]]).run Tryd.prog w = .ok (.bool true) w := by kernel_rfl
theorem Tryd.mComparable (h : Value) (w : World) : (Go.method 232 70 (.agg #[h]) "Comparable").run Tryd.prog w = .ok (73, .agg #[h]) w := by kernel_rfl
theorem Tryd.compN : (Tryd.prog.info? 26).map (·.comparable) = some true := by kernel_rfl
theorem Tryd.noIsF (v : Value) (xT : TypeId) (w : World) : (Instr.typeAssert (.iface 46 v) xT 72 true).run Tryd.prog w = .ok (.tuple #[.nilIface, .bool false]) w := run_typeAssert_lacksB Tryd.underlying72 (by kernel_rfl) (by kernel_rfl) v xT w
theorem Tryd.noIsN (v : Value) (xT : TypeId) (w : World) : (Instr.typeAssert (.iface 26 v) xT 72 true).run Tryd.prog w = .ok (.tuple #[.nilIface, .bool false]) w := run_typeAssert_lacksB Tryd.underlying72 (by kernel_rfl) (by kernel_rfl) v xT w
theorem Tryd.noAsF (v : Value) (xT : TypeId) (w : World) : (Instr.typeAssert (.iface 46 v) xT 81 true).run Tryd.prog w = .ok (.tuple #[.nilIface, .bool false]) w := run_typeAssert_lacksB Tryd.underlying81 (by kernel_rfl) (by kernel_rfl) v xT w
theorem Tryd.noAsN (v : Value) (xT : TypeId) (w : World) : (Instr.typeAssert (.iface 26 v) xT 81 true).run Tryd.prog w = .ok (.tuple #[.nilIface, .bool false]) w := run_typeAssert_lacksB Tryd.underlying81 (by kernel_rfl) (by kernel_rfl) v xT w
theorem Tryd.unwrapF (v : Value) (xT : TypeId) (w : World) : (Instr.typeAssert (.iface 46 v) xT 75 true).run Tryd.prog w = .ok (.tuple #[.iface 46 v, .bool true]) w := run_typeAssert_hasB Tryd.underlying75 (by kernel_rfl) v xT w
theorem Tryd.noUnwrapN (v : Value) (xT : TypeId) (w : World) : (Instr.typeAssert (.iface 26 v) xT 75 true).run Tryd.prog w = .ok (.tuple #[.nilIface, .bool false]) w := run_typeAssert_lacksB Tryd.underlying75 (by kernel_rfl) (by kernel_rfl) v xT w
theorem Tryd.noUnwrapsN (v : Value) (xT : TypeId) (w : World) : (Instr.typeAssert (.iface 26 v) xT 77 true).run Tryd.prog w = .ok (.tuple #[.nilIface, .bool false]) w := run_typeAssert_lacksB Tryd.underlying77 (by kernel_rfl) (by kernel_rfl) v xT w
theorem Tryd.mUnwrap (v : Value) (w : World) : (Go.method 232 46 v "Unwrap").run Tryd.prog w = .ok (67, v) w := by kernel_rfl

/-- errors.Is(nil, an Errno). -/
theorem is_nil (n : Int) (w : World) : Calls Tryd.prog 22 #[.nilIface, .iface 26 (.int .i64 n)] w fun e w' => e = .returned (.bool false) ∧ w' = w := by
  have hn := run_eql_iface_nil_left (P := Tryd.prog) w 26 (.int .i64 n) Tryd.underlying24
  go_enter Tryd.func22, Tryd.ntmps22
  go_wp2
  go_ret
  exact ⟨rfl, rfl⟩
/-- errors.Is(an Errno, the same Errno). -/
theorem is_bare (n : Int) (w : World) : Calls Tryd.prog 22 #[.iface 26 (.int .i64 n), .iface 26 (.int .i64 n)] w fun e w' => e = .returned (.bool true) ∧ w' = w := by
  obtain ⟨i, hi, hcmp⟩ := Option.map_eq_some_iff.1 Tryd.compN
  have h8 := @run_callFunc_extern Tryd.prog 26 _ ReflectliteType.typeOf Tryd.func26 (by kernel_rfl) (by kernel_rfl) (by kernel_rfl) (by kernel_rfl)
  have h32 := @run_callFunc_extern Tryd.prog 73 _ compEntry Tryd.func73 (by kernel_rfl) (by kernel_rfl) (by kernel_rfl) (by kernel_rfl)
  have tT := Tryd.typeOfN
  have cT := Tryd.comparableN
  have mR := Tryd.mComparable
  have heq := eql_iface_int (P := Tryd.prog) w n n Tryd.underlying24 Tryd.underlying26 hi hcmp
  rw [beq_self_eq_true] at heq
  go_enter Tryd.func22, Tryd.ntmps22
  go_wp2
  refine wp_loop_rounds 1 ?_
  rw [rounds_succ]
  go_wp2
  go_ret
  exact ⟨rfl, rfl⟩
/-- errors.Is(a Fault, an Errno): whether the Fault's is that one. -/
theorem is_fault (b : Nat) (n k : Int) (w : World) (h0 : w.cell? ⟨b, 0, none⟩ = some (.int .i64 n)) :
    Calls Tryd.prog 22 #[.iface 46 (ptr b), .iface 26 (.int .i64 k)] w fun e w' => e = .returned (.bool (n == k)) ∧ w' = w := by
  obtain ⟨i, hi, hcmp⟩ := Option.map_eq_some_iff.1 Tryd.compN
  have h8 := @run_callFunc_extern Tryd.prog 26 _ ReflectliteType.typeOf Tryd.func26 (by kernel_rfl) (by kernel_rfl) (by kernel_rfl) (by kernel_rfl)
  have h32 := @run_callFunc_extern Tryd.prog 73 _ compEntry Tryd.func73 (by kernel_rfl) (by kernel_rfl) (by kernel_rfl) (by kernel_rfl)
  have tT := Tryd.typeOfN
  have cT := Tryd.comparableN
  have mR := Tryd.mComparable
  have nF := Tryd.noIsF
  have nN := Tryd.noIsN
  have uF := Tryd.unwrapF
  have uN := Tryd.noUnwrapN
  have vN := Tryd.noUnwrapsN
  have mU := Tryd.mUnwrap
  have heq := eql_iface_int (P := Tryd.prog) w n k Tryd.underlying24 Tryd.underlying26 hi hcmp
  have hty := run_eql_iface_types (P := Tryd.prog) 46 26 (.pointer (some ⟨b, 0, none⟩)) (.int .i64 k) Tryd.underlying24 (by decide) w
  simp only [ptr]
  by_cases hnk : n = k
  · subst hnk
    rw [beq_self_eq_true] at heq ⊢
    go_enter Tryd.func22, Tryd.ntmps22
    go_wp2
    refine wp_loop_rounds 2 ?_
    rw [rounds_succ]
    go_wp2
    rw [rounds_succ]
    go_wp2
    go_ret
    exact ⟨rfl, rfl⟩
  · rw [beq_false_of_ne hnk] at heq ⊢
    go_enter Tryd.func22, Tryd.ntmps22
    go_wp2
    refine wp_loop_rounds 2 ?_
    rw [rounds_succ]
    go_wp2
    rw [rounds_succ]
    go_wp2
    go_ret
    exact ⟨rfl, rfl⟩
end Go.Proofs.YtjdaacmopgfolaaDoor
