/-
  Proved: pantrylaw11.PolicyHolds returns true for every capacity, every seed and any events: behind each of them all weigh at most the capacity, each node is in one row, or went, or was removed, and none goes but of an add, or an update to more weight. No condition.
-/
import Derived.Test.YtlmcopenbeammaaRows
import Derived.WalkKit
import Derived.ProofKit
import Derived.OpenShut
import Derived.Test.YtlmcopenbeammaaPoHg
import Derived.ShutString
import Derived.ChangeOld
import Derived.Below
import Derived.Test.YtlmcopenbeammaaGenArgs
namespace Go.Proofs.Ytlmcopenbeammaa.policyHolds
open Go.ChangeShapes Go.WideShapes Go.ChangeAt Go.RowKit
set_option linter.unusedVariables false

theorem own : ownKnob Try.prog.godebug = none := by kernel_rfl
theorem laidOut : laidOutB Try.prog = true := by kernel_rfl

/-! ### The walk: the law returns true, and writes nothing that was there -/
open Go.Proofs.Ytlmcopenbeammaa.Po Go.Deep in set_option maxRecDepth 100000 in set_option maxHeartbeats 16000000 in
theorem walk (a0 : Int) (a1 : Int) (a2 : Option Addr) (len2 cap2 : Nat) (z2 : Nat → Nat → Int) (w : World) (w0 : (Lit.int .i64 a0).wf = true) (w1 : (Lit.int .i64 a1).wf = true) (w2 : IsGrid .i64 4 w a2 len2 cap2 z2) :
    Calls Try.prog 3 #[.int .i64 a0, .int .i64 a1, .slice a2 len2 cap2] w fun e w' => e = .returned (.bool true) ∧ Grown w w' := by
  have SM := fun w => small_q w
  by_cases hl : 200 < len2
  · have d3 : decide (200 < (len2 : Int)) = true := by rw [decide_eq_true_eq]; omega
    go_enter Try.func3, Try.ntmps3
    go_wp2_with (first | (go_at_call 6; refine (SM _).mono ?_; rintro e w1 ⟨rfl, g1⟩))
    go_ret
    exact ⟨rfl, g1⟩
  have d3 : decide (200 < (len2 : Int)) = false := by rw [decide_eq_false_iff_not]; omega
  by_cases hc : a0 < 0
  · have d4 : decide (a0 < 0) = true := by simpa using hc
    go_enter Try.func3, Try.ntmps3
    go_wp2_with (first | (go_at_call 6; refine (SM _).mono ?_; rintro e w1 ⟨rfl, g1⟩))
    go_ret
    exact ⟨rfl, g1⟩
  have d4 : decide (a0 < 0) = false := by simpa using hc
  by_cases hb : 1024 < a0
  · have d5 : decide (1024 < a0) = true := by simpa using hb
    go_enter Try.func3, Try.ntmps3
    go_wp2_with (first | (go_at_call 6; refine (SM _).mono ?_; rintro e w1 ⟨rfl, g1⟩))
    go_ret
    exact ⟨rfl, g1⟩
  have d5 : decide (1024 < a0) = false := by simpa using hb
  have NW := fun (W : World) (g : Grown w W) => new_one a0 a1 w W g
  unfold ptr at NW
  go_enter Try.func3, Try.ntmps3
  go_wp2_with (first | (go_at_call 6; refine (SM _).mono ?_; rintro e w1 ⟨rfl, g1⟩) | (go_at_call 7; refine (NW _ g1).mono ?_; rintro e w4 ⟨A, rfl, T4⟩; clear NW g1 SM))
  refine main_loop T4 (by omega) (by omega) (by omega) w2 ?_
  intro w5
  iterate 253 intro _
  intro g5
  go_wp2
  go_ret
  exact ⟨rfl, g5⟩

/-! ### The row's step -/
set_option maxRecDepth 100000 in
theorem lifted (os : Os) (started : os.Started) (H : Type) (enc : TypeId × Value → H) :
    ReturnsInHanded {} Try.checked os 3 .any (Rows.policyHoldsSpec.pre6 enc Try.prog Try.f3 Rows.policyHoldsRow.domain false) (Rows.policyHoldsSpec.post enc Try.prog Try.f3 false true false false) := by
  refine returnsInHanded_of_change (C := Try.checked) own started (by kernel_rfl) Try.func3
    (ChangeSpec.witness6 (enc := enc) (C := Try.checked) false ⟨#[], #[.int .i64 0, .int .i64 0, .slice none 0 0], []⟩ 8 (by kernel_rfl) (by kernel_rfl) (by kernel_rfl) (by kernel_rfl)) ?_
  intro W base args ds gs before hval0 hW hcnd _
  have hval : ∀ (j : Nat) t v, Try.f3.params[j]? = some t → args[j]? = some v → Value.okWide Try.prog W .any base t v := hval0
  have hW' := hW
  obtain ⟨p, q, hA0, hV, rfl, hfz, hnd⟩ := hW
  have hA : DataW.TrodAll enc Try.prog W 0 (fun _ => true) true Try.f3.params.toList args.toList ds p := hA0
  rw [Try.params3] at hA hval
  obtain ⟨v0, vs0, d0, ds0, p0, q0, hargs, rfl, rfl, h0, r0⟩ := trodAll_cons hA
  obtain ⟨v1, vs1, d1, ds1, p1, q1, rfl, rfl, rfl, h1, r1⟩ := trodAll_cons r0
  obtain ⟨v2, vs2, d2, ds2, p2, q2, rfl, rfl, rfl, h2, r2⟩ := trodAll_cons r1
  obtain ⟨rfl, rfl, rfl⟩ := trodAll_nil r2
  obtain rfl : args = #[v0, v1, v2] := by cases args; simp_all
  obtain ⟨rfl, rfl⟩ := trodVars_none hV
  obtain ⟨a0, rfl, rfl, rfl, w0⟩ := open_int Try.underlying3 (hval 0 3 v0 rfl rfl) h0
  obtain ⟨a1, rfl, rfl, rfl, w1⟩ := open_int Try.underlying3 (hval 1 3 v1 rfl rfl) h1
  obtain ⟨a2, len2, cap2, rfl⟩ := okWide_slice Try.underlying22 (hval 2 22 v2 rfl rfl)
  have k2 := h2
  have lt2 : ∀ x ∈ p2, x.block < W.heap.size := by obtain ⟨m, hm⟩ := k2; exact DataW.trod_lt m _ _ _ hm
  obtain ⟨z2, w2⟩ := open_structs (n := 4) (k := .i64) Try.underlying22 Try.underlying28 (by kernel_rfl) (by
    intro i hi
    match i, hi with
    | 0, _ => exact ⟨_, rfl, Try.underlying3, by kernel_rfl, rfl⟩
    | 1, _ => exact ⟨_, rfl, Try.underlying3, by kernel_rfl, rfl⟩
    | 2, _ => exact ⟨_, rfl, Try.underlying3, by kernel_rfl, rfl⟩
    | 3, _ => exact ⟨_, rfl, Try.underlying3, by kernel_rfl, rfl⟩) h2
  clear hA0 hval0
  refine (walk a0 a1 a2 len2 cap2 z2 W w0 w1 w2).mono fun e W' ⟨he, bel⟩ => ?_
  subst he
  exact ⟨_, rfl, _, _, _, [], _, [], hW', trodAll_mk1 (shut_bool Try.underlying4 _), (trodAll_cons_mk (shut_int Try.underlying3 w0) (trodAll_cons_mk (shut_int Try.underlying3 w1) (trodAll_cons_mk (grown_trod laidOut (by kernel_rfl) (of_decide_eq_true (by kernel_rfl)) k2 bel lt2) trodAll_mk0))), rfl, bel.frame _, fun h => by cases h⟩

theorem over : Rows.policyHoldsRow.holds Try.pinned (OpenSpec.ofChange Rows.policyHoldsSpec) :=
  OpenClaim.holds_of_wide 3 Try.f3 rfl rfl rfl rfl rfl rfl rfl ⟨rfl, rfl, rfl, rfl, rfl⟩ rfl rfl rfl rfl rfl (by kernel_rfl) Try.func3 (by kernel_rfl)
    (of_decide_eq_true (by kernel_rfl)) (by unfold Func.isWrapper; first | (rw [if_pos (by decide +kernel)]; kernel_rfl) | (rw [if_neg (by decide +kernel)]; exact ⟨rfl, rfl⟩))
    (fun os started H enc _ => lifted os started H enc)

/-- The statement. -/
theorem proved : Rows.PolicyHoldsSaid := over
end Go.Proofs.Ytlmcopenbeammaa.policyHolds

namespace Go.Proofs.Ytlmcopenbeammaa
/-- The given statement. -/
theorem policyHolds_holds : Rows.PolicyHoldsSaid := policyHolds.proved
#print axioms policyHolds_holds
end Go.Proofs.Ytlmcopenbeammaa
