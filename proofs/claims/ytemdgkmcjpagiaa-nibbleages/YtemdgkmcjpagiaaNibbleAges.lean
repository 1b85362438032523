/-
  Proved: pantrylaw02.NibbleAges returns true for every word w: the sum behind Halve is the half of the sum less Odd, and four halves leave nothing (P2.4). No condition.
-/
import Derived.Test.YtemdgkmcjpagiaaRows
import Derived.WalkKit
import Derived.ProofKit
import Derived.OpenShut
import Derived.Test.YtemdgkmcjpagiaaNibSmall
namespace Go.Proofs.Ytemdgkmcjpagiaa.nibbleAges
open Go.ChangeShapes Go.WideShapes Go.ChangeAt Go.RowKit
set_option linter.unusedVariables false      -- a walk need not use every 'w<i>' (that an integer argument fits its kind)

theorem own : ownKnob Try.prog.godebug = none := by kernel_rfl

/-! ### STEP 1: THE WALK: the Go text returns true. 'Grown w w'': the world has at most new blocks (Derived/RowKit3.lean). Part the cases AHEAD of 'go_enter' where a test parts the walk; take each callee by a contract of your own. -/
theorem walk (a0 : Int) (w0 : (Lit.int .u64 a0).wf = true) (w : World) :
    Calls Try.prog 6 #[.int .u64 a0] w fun e w' => e = .returned (.bool true) ∧ Grown w w' := by
  obtain ⟨x, rfl⟩ := wf_u64 w0
  have hg := Grown.refl w
  have s1 := sumI_bd x
  have s2 := sumI_bd (halveB x)
  have o1 := oddI_bd x
  have q1 : (2 * sumI (halveB x) == sumI x - oddI x) = true := by rw [halve_sum]; exact beq_self_eq_true _
  have q2 : U (halveB (halveB (halveB (halveB x)))) = 0 := by rw [halve4]; rfl
  go_enter Try.func6, Try.ntmps6
  go_wp2_with (first | (go_at_call 9; refine (small_any _).mono ?_; rintro e w' ⟨rfl, hg'⟩; replace hg := grownTrans hg hg'; clear hg') | (go_at_call 18; refine (halve_any _ _).mono ?_; rintro e w' ⟨rfl, hg'⟩; replace hg := grownTrans hg hg'; clear hg') | (go_at_call 20; refine (sum_any _ _).mono ?_; rintro e w' ⟨rfl, hg'⟩; replace hg := grownTrans hg hg'; clear hg') | (go_at_call 22; refine (odd_any _ _).mono ?_; rintro e w' ⟨rfl, hg'⟩; replace hg := grownTrans hg hg'; clear hg'))
  go_ret
  exact ⟨rfl, hg⟩

/-! ### THE ROW's STEP: WRITTEN OUT: LEAVE IT -/
set_option maxRecDepth 100000 in
theorem lifted (os : Os) (started : os.Started) (H : Type) (enc : TypeId × Value → H) :
    ReturnsInHanded {} Try.checked os 6 .any (Rows.nibbleAgesSpec.pre6 enc Try.prog Try.f6 Rows.nibbleAgesRow.domain false) (Rows.nibbleAgesSpec.post enc Try.prog Try.f6 false true false false) := by
  refine returnsInHanded_of_change (C := Try.checked) own started (by kernel_rfl) Try.func6
    (ChangeSpec.witness6 (enc := enc) (C := Try.checked) false ⟨#[], #[.int .u64 0], []⟩ 8 (by kernel_rfl) (by kernel_rfl) (by kernel_rfl) (by kernel_rfl)) ?_
  intro W base args ds gs before hval0 hW hcnd _
  have hval : ∀ (j : Nat) t v, Try.f6.params[j]? = some t → args[j]? = some v → Value.okWide Try.prog W .any base t v := hval0
  have hW' := hW
  obtain ⟨p, q, hA0, hV, rfl, hfz, hnd⟩ := hW
  have hA : DataW.TrodAll enc Try.prog W 0 (fun _ => true) true Try.f6.params.toList args.toList ds p := hA0
  rw [Try.params6] at hA hval
  obtain ⟨v0, vs0, d0, ds0, p0, q0, hargs, rfl, rfl, h0, r0⟩ := trodAll_cons hA
  obtain ⟨rfl, rfl, rfl⟩ := trodAll_nil r0
  obtain rfl : args = #[v0] := by cases args; simp_all
  obtain ⟨rfl, rfl⟩ := trodVars_none hV
  obtain ⟨a0, rfl, rfl, rfl, w0⟩ := open_int Try.underlying22 (hval 0 22 v0 rfl rfl) h0
  clear hA0 hval0
  simp only [List.append_nil] at hW'
  refine (walk a0 w0 W).mono fun e W' ⟨he, hg⟩ => ?_
  subst he
  exact ⟨_, rfl, post_of_same (pa := []) (pv := []) hW' (fun _ _ _ => (trodAll_cons_mk (shut_bool Try.underlying4 _) trodAll_mk0)) (fun sp _ => (trodAll_cons_mk (shut_int Try.underlying22 w0) trodAll_mk0)) (fun _ _ => rfl) rfl
    (hg.frame _) hg.2.1 (ok_one (by kernel_rfl) rfl (okWide_bool_mk Try.underlying4 _))⟩

theorem over : Rows.nibbleAgesRow.holds Try.pinned (OpenSpec.ofChange Rows.nibbleAgesSpec) :=
  OpenClaim.holds_of_wide 6 Try.f6 rfl rfl rfl rfl rfl rfl rfl ⟨rfl, rfl, rfl, rfl, rfl⟩ rfl rfl rfl rfl rfl (by kernel_rfl) Try.func6 (by kernel_rfl)
    (of_decide_eq_true (by kernel_rfl)) (by unfold Func.isWrapper; first | (rw [if_pos (by decide +kernel)]; kernel_rfl) | (rw [if_neg (by decide +kernel)]; exact ⟨rfl, rfl⟩))
    (fun os started H enc _ => lifted os started H enc)

/-- ████ THE STATEMENT ████ -/
theorem proved : Rows.NibbleAgesSaid :=
  over
end Go.Proofs.Ytemdgkmcjpagiaa.nibbleAges

namespace Go.Proofs.Ytemdgkmcjpagiaa
/-- The given statement. -/
theorem nibbleAges_holds : Rows.NibbleAgesSaid := nibbleAges.proved
#print axioms nibbleAges_holds
end Go.Proofs.Ytemdgkmcjpagiaa
