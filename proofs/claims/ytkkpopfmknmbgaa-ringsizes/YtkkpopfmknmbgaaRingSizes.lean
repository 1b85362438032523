/-
  Proved: pantrylaw12.RingSizes returns true for every size: a ring holds the least power of two that is as many as it is asked for, up to 4096, and nothing at first (P12.1). No condition.
-/
import Derived.Test.YtkkpopfmknmbgaaRows
import Derived.WalkKit
import Derived.ProofKit
import Derived.OpenShut
import Derived.Test.YtkkpopfmknmbgaaRgSep
namespace Go.Proofs.Ytkkpopfmknmbgaa.ringSizes
open Go.ChangeShapes Go.WideShapes Go.ChangeAt Go.RowKit
set_option linter.unusedVariables false      -- a walk need not use every 'w<i>' (that an integer argument fits its kind)

theorem own : ownKnob Try.prog.godebug = none := by kernel_rfl

/-! ### STEP 1: THE WALK: the Go text returns true. 'Grown w w'': the world has at most new blocks (Derived/RowKit3.lean). Part the cases AHEAD of 'go_enter' where a test parts the walk; take each callee by a contract of your own. -/
open Go.Proofs.Ytkkpopfmknmbgaa.Rn in set_option maxRecDepth 20000 in set_option maxHeartbeats 4000000 in
theorem walk (a0 : Int) (w0 : (Lit.int .i64 a0).wf = true) (w : World) :
    Calls Try.prog 7 #[.int .i64 a0] w fun e w' => e = .returned (.bool true) ∧ Grown w w' := by
  clear w0
  obtain ⟨N, n1, n2, e, hb, h4, h5⟩ := size_all a0
  have nw := fun (w1 : World) (g : Grown w w1) => new_s (Apt.none g) a0 n1 n2 e
  have d1 : decide ((1 : Int) ≤ (N : Int)) = true := by rw [decide_eq_true_eq]; omega
  have d2 : decide ((N : Int) ≤ 4096) = true := by rw [decide_eq_true_eq]; omega
  clear e
  unfold ptr at nw
  rcases (by omega : (a0 ≤ (N : Int) ∧ N = 1) ∨ (a0 ≤ (N : Int) ∧ 2 ≤ N) ∨ (4096 < a0 ∧ N = 4096)) with ⟨c1, rfl⟩ | ⟨c1, c2⟩ | ⟨c1, rfl⟩
  all_goals try have c3 : ((N : Int) == 1) = false := by rw [beq_eq_false_iff_ne]; omega
  all_goals
    go_enter Try.func7, Try.ntmps7
    go_wp2_with (first | (go_at_call 8; refine (small_s _).mono ?_; rintro e ws ⟨rfl, hgs⟩) | (go_at_call 9; refine (nw _ hgs).mono ?_; rintro e wx ⟨b, rfl, hx⟩; clear nw; have hx : Hid (Apt w wx [obR b _ [] 0]) := hx) | (go_at_call 20; refine (size_s hx.out (i := 0) rfl).mono ?_; rintro e w' ⟨rfl, hw'⟩; have hw' := hw'.symm; subst hw') | (go_at_call 18; refine (len_s hx.out (i := 0) rfl).mono ?_; rintro e w' ⟨rfl, hw'⟩; have hw' := hw'.symm; subst hw') | (go_at_call 19; refine (lost_s hx.out (i := 0) rfl).mono ?_; rintro e w' ⟨rfl, hw'⟩; have hw' := hw'.symm; subst hw'))
    go_ret
    exact ⟨rfl, hx.out.grown⟩

/-! ### THE ROW's STEP: WRITTEN OUT: LEAVE IT -/
set_option maxRecDepth 100000 in
theorem lifted (os : Os) (started : os.Started) (H : Type) (enc : TypeId × Value → H) :
    ReturnsInHanded {} Try.checked os 7 .any (Rows.ringSizesSpec.pre6 enc Try.prog Try.f7 Rows.ringSizesRow.domain false) (Rows.ringSizesSpec.post enc Try.prog Try.f7 false true false false) := by
  refine returnsInHanded_of_change (C := Try.checked) own started (by kernel_rfl) Try.func7
    (ChangeSpec.witness6 (enc := enc) (C := Try.checked) false ⟨#[], #[.int .i64 0], []⟩ 8 (by kernel_rfl) (by kernel_rfl) (by kernel_rfl) (by kernel_rfl)) ?_
  intro W base args ds gs before hval0 hW hcnd _
  have hval : ∀ (j : Nat) t v, Try.f7.params[j]? = some t → args[j]? = some v → Value.okWide Try.prog W .any base t v := hval0
  have hW' := hW
  obtain ⟨p, q, hA0, hV, rfl, hfz, hnd⟩ := hW
  have hA : DataW.TrodAll enc Try.prog W 0 (fun _ => true) true Try.f7.params.toList args.toList ds p := hA0
  rw [Try.params7] at hA hval
  obtain ⟨v0, vs0, d0, ds0, p0, q0, hargs, rfl, rfl, h0, r0⟩ := trodAll_cons hA
  obtain ⟨rfl, rfl, rfl⟩ := trodAll_nil r0
  obtain rfl : args = #[v0] := by cases args; simp_all
  obtain ⟨rfl, rfl⟩ := trodVars_none hV
  obtain ⟨a0, rfl, rfl, rfl, w0⟩ := open_int Try.underlying3 (hval 0 3 v0 rfl rfl) h0
  clear hA0 hval0
  simp only [List.append_nil] at hW'
  refine (walk a0 w0 W).mono fun e W' ⟨he, hg⟩ => ?_
  subst he
  exact ⟨_, rfl, post_of_same (pa := []) (pv := []) hW' (fun _ _ _ => (trodAll_cons_mk (shut_bool Try.underlying4 _) trodAll_mk0)) (fun sp _ => (trodAll_cons_mk (shut_int Try.underlying3 w0) trodAll_mk0)) (fun _ _ => rfl) rfl
    (hg.frame _) hg.2.1 (ok_one (by kernel_rfl) rfl (okWide_bool_mk Try.underlying4 _))⟩

theorem over : Rows.ringSizesRow.holds Try.pinned (OpenSpec.ofChange Rows.ringSizesSpec) :=
  OpenClaim.holds_of_wide 7 Try.f7 rfl rfl rfl rfl rfl rfl rfl ⟨rfl, rfl, rfl, rfl, rfl⟩ rfl rfl rfl rfl rfl (by kernel_rfl) Try.func7 (by kernel_rfl)
    (of_decide_eq_true (by kernel_rfl)) (by unfold Func.isWrapper; first | (rw [if_pos (by decide +kernel)]; kernel_rfl) | (rw [if_neg (by decide +kernel)]; exact ⟨rfl, rfl⟩))
    (fun os started H enc _ => lifted os started H enc)

/-- ████ THE STATEMENT ████ -/
theorem proved : Rows.RingSizesSaid :=
  over
end Go.Proofs.Ytkkpopfmknmbgaa.ringSizes

namespace Go.Proofs.Ytkkpopfmknmbgaa
/-- The given statement. -/
theorem ringSizes_holds : Rows.RingSizesSaid := ringSizes.proved
#print axioms ringSizes_holds
end Go.Proofs.Ytkkpopfmknmbgaa
