/-
  Proved: pantrylaw01.MixWraps returns true for every word h and number by: turns by 64 more are alike, a turned word has as many bits as before, and turns of nothing, and of all, stay (P1.2). No condition.
-/
import Derived.Test.YtbdpbkpmhlgaaaaRows
import Derived.WalkKit
import Derived.ProofKit
import Derived.OpenShut
import Derived.Test.YtbdpbkpmhlgaaaaMixMore
import Derived.Deep.QuietTactic
import Derived.BigQuiet
namespace Go.Proofs.Ytbdpbkpmhlgaaaa.mixWraps
open Go.ChangeShapes Go.WideShapes Go.ChangeAt Go.RowKit
set_option linter.unusedVariables false      -- a walk need not use every 'w<i>' (that an integer argument fits its kind)

theorem own : ownKnob Try.prog.godebug = none := by kernel_rfl

/-! ### STEP 1: THE WALK: the Go text returns true. 'Grown w w'': the world has at most new blocks (Derived/RowKit3.lean). Part the cases AHEAD of 'go_enter' where a test parts the walk; take each callee by a contract of your own. -/
theorem walk (a0 : Int) (a1 : Int) (w0 : (Lit.int .u64 a0).wf = true) (w1 : (Lit.int .i64 a1).wf = true) (w : World) :
    Calls Try.prog 7 #[.int .u64 a0, .int .i64 a1] w fun e w' => e = .returned (.bool true) ∧ Grown w w' := by
  obtain ⟨x, rfl⟩ := wf_u64 w0
  by_cases hr : a1 < -1099511627776 ∨ 1099511627776 < a1
  · have hc : a1 < -1099511627776 ∨ (-1099511627776 ≤ a1 ∧ 1099511627776 < a1) := by omega
    clear hr
    rcases hc with hc | ⟨h1, hc⟩
    all_goals
      go_enter Try.func7, Try.ntmps7
      go_wp2_with (go_at_call 9; refine (small_any _).mono ?_; rintro e w' ⟨rfl, rfl⟩)
      go_ret
      exact ⟨rfl, Grown.refl _⟩
  · have t1 : turnB x (a1 + 64) = turnB x a1 := turn_mod _ _ _ (by omega)
    have t2 : U (turnB (B 0) a1) = 0 := by
      have e : B 0 = 0#64 := rfl
      rw [e]; unfold turnB; rw [rot_none _ (by omega)]; rfl
    have t3 : U (turnB (B 18446744073709551615) a1) = 18446744073709551615 := by
      have e : B 18446744073709551615 = BitVec.allOnes 64 := by decide
      rw [e]; unfold turnB; rw [rot_full _ (by omega)]; decide
    have hcn : cnt (bt (turnB x a1)) 64 = cnt (bt x) 64 := cnt_rot x _ (by omega)
    have HC : Hid (cnt (bt (turnB x a1)) 64 = cnt (bt x) 64) := hcn
    clear hcn
    go_enter Try.func7, Try.ntmps7
    go_wp2_with (first | (go_at_call 9; refine (small_any _).mono ?_; rintro e w' ⟨rfl, hw⟩; have hw := hw.symm; subst hw) | (go_at_call 12; refine (turn_any _ _ _).mono ?_; rintro e w' ⟨rfl, hw⟩; have hw := hw.symm; subst hw))
    go_loopw [7, 8] (fun n i wr => ∃ (k : Nat) (D : Int), k ≤ 64 ∧ i = .int .i64 k ∧ n = .int .i64 D ∧ D = cnt (bt x) k - cnt (bt (turnB x a1)) k ∧ ∃ m, wr = w.drewN m) (fun _ i _ => 64 - (intOf i).toNat)
    case atStart => exact ⟨0, 0, by omega, rfl, rfl, rfl, 0, rfl⟩
    case round =>
      obtain ⟨k, D, hk, rfl, rfl, hD, m, rfl⟩ := hrel
      have c1 := cnt_bd x k
      have c2 := cnt_bd (turnB x a1) k
      have d1 : -64 ≤ D := by omega
      have d2 : D ≤ 64 := by omega
      have HD : Hid (D = cnt (bt x) k - cnt (bt (turnB x a1)) k) := hD
      clear hD c1 c2
      have e1 := bt_bd x k
      have e2 := bt_bd (turnB x a1) k
      have f1 := bt_eq x k
      have f2 := bt_eq (turnB x a1) k
      have u1 := U_nonneg x
      have u2 := U_nonneg (turnB x a1)
      by_cases hlt : k < 64
      · go_wp2
        go_quiet (fail)
        go_wp2
        go_roundw
        case rel =>
          refine ⟨k + 1, D + bt x k - bt (turnB x a1) k, by omega, by go_num, by go_num, ?_, _, rfl⟩
          rw [HD.out]; show _ = cnt (bt x) k + bt x k - (cnt (bt (turnB x a1)) k + bt (turnB x a1) k); omega
        case measure => simp [intOf]; omega
      · obtain rfl : k = 64 := by omega
        have hz : D = 0 := by rw [HD.out, HC.out]; omega
        subst hz
        clear HD HC f1 f2 e1 e2 d1 d2
        have T : Hid True := trivial
        go_wp2_with (first | (go_at_call 12; clear T; refine (turn_any x _ _).mono ?_; rintro e w' ⟨rfl, hw⟩; have hw := hw.symm; subst hw) | (go_at_call 12; refine (turn_int _ _ _ (by decide) (by decide)).mono ?_; rintro e w' ⟨rfl, hw⟩; have hw := hw.symm; subst hw))
        go_ret
        exact ⟨rfl, grown_drewN _ _⟩

/-! ### THE ROW's STEP: WRITTEN OUT: LEAVE IT -/
set_option maxRecDepth 100000 in
theorem lifted (os : Os) (started : os.Started) (H : Type) (enc : TypeId × Value → H) :
    ReturnsInHanded {} Try.checked os 7 .any (Rows.mixWrapsSpec.pre6 enc Try.prog Try.f7 Rows.mixWrapsRow.domain false) (Rows.mixWrapsSpec.post enc Try.prog Try.f7 false true false false) := by
  refine returnsInHanded_of_change (C := Try.checked) own started (by kernel_rfl) Try.func7
    (ChangeSpec.witness6 (enc := enc) (C := Try.checked) false ⟨#[], #[.int .u64 0, .int .i64 0], []⟩ 8 (by kernel_rfl) (by kernel_rfl) (by kernel_rfl) (by kernel_rfl)) ?_
  intro W base args ds gs before hval0 hW hcnd _
  have hval : ∀ (j : Nat) t v, Try.f7.params[j]? = some t → args[j]? = some v → Value.okWide Try.prog W .any base t v := hval0
  have hW' := hW
  obtain ⟨p, q, hA0, hV, rfl, hfz, hnd⟩ := hW
  have hA : DataW.TrodAll enc Try.prog W 0 (fun _ => true) true Try.f7.params.toList args.toList ds p := hA0
  rw [Try.params7] at hA hval
  obtain ⟨v0, vs0, d0, ds0, p0, q0, hargs, rfl, rfl, h0, r0⟩ := trodAll_cons hA
  obtain ⟨v1, vs1, d1, ds1, p1, q1, rfl, rfl, rfl, h1, r1⟩ := trodAll_cons r0
  obtain ⟨rfl, rfl, rfl⟩ := trodAll_nil r1
  obtain rfl : args = #[v0, v1] := by cases args; simp_all
  obtain ⟨rfl, rfl⟩ := trodVars_none hV
  obtain ⟨a0, rfl, rfl, rfl, w0⟩ := open_int Try.underlying23 (hval 0 23 v0 rfl rfl) h0
  obtain ⟨a1, rfl, rfl, rfl, w1⟩ := open_int Try.underlying3 (hval 1 3 v1 rfl rfl) h1
  clear hA0 hval0
  simp only [List.append_nil] at hW'
  refine (walk a0 a1 w0 w1 W).mono fun e W' ⟨he, hg⟩ => ?_
  subst he
  exact ⟨_, rfl, post_of_same (pa := []) (pv := []) hW' (fun _ _ _ => (trodAll_cons_mk (shut_bool Try.underlying4 _) trodAll_mk0)) (fun sp _ => (trodAll_cons_mk (shut_int Try.underlying23 w0) (trodAll_cons_mk (shut_int Try.underlying3 w1) trodAll_mk0))) (fun _ _ => rfl) rfl
    (hg.frame _) hg.2.1 (ok_one (by kernel_rfl) rfl (okWide_bool_mk Try.underlying4 _))⟩

theorem over : Rows.mixWrapsRow.holds Try.pinned (OpenSpec.ofChange Rows.mixWrapsSpec) :=
  OpenClaim.holds_of_wide 7 Try.f7 rfl rfl rfl rfl rfl rfl rfl ⟨rfl, rfl, rfl, rfl, rfl⟩ rfl rfl rfl rfl rfl (by kernel_rfl) Try.func7 (by kernel_rfl)
    (of_decide_eq_true (by kernel_rfl)) (by unfold Func.isWrapper; first | (rw [if_pos (by decide +kernel)]; kernel_rfl) | (rw [if_neg (by decide +kernel)]; exact ⟨rfl, rfl⟩))
    (fun os started H enc _ => lifted os started H enc)

/-- ████ THE STATEMENT ████ -/
theorem proved : Rows.MixWrapsSaid :=
  over
end Go.Proofs.Ytbdpbkpmhlgaaaa.mixWraps

namespace Go.Proofs.Ytbdpbkpmhlgaaaa
/-- The given statement. -/
theorem mixWraps_holds : Rows.MixWrapsSaid := mixWraps.proved
#print axioms mixWraps_holds
end Go.Proofs.Ytbdpbkpmhlgaaaa
