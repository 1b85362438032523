/-
  Proved: pantrylaw02.NibbleSets returns true for every word w and numbers i, a and b: what was set is got, what is set twice is set last, and a word is told by its counters (P2.1). No condition.
-/
import Derived.Test.YtemdgkmcjpagiaaRows
import Derived.WalkKit
import Derived.ProofKit
import Derived.OpenShut
import Derived.Test.YtemdgkmcjpagiaaNibSmall
import Derived.Test.YtemdgkmcjpagiaaNibMore
namespace Go.Proofs.Ytemdgkmcjpagiaa.nibbleSets
open Go.ChangeShapes Go.WideShapes Go.ChangeAt Go.RowKit
set_option linter.unusedVariables false      -- a walk need not use every 'w<i>' (that an integer argument fits its kind)

theorem own : ownKnob Try.prog.godebug = none := by kernel_rfl

/-! ### STEP 1: THE WALK: the Go text returns true. 'Grown w w'': the world has at most new blocks (Derived/RowKit3.lean). Part the cases AHEAD of 'go_enter' where a test parts the walk; take each callee by a contract of your own. -/
theorem walk (a0 : Int) (a1 : Int) (a2 : Int) (a3 : Int) (w0 : (Lit.int .u64 a0).wf = true) (w1 : (Lit.int .i64 a1).wf = true) (w2 : (Lit.int .i64 a2).wf = true) (w3 : (Lit.int .i64 a3).wf = true) (w : World) :
    Calls Try.prog 7 #[.int .u64 a0, .int .i64 a1, .int .i64 a2, .int .i64 a3] w fun e w' => e = .returned (.bool true) ∧ Grown w w' := by
  obtain ⟨x, rfl⟩ := wf_u64 w0
  have hg := Grown.refl w
  by_cases hr : a1 < 0 ∨ 15 < a1 ∨ a2 < 0 ∨ 15 < a2 ∨ a3 < 0 ∨ 15 < a3
  · have hc : a1 < 0 ∨ (0 ≤ a1 ∧ 15 < a1) ∨ (0 ≤ a1 ∧ a1 ≤ 15 ∧ a2 < 0) ∨ (0 ≤ a1 ∧ a1 ≤ 15 ∧ 0 ≤ a2 ∧ 15 < a2) ∨ (0 ≤ a1 ∧ a1 ≤ 15 ∧ 0 ≤ a2 ∧ a2 ≤ 15 ∧ a3 < 0) ∨ (0 ≤ a1 ∧ a1 ≤ 15 ∧ 0 ≤ a2 ∧ a2 ≤ 15 ∧ 0 ≤ a3 ∧ 15 < a3) := by omega
    clear hr
    rcases hc with h1 | ⟨h1, h2⟩ | ⟨h1, h2, h3⟩ | ⟨h1, h2, h3, h4⟩ | ⟨h1, h2, h3, h4, h5⟩ | ⟨h1, h2, h3, h4, h5, h6⟩
    all_goals
      go_enter Try.func7, Try.ntmps7
      go_wp2_with (go_at_call 9; refine (small_any _).mono ?_; rintro e w' ⟨rfl, hg'⟩; replace hg := grownTrans hg hg'; clear hg')
      go_ret
      exact ⟨rfl, hg⟩
  · obtain ⟨h1, h2, h3, h4, h5, h6⟩ : 0 ≤ a1 ∧ a1 ≤ 15 ∧ 0 ≤ a2 ∧ a2 ≤ 15 ∧ 0 ≤ a3 ∧ a3 ≤ 15 := by omega
    clear hr
    have q1 : getI (setI x a1 a2) a1 = a2 := by rw [getI_set _ _ _ _ (inC_mk h1 (by omega)), if_pos rfl]; exact clamp_in a2 h3 h4
    have q2 : setI (setI x a1 a2) a1 a3 = setI x a1 a3 := set_set x a1 a2 a3
    have q3 : setI (setI x a1 a2) a1 (getI x a1) = x := by rw [set_set]; exact set_get x a1
    go_enter Try.func7, Try.ntmps7
    go_wp2_with (first | (go_at_call 9; refine (small_any _).mono ?_; rintro e w' ⟨rfl, hg'⟩; replace hg := grownTrans hg hg'; clear hg') | (go_at_call 14; refine (set_grown _ _ _ _).mono ?_; rintro e w' ⟨rfl, hg'⟩; replace hg := grownTrans hg hg'; clear hg'))
    go_loopw [11, 12] (fun y i wr => ∃ k : Nat, k ≤ 16 ∧ i = .int .i64 k ∧ y = .int .u64 (U (upB x k)) ∧ Grown w wr) (fun _ i _ => 16 - (intOf i).toNat)
    case atStart => exact ⟨0, by omega, rfl, rfl, hg⟩
    case round =>
      clear hg
      obtain ⟨k, hk, rfl, rfl, hg⟩ := hrel
      by_cases hlt : k < 16
      · go_wp2_with (first | (go_at_call 12; refine (get_any _ _ _).mono ?_; rintro e w' ⟨rfl, hw⟩; have hw := hw.symm; subst hw) | (go_at_call 14; refine (set_grown _ _ _ _).mono ?_; rintro e w' ⟨rfl, hg'⟩; replace hg := grownTrans hg hg'; clear hg'))
        go_roundw
        case rel => exact ⟨k + 1, by omega, by go_num, rfl, hg⟩
        case measure => simp [intOf]; omega
      · obtain rfl : k = 16 := by omega
        rw [up_full]
        go_wp2_with (first | (go_at_call 12; refine (get_any _ _ _).mono ?_; rintro e w' ⟨rfl, hw⟩; have hw := hw.symm; subst hw) | (go_at_call 14; refine (set_grown _ _ _ _).mono ?_; rintro e w' ⟨rfl, hg'⟩; replace hg := grownTrans hg hg'; clear hg'))
        go_ret
        exact ⟨rfl, hg⟩

/-! ### THE ROW's STEP: WRITTEN OUT: LEAVE IT -/
set_option maxRecDepth 100000 in
theorem lifted (os : Os) (started : os.Started) (H : Type) (enc : TypeId × Value → H) :
    ReturnsInHanded {} Try.checked os 7 .any (Rows.nibbleSetsSpec.pre6 enc Try.prog Try.f7 Rows.nibbleSetsRow.domain false) (Rows.nibbleSetsSpec.post enc Try.prog Try.f7 false true false false) := by
  refine returnsInHanded_of_change (C := Try.checked) own started (by kernel_rfl) Try.func7
    (ChangeSpec.witness6 (enc := enc) (C := Try.checked) false ⟨#[], #[.int .u64 0, .int .i64 0, .int .i64 0, .int .i64 0], []⟩ 8 (by kernel_rfl) (by kernel_rfl) (by kernel_rfl) (by kernel_rfl)) ?_
  intro W base args ds gs before hval0 hW hcnd _
  have hval : ∀ (j : Nat) t v, Try.f7.params[j]? = some t → args[j]? = some v → Value.okWide Try.prog W .any base t v := hval0
  have hW' := hW
  obtain ⟨p, q, hA0, hV, rfl, hfz, hnd⟩ := hW
  have hA : DataW.TrodAll enc Try.prog W 0 (fun _ => true) true Try.f7.params.toList args.toList ds p := hA0
  rw [Try.params7] at hA hval
  obtain ⟨v0, vs0, d0, ds0, p0, q0, hargs, rfl, rfl, h0, r0⟩ := trodAll_cons hA
  obtain ⟨v1, vs1, d1, ds1, p1, q1, rfl, rfl, rfl, h1, r1⟩ := trodAll_cons r0
  obtain ⟨v2, vs2, d2, ds2, p2, q2, rfl, rfl, rfl, h2, r2⟩ := trodAll_cons r1
  obtain ⟨v3, vs3, d3, ds3, p3, q3, rfl, rfl, rfl, h3, r3⟩ := trodAll_cons r2
  obtain ⟨rfl, rfl, rfl⟩ := trodAll_nil r3
  obtain rfl : args = #[v0, v1, v2, v3] := by cases args; simp_all
  obtain ⟨rfl, rfl⟩ := trodVars_none hV
  obtain ⟨a0, rfl, rfl, rfl, w0⟩ := open_int Try.underlying22 (hval 0 22 v0 rfl rfl) h0
  obtain ⟨a1, rfl, rfl, rfl, w1⟩ := open_int Try.underlying3 (hval 1 3 v1 rfl rfl) h1
  obtain ⟨a2, rfl, rfl, rfl, w2⟩ := open_int Try.underlying3 (hval 2 3 v2 rfl rfl) h2
  obtain ⟨a3, rfl, rfl, rfl, w3⟩ := open_int Try.underlying3 (hval 3 3 v3 rfl rfl) h3
  clear hA0 hval0
  simp only [List.append_nil] at hW'
  refine (walk a0 a1 a2 a3 w0 w1 w2 w3 W).mono fun e W' ⟨he, hg⟩ => ?_
  subst he
  exact ⟨_, rfl, post_of_same (pa := []) (pv := []) hW' (fun _ _ _ => (trodAll_cons_mk (shut_bool Try.underlying4 _) trodAll_mk0)) (fun sp _ => (trodAll_cons_mk (shut_int Try.underlying22 w0) (trodAll_cons_mk (shut_int Try.underlying3 w1) (trodAll_cons_mk (shut_int Try.underlying3 w2) (trodAll_cons_mk (shut_int Try.underlying3 w3) trodAll_mk0))))) (fun _ _ => rfl) rfl
    (hg.frame _) hg.2.1 (ok_one (by kernel_rfl) rfl (okWide_bool_mk Try.underlying4 _))⟩

theorem over : Rows.nibbleSetsRow.holds Try.pinned (OpenSpec.ofChange Rows.nibbleSetsSpec) :=
  OpenClaim.holds_of_wide 7 Try.f7 rfl rfl rfl rfl rfl rfl rfl ⟨rfl, rfl, rfl, rfl, rfl⟩ rfl rfl rfl rfl rfl (by kernel_rfl) Try.func7 (by kernel_rfl)
    (of_decide_eq_true (by kernel_rfl)) (by unfold Func.isWrapper; first | (rw [if_pos (by decide +kernel)]; kernel_rfl) | (rw [if_neg (by decide +kernel)]; exact ⟨rfl, rfl⟩))
    (fun os started H enc _ => lifted os started H enc)

/-- ████ THE STATEMENT ████ -/
theorem proved : Rows.NibbleSetsSaid :=
  over
end Go.Proofs.Ytemdgkmcjpagiaa.nibbleSets

namespace Go.Proofs.Ytemdgkmcjpagiaa
/-- The given statement. -/
theorem nibbleSets_holds : Rows.NibbleSetsSaid := nibbleSets.proved
#print axioms nibbleSets_holds
end Go.Proofs.Ytemdgkmcjpagiaa
