/-
  Proved: pantrylaw02.NibbleFills returns true for every word w and number i: a counter is full behind as many Incs as are left to 15, and not one more (P2.2). No condition.
-/
import Derived.Test.YtemdgkmcjpagiaaRows
import Derived.WalkKit
import Derived.ProofKit
import Derived.OpenShut
import Derived.Test.YtemdgkmcjpagiaaNibSmall
import Derived.Test.YtemdgkmcjpagiaaNibMore
namespace Go.Proofs.Ytemdgkmcjpagiaa.nibbleFills
open Go.ChangeShapes Go.WideShapes Go.ChangeAt Go.RowKit
set_option linter.unusedVariables false      -- a walk need not use every 'w<i>' (that an integer argument fits its kind)

theorem own : ownKnob Try.prog.godebug = none := by kernel_rfl

/-! ### STEP 1: THE WALK: the Go text returns true. 'Grown w w'': the world has at most new blocks (Derived/RowKit3.lean). Part the cases AHEAD of 'go_enter' where a test parts the walk; take each callee by a contract of your own. -/
theorem walk (a0 : Int) (a1 : Int) (w0 : (Lit.int .u64 a0).wf = true) (w1 : (Lit.int .i64 a1).wf = true) (w : World) :
    Calls Try.prog 8 #[.int .u64 a0, .int .i64 a1] w fun e w' => e = .returned (.bool true) ∧ Grown w w' := by
  obtain ⟨x, rfl⟩ := wf_u64 w0
  have hg := Grown.refl w
  by_cases hr : a1 < 0 ∨ 15 < a1
  · have hc : a1 < 0 ∨ (0 ≤ a1 ∧ 15 < a1) := by omega
    clear hr
    rcases hc with h1 | ⟨h1, h2⟩
    all_goals
      go_enter Try.func8, Try.ntmps8
      go_wp2_with (go_at_call 9; refine (small_any _).mono ?_; rintro e w' ⟨rfl, hg'⟩; replace hg := grownTrans hg hg'; clear hg')
      go_ret
      exact ⟨rfl, hg⟩
  · obtain ⟨h1, h2⟩ : 0 ≤ a1 ∧ a1 ≤ 15 := by omega
    clear hr
    have b0 := getI_bd x a1
    have s0 := sumI_bd x
    go_enter Try.func8, Try.ntmps8
    go_wp2_with (first | (go_at_call 9; refine (small_any _).mono ?_; rintro e w' ⟨rfl, hg'⟩; replace hg := grownTrans hg hg'; clear hg') | (go_at_call 12; refine (get_any _ _ _).mono ?_; rintro e w' ⟨rfl, hw⟩; have hw := hw.symm; subst hw) | (go_at_call 20; refine (sum_any _ _).mono ?_; rintro e w' ⟨rfl, hg'⟩; replace hg := grownTrans hg hg'; clear hg'))
    go_loopw [0, 8] (fun y i wr => ∃ (z : BitVec 64) (k : Int), getI x a1 ≤ k ∧ k ≤ 15 ∧ i = .int .i64 k ∧ y = .int .u64 (U z) ∧ getI z a1 = k ∧ sumI z = sumI x + (k - getI x a1) ∧ Grown w wr) (fun _ i _ => (15 - intOf i).toNat)
    case atStart => exact ⟨x, _, by omega, by omega, rfl, rfl, rfl, by omega, hg⟩
    case round =>
      clear hg
      obtain ⟨z, k, k1, k2, rfl, rfl, hz, hs, hg⟩ := hrel
      by_cases hlt : k < 15
      · have ho : incOk z a1 = true := incOk_yes z a1 h1 (by omega) (by omega)
        have hi : incI z a1 = setI z a1 (k + 1) := by unfold incI; rw [ho, if_pos rfl, hz]
        have g1 : getI (setI z a1 (k + 1)) a1 = k + 1 := by rw [getI_set _ _ _ _ (inC_mk h1 (by omega)), if_pos rfl]; exact clamp_in _ (by omega) (by omega)
        have g2 : sumI (setI z a1 (k + 1)) = sumI x + k + 1 - getI x a1 := by rw [set_sum z a1 (k + 1) (inC_mk h1 (by omega)) (by omega) (by omega), hz, hs]; omega
        clear hz hs
        go_wp2_with (first | (go_at_call 10; refine (inc_grown _ _ _).mono ?_; rintro e w' ⟨rfl, hg'⟩; replace hg := grownTrans hg hg'; clear hg') | (go_at_call 12; refine (get_any _ _ _).mono ?_; rintro e w' ⟨rfl, hw⟩; have hw := hw.symm; subst hw) | (go_at_call 20; refine (sum_any _ _).mono ?_; rintro e w' ⟨rfl, hg'⟩; replace hg := grownTrans hg hg'; clear hg'))
        go_roundw
        case rel => exact ⟨setI z a1 (k + 1), k + 1, by omega, by omega, by go_num, rfl, g1, by rw [g2]; omega, hg⟩
        case measure => simp [intOf]; omega
      · have e15 : k = 15 := by omega
        subst e15
        have ho : incOk z a1 = false := incOk_full z a1 (by omega)
        have hi : incI z a1 = z := incI_no z a1 ho
        clear hs
        go_wp2_with (first | (go_at_call 10; refine (inc_grown _ _ _).mono ?_; rintro e w' ⟨rfl, hg'⟩; replace hg := grownTrans hg hg'; clear hg') | (go_at_call 12; refine (get_any _ _ _).mono ?_; rintro e w' ⟨rfl, hw⟩; have hw := hw.symm; subst hw))
        go_ret
        exact ⟨rfl, hg⟩

/-! ### THE ROW's STEP: WRITTEN OUT: LEAVE IT -/
set_option maxRecDepth 100000 in
theorem lifted (os : Os) (started : os.Started) (H : Type) (enc : TypeId × Value → H) :
    ReturnsInHanded {} Try.checked os 8 .any (Rows.nibbleFillsSpec.pre6 enc Try.prog Try.f8 Rows.nibbleFillsRow.domain false) (Rows.nibbleFillsSpec.post enc Try.prog Try.f8 false true false false) := by
  refine returnsInHanded_of_change (C := Try.checked) own started (by kernel_rfl) Try.func8
    (ChangeSpec.witness6 (enc := enc) (C := Try.checked) false ⟨#[], #[.int .u64 0, .int .i64 0], []⟩ 8 (by kernel_rfl) (by kernel_rfl) (by kernel_rfl) (by kernel_rfl)) ?_
  intro W base args ds gs before hval0 hW hcnd _
  have hval : ∀ (j : Nat) t v, Try.f8.params[j]? = some t → args[j]? = some v → Value.okWide Try.prog W .any base t v := hval0
  have hW' := hW
  obtain ⟨p, q, hA0, hV, rfl, hfz, hnd⟩ := hW
  have hA : DataW.TrodAll enc Try.prog W 0 (fun _ => true) true Try.f8.params.toList args.toList ds p := hA0
  rw [Try.params8] at hA hval
  obtain ⟨v0, vs0, d0, ds0, p0, q0, hargs, rfl, rfl, h0, r0⟩ := trodAll_cons hA
  obtain ⟨v1, vs1, d1, ds1, p1, q1, rfl, rfl, rfl, h1, r1⟩ := trodAll_cons r0
  obtain ⟨rfl, rfl, rfl⟩ := trodAll_nil r1
  obtain rfl : args = #[v0, v1] := by cases args; simp_all
  obtain ⟨rfl, rfl⟩ := trodVars_none hV
  obtain ⟨a0, rfl, rfl, rfl, w0⟩ := open_int Try.underlying22 (hval 0 22 v0 rfl rfl) h0
  obtain ⟨a1, rfl, rfl, rfl, w1⟩ := open_int Try.underlying3 (hval 1 3 v1 rfl rfl) h1
  clear hA0 hval0
  simp only [List.append_nil] at hW'
  refine (walk a0 a1 w0 w1 W).mono fun e W' ⟨he, hg⟩ => ?_
  subst he
  exact ⟨_, rfl, post_of_same (pa := []) (pv := []) hW' (fun _ _ _ => (trodAll_cons_mk (shut_bool Try.underlying4 _) trodAll_mk0)) (fun sp _ => (trodAll_cons_mk (shut_int Try.underlying22 w0) (trodAll_cons_mk (shut_int Try.underlying3 w1) trodAll_mk0))) (fun _ _ => rfl) rfl
    (hg.frame _) hg.2.1 (ok_one (by kernel_rfl) rfl (okWide_bool_mk Try.underlying4 _))⟩

theorem over : Rows.nibbleFillsRow.holds Try.pinned (OpenSpec.ofChange Rows.nibbleFillsSpec) :=
  OpenClaim.holds_of_wide 8 Try.f8 rfl rfl rfl rfl rfl rfl rfl ⟨rfl, rfl, rfl, rfl, rfl⟩ rfl rfl rfl rfl rfl (by kernel_rfl) Try.func8 (by kernel_rfl)
    (of_decide_eq_true (by kernel_rfl)) (by unfold Func.isWrapper; first | (rw [if_pos (by decide +kernel)]; kernel_rfl) | (rw [if_neg (by decide +kernel)]; exact ⟨rfl, rfl⟩))
    (fun os started H enc _ => lifted os started H enc)

/-- ████ THE STATEMENT ████ -/
theorem proved : Rows.NibbleFillsSaid :=
  over
end Go.Proofs.Ytemdgkmcjpagiaa.nibbleFills

namespace Go.Proofs.Ytemdgkmcjpagiaa
/-- The given statement. -/
theorem nibbleFills_holds : Rows.NibbleFillsSaid := nibbleFills.proved
#print axioms nibbleFills_holds
end Go.Proofs.Ytemdgkmcjpagiaa
