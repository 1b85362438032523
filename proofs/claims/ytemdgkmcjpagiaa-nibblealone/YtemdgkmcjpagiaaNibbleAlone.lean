/-
  Proved: pantrylaw02.NibbleAlone returns true for every word w and numbers i and n: Inc and Set change one counter alone, by as much as they say (P2.4). No condition.
-/
import Derived.Test.YtemdgkmcjpagiaaRows
import Derived.WalkKit
import Derived.ProofKit
import Derived.OpenShut
import Derived.Test.YtemdgkmcjpagiaaNibSmall
import Derived.Test.YtemdgkmcjpagiaaNibMore
namespace Go.Proofs.Ytemdgkmcjpagiaa.nibbleAlone
open Go.ChangeShapes Go.WideShapes Go.ChangeAt Go.RowKit
set_option linter.unusedVariables false      -- a walk need not use every 'w<i>' (that an integer argument fits its kind)

theorem own : ownKnob Try.prog.godebug = none := by kernel_rfl

/-! ### STEP 1: THE WALK: the Go text returns true. 'Grown w w'': the world has at most new blocks (Derived/RowKit3.lean). Part the cases AHEAD of 'go_enter' where a test parts the walk; take each callee by a contract of your own. -/
set_option maxHeartbeats 2000000 in
theorem walk (a0 : Int) (a1 : Int) (a2 : Int) (w0 : (Lit.int .u64 a0).wf = true) (w1 : (Lit.int .i64 a1).wf = true) (w2 : (Lit.int .i64 a2).wf = true) (w : World) :
    Calls Try.prog 5 #[.int .u64 a0, .int .i64 a1, .int .i64 a2] w fun e w' => e = .returned (.bool true) ∧ Grown w w' := by
  obtain ⟨x, rfl⟩ := wf_u64 w0
  have hg := Grown.refl w
  have hcase : a1 < 0 ∨ (0 ≤ a1 ∧ 16 ≤ a1) ∨ (0 ≤ a1 ∧ a1 < 16) := by omega
  rcases hcase with hc | ⟨hc, hc'⟩ | ⟨hc, hc'⟩
  · skip
    have h1 : incOk x a1 = false := incOk_none x a1 (inC_no (by omega))
    have h2 : incI x a1 = x := incI_no x a1 h1
    have h3 : setI x a1 a2 = x := setI_none x a1 a2 (inC_no (by omega))
    go_enter Try.func5, Try.ntmps5
    go_wp2_with (first | (go_at_call 9; refine (small_any _).mono ?_; rintro e w' ⟨rfl, hg'⟩; replace hg := grownTrans hg hg'; clear hg') | (go_at_call 10; refine (inc_grown _ _ _).mono ?_; rintro e w' ⟨rfl, hg'⟩; replace hg := grownTrans hg hg'; clear hg') | (go_at_call 14; refine (set_grown _ _ _ _).mono ?_; rintro e w' ⟨rfl, hg'⟩; replace hg := grownTrans hg hg'; clear hg'))
    go_loop [11] (fun i => ∃ k : Nat, k ≤ 16 ∧ i = .int .i64 k) (fun i => 16 - (intOf i).toNat)
    case atStart => exact ⟨0, by omega, rfl⟩
    case round =>
      obtain ⟨k, hk, rfl⟩ := hrel
      have hb := getI_bd x k
      by_cases hlt : k < 16
      · have hne : ((k : Int) == a1) = false := by simp; omega
        have hne' : ((k : Int) != a1) = true := by simp; omega
        go_wp2_with (go_at_call 12; refine (get_any _ _ _).mono ?_; rintro e w' ⟨rfl, hw⟩; have hw := hw.symm; subst hw)
        go_round
        case rel => exact ⟨k + 1, by omega, by go_num⟩
        case measure => simp [intOf]; omega
      · obtain rfl : k = 16 := by omega
        go_wp2_with (go_at_call 12; refine (get_any _ _ _).mono ?_; rintro e w' ⟨rfl, hw⟩; have hw := hw.symm; subst hw)
        go_ret
        exact ⟨rfl, hg⟩
  · skip
    have h1 : incOk x a1 = false := incOk_none x a1 (inC_no (by omega))
    have h2 : incI x a1 = x := incI_no x a1 h1
    have h3 : setI x a1 a2 = x := setI_none x a1 a2 (inC_no (by omega))
    go_enter Try.func5, Try.ntmps5
    go_wp2_with (first | (go_at_call 9; refine (small_any _).mono ?_; rintro e w' ⟨rfl, hg'⟩; replace hg := grownTrans hg hg'; clear hg') | (go_at_call 10; refine (inc_grown _ _ _).mono ?_; rintro e w' ⟨rfl, hg'⟩; replace hg := grownTrans hg hg'; clear hg') | (go_at_call 14; refine (set_grown _ _ _ _).mono ?_; rintro e w' ⟨rfl, hg'⟩; replace hg := grownTrans hg hg'; clear hg'))
    go_loop [11] (fun i => ∃ k : Nat, k ≤ 16 ∧ i = .int .i64 k) (fun i => 16 - (intOf i).toNat)
    case atStart => exact ⟨0, by omega, rfl⟩
    case round =>
      obtain ⟨k, hk, rfl⟩ := hrel
      have hb := getI_bd x k
      by_cases hlt : k < 16
      · have hne : ((k : Int) == a1) = false := by simp; omega
        have hne' : ((k : Int) != a1) = true := by simp; omega
        go_wp2_with (go_at_call 12; refine (get_any _ _ _).mono ?_; rintro e w' ⟨rfl, hw⟩; have hw := hw.symm; subst hw)
        go_round
        case rel => exact ⟨k + 1, by omega, by go_num⟩
        case measure => simp [intOf]; omega
      · obtain rfl : k = 16 := by omega
        go_wp2_with (go_at_call 12; refine (get_any _ _ _).mono ?_; rintro e w' ⟨rfl, hw⟩; have hw := hw.symm; subst hw)
        go_ret
        exact ⟨rfl, hg⟩
  · have hok : ∃ b, incOk x a1 = b ∧ decide (getI x a1 < 15) = b := ⟨_, rfl, by unfold incOk; rw [inC_mk hc hc']; rfl⟩
    obtain ⟨b, h1, h2⟩ := hok
    go_enter Try.func5, Try.ntmps5
    go_wp2_with (first | (go_at_call 9; refine (small_any _).mono ?_; rintro e w' ⟨rfl, hg'⟩; replace hg := grownTrans hg hg'; clear hg') | (go_at_call 10; refine (inc_grown _ _ _).mono ?_; rintro e w' ⟨rfl, hg'⟩; replace hg := grownTrans hg hg'; clear hg') | (go_at_call 14; refine (set_grown _ _ _ _).mono ?_; rintro e w' ⟨rfl, hg'⟩; replace hg := grownTrans hg hg'; clear hg'))
    go_loop [11] (fun i => ∃ k : Nat, k ≤ 16 ∧ i = .int .i64 k) (fun i => 16 - (intOf i).toNat)
    case atStart => exact ⟨0, by omega, rfl⟩
    case round =>
      obtain ⟨k, hk, rfl⟩ := hrel
      have hb := getI_bd x k
      by_cases hlt : k < 16
      · have q1 := inc_get x a1 k (inC_nat k hlt)
        have q2 := getI_set x a1 a2 k (inC_nat k hlt)
        rw [h1] at q1
        clear h2
        by_cases e : (k : Int) = a1
        · have he : ((k : Int) == a1) = true := by simp; omega
          have he' : ((k : Int) != a1) = false := by simp; omega
          rw [if_pos e] at q2
          have hn : (a2 < 0 ∧ clampI a2 = 0) ∨ (0 ≤ a2 ∧ a2 ≤ 15 ∧ clampI a2 = a2) ∨ (0 ≤ a2 ∧ 15 < a2 ∧ clampI a2 = 15) := by unfold clampI; omega
          cases b with
          | true =>
            rw [if_pos ⟨e, rfl⟩] at q1
            clear e
            rcases hn with ⟨n1, n2⟩ | ⟨n1, n2, n3⟩ | ⟨n1, n2, n3⟩
            all_goals
              (first | rw [n3] at q2 | rw [n2] at q2)
              go_wp2_with (go_at_call 12; refine (get_any _ _ _).mono ?_; rintro e w' ⟨rfl, hw⟩; have hw := hw.symm; subst hw)
              go_round
              case rel => exact ⟨k + 1, by omega, by go_num⟩
              case measure => simp [intOf]; omega
          | false =>
            rw [if_neg (fun h => by cases h.2)] at q1
            clear e
            rcases hn with ⟨n1, n2⟩ | ⟨n1, n2, n3⟩ | ⟨n1, n2, n3⟩
            all_goals
              (first | rw [n3] at q2 | rw [n2] at q2)
              go_wp2_with (go_at_call 12; refine (get_any _ _ _).mono ?_; rintro e w' ⟨rfl, hw⟩; have hw := hw.symm; subst hw)
              go_round
              case rel => exact ⟨k + 1, by omega, by go_num⟩
              case measure => simp [intOf]; omega
        · have he : ((k : Int) == a1) = false := by simp; omega
          have he' : ((k : Int) != a1) = true := by simp; omega
          rw [if_neg e] at q2
          rw [if_neg (fun h => e h.1)] at q1
          clear e
          go_wp2_with (go_at_call 12; refine (get_any _ _ _).mono ?_; rintro e w' ⟨rfl, hw⟩; have hw := hw.symm; subst hw)
          go_round
          case rel => exact ⟨k + 1, by omega, by go_num⟩
          case measure => simp [intOf]; omega
      · obtain rfl : k = 16 := by omega
        go_wp2_with (go_at_call 12; refine (get_any _ _ _).mono ?_; rintro e w' ⟨rfl, hw⟩; have hw := hw.symm; subst hw)
        go_ret
        exact ⟨rfl, hg⟩

/-! ### THE ROW's STEP: WRITTEN OUT: LEAVE IT -/
set_option maxRecDepth 100000 in
theorem lifted (os : Os) (started : os.Started) (H : Type) (enc : TypeId × Value → H) :
    ReturnsInHanded {} Try.checked os 5 .any (Rows.nibbleAloneSpec.pre6 enc Try.prog Try.f5 Rows.nibbleAloneRow.domain false) (Rows.nibbleAloneSpec.post enc Try.prog Try.f5 false true false false) := by
  refine returnsInHanded_of_change (C := Try.checked) own started (by kernel_rfl) Try.func5
    (ChangeSpec.witness6 (enc := enc) (C := Try.checked) false ⟨#[], #[.int .u64 0, .int .i64 0, .int .i64 0], []⟩ 8 (by kernel_rfl) (by kernel_rfl) (by kernel_rfl) (by kernel_rfl)) ?_
  intro W base args ds gs before hval0 hW hcnd _
  have hval : ∀ (j : Nat) t v, Try.f5.params[j]? = some t → args[j]? = some v → Value.okWide Try.prog W .any base t v := hval0
  have hW' := hW
  obtain ⟨p, q, hA0, hV, rfl, hfz, hnd⟩ := hW
  have hA : DataW.TrodAll enc Try.prog W 0 (fun _ => true) true Try.f5.params.toList args.toList ds p := hA0
  rw [Try.params5] at hA hval
  obtain ⟨v0, vs0, d0, ds0, p0, q0, hargs, rfl, rfl, h0, r0⟩ := trodAll_cons hA
  obtain ⟨v1, vs1, d1, ds1, p1, q1, rfl, rfl, rfl, h1, r1⟩ := trodAll_cons r0
  obtain ⟨v2, vs2, d2, ds2, p2, q2, rfl, rfl, rfl, h2, r2⟩ := trodAll_cons r1
  obtain ⟨rfl, rfl, rfl⟩ := trodAll_nil r2
  obtain rfl : args = #[v0, v1, v2] := by cases args; simp_all
  obtain ⟨rfl, rfl⟩ := trodVars_none hV
  obtain ⟨a0, rfl, rfl, rfl, w0⟩ := open_int Try.underlying22 (hval 0 22 v0 rfl rfl) h0
  obtain ⟨a1, rfl, rfl, rfl, w1⟩ := open_int Try.underlying3 (hval 1 3 v1 rfl rfl) h1
  obtain ⟨a2, rfl, rfl, rfl, w2⟩ := open_int Try.underlying3 (hval 2 3 v2 rfl rfl) h2
  clear hA0 hval0
  simp only [List.append_nil] at hW'
  refine (walk a0 a1 a2 w0 w1 w2 W).mono fun e W' ⟨he, hg⟩ => ?_
  subst he
  exact ⟨_, rfl, post_of_same (pa := []) (pv := []) hW' (fun _ _ _ => (trodAll_cons_mk (shut_bool Try.underlying4 _) trodAll_mk0)) (fun sp _ => (trodAll_cons_mk (shut_int Try.underlying22 w0) (trodAll_cons_mk (shut_int Try.underlying3 w1) (trodAll_cons_mk (shut_int Try.underlying3 w2) trodAll_mk0)))) (fun _ _ => rfl) rfl
    (hg.frame _) hg.2.1 (ok_one (by kernel_rfl) rfl (okWide_bool_mk Try.underlying4 _))⟩

theorem over : Rows.nibbleAloneRow.holds Try.pinned (OpenSpec.ofChange Rows.nibbleAloneSpec) :=
  OpenClaim.holds_of_wide 5 Try.f5 rfl rfl rfl rfl rfl rfl rfl ⟨rfl, rfl, rfl, rfl, rfl⟩ rfl rfl rfl rfl rfl (by kernel_rfl) Try.func5 (by kernel_rfl)
    (of_decide_eq_true (by kernel_rfl)) (by unfold Func.isWrapper; first | (rw [if_pos (by decide +kernel)]; kernel_rfl) | (rw [if_neg (by decide +kernel)]; exact ⟨rfl, rfl⟩))
    (fun os started H enc _ => lifted os started H enc)

/-- ████ THE STATEMENT ████ -/
theorem proved : Rows.NibbleAloneSaid :=
  over
end Go.Proofs.Ytemdgkmcjpagiaa.nibbleAlone

namespace Go.Proofs.Ytemdgkmcjpagiaa
/-- The given statement. -/
theorem nibbleAlone_holds : Rows.NibbleAloneSaid := nibbleAlone.proved
#print axioms nibbleAlone_holds
end Go.Proofs.Ytemdgkmcjpagiaa
