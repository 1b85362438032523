/-
  Proved: pantrylaw11.PolicySingle returns true for every capacity, every seed and every number: of nodes of one key that come one by one the one that came into probation last goes, where more than the capacity came. No condition.
-/
import Derived.Test.YtlmcopenbeammaaRows
import Derived.WalkKit
import Derived.ProofKit
import Derived.OpenShut
import Derived.Test.YtlmcopenbeammaaPoSmall
namespace Go.Proofs.Ytlmcopenbeammaa.policySingle
open Go.ChangeShapes Go.WideShapes Go.ChangeAt Go.RowKit
set_option linter.unusedVariables false      -- a walk need not use every 'w<i>' (that an integer argument fits its kind)

theorem own : ownKnob Try.prog.godebug = none := by kernel_rfl

/-! ### STEP 1: THE WALK: the Go text returns true. 'Grown w w'': the world has at most new blocks (Derived/RowKit3.lean). Part the cases AHEAD of 'go_enter' where a test parts the walk; take each callee by a contract of your own. -/
open Go.Proofs.Ytlmcopenbeammaa.Po Go.Deep in set_option maxRecDepth 100000 in set_option maxHeartbeats 4000000 in
theorem walk (a0 : Int) (a1 : Int) (a2 : Int) (w0 : (Lit.int .i64 a0).wf = true) (w1 : (Lit.int .i64 a1).wf = true) (w2 : (Lit.int .i64 a2).wf = true) (w : World) :
    Calls Try.prog 5 #[.int .i64 a0, .int .i64 a1, .int .i64 a2] w fun e w' => e = .returned (.bool true) ∧ Grown w w' := by
  have SM := fun w => small_q w
  have NW := fun w => new_p a0 a1 w
  unfold ptr at NW
  by_cases n1 : a0 < 2
  · have d1 : decide (a0 < 2) = true := by simpa using n1
    go_enter Try.func5, Try.ntmps5
    go_wp2_with (first | (go_at_call 6; refine (SM _).mono ?_; rintro e w1 ⟨rfl, g1⟩) | (go_at_call 7; refine (NW _).mono ?_; rintro e w2 ⟨A, Φ, rfl, P2, g2, b2⟩))
    go_ret
    exact ⟨rfl, grownTrans g1 g2⟩
  have d1 : decide (a0 < 2) = false := by simpa using n1
  by_cases n2 : 50 < a0
  · have d2 : decide (50 < a0) = true := by simpa using n2
    go_enter Try.func5, Try.ntmps5
    go_wp2_with (first | (go_at_call 6; refine (SM _).mono ?_; rintro e w1 ⟨rfl, g1⟩) | (go_at_call 7; refine (NW _).mono ?_; rintro e w2 ⟨A, Φ, rfl, P2, g2, b2⟩))
    go_ret
    exact ⟨rfl, grownTrans g1 g2⟩
  have d2 : decide (50 < a0) = false := by simpa using n2
  by_cases n3 : a2 < 0
  · have d3 : decide (a2 < 0) = true := by simpa using n3
    go_enter Try.func5, Try.ntmps5
    go_wp2_with (first | (go_at_call 6; refine (SM _).mono ?_; rintro e w1 ⟨rfl, g1⟩) | (go_at_call 7; refine (NW _).mono ?_; rintro e w2 ⟨A, Φ, rfl, P2, g2, b2⟩))
    go_ret
    exact ⟨rfl, grownTrans g1 g2⟩
  have d3 : decide (a2 < 0) = false := by simpa using n3
  by_cases n4 : 100 < a2
  · have d4 : decide (100 < a2) = true := by simpa using n4
    go_enter Try.func5, Try.ntmps5
    go_wp2_with (first | (go_at_call 6; refine (SM _).mono ?_; rintro e w1 ⟨rfl, g1⟩) | (go_at_call 7; refine (NW _).mono ?_; rintro e w2 ⟨A, Φ, rfl, P2, g2, b2⟩))
    go_ret
    exact ⟨rfl, grownTrans g1 g2⟩
  have d4 : decide (100 < a2) = false := by simpa using n4
  have wm : IntKind.i64.wrap (10 * a0) = 10 * a0 := by simp [IntKind.wrap, IntKind.signed, IntKind.bits]; omega
  by_cases n5 : 10 * a0 ≤ a2
  · have d5 : decide (10 * a0 ≤ a2) = true := by simpa using n5
    go_enter Try.func5, Try.ntmps5
    go_wp2_with (first | (go_at_call 6; refine (SM _).mono ?_; rintro e w1 ⟨rfl, g1⟩) | (go_at_call 7; refine (NW _).mono ?_; rintro e w2 ⟨A, Φ, rfl, P2, g2, b2⟩))
    go_ret
    exact ⟨rfl, grownTrans g1 g2⟩
  have d5 : decide (10 * a0 ≤ a2) = false := by simpa using n5
  obtain ⟨c, rfl⟩ : ∃ c : Nat, a0 = c := ⟨a0.toNat, by omega⟩
  obtain ⟨n, rfl⟩ : ∃ n : Nat, a2 = n := ⟨a2.toNat, by omega⟩
  have hcw : wh (c : Int) = c := by unfold wh mid; omega
  have hm1 := (mwid_is (c : Int)).1
  rw [hcw] at NW
  obtain ⟨mw, hmw⟩ : ∃ m, m = mwid (c : Int) := ⟨_, rfl⟩
  rw [← hmw] at NW hm1
  have ST : Hid (Sg c (mixB a1 7) mw 0 (Ps.zero (c : Int))) := Sg.start _ _ (by omega) (by omega)
  have HM : Hid (1 ≤ mw ∧ 2 ≤ c ∧ c ≤ 50 ∧ n < 10 * c ∧ n ≤ 100) := ⟨hm1, by omega, by omega, by omega, by omega⟩
  have HC : (c : Int) ≤ 50 := by omega
  have HC2 : (2 : Int) ≤ c := by omega
  have HN : (n : Int) ≤ 100 := by omega
  clear hcw hmw hm1 n1 n2 n3 n4 n5
  go_enter Try.func5, Try.ntmps5
  go_wp2_with (first | (go_at_call 6; refine (SM _).mono ?_; rintro e w1 ⟨rfl, g1⟩) | (go_at_call 7; refine (NW _).mono ?_; rintro e w2 ⟨A, Φ, rfl, P2, g2, b2⟩))
  go_loopw [9] (fun i wr => ∃ k : Nat, i = .int .i64 ((k : Int) + 1) ∧ k ≤ n ∧ Hid (∃ y Φ, Sg c (mixB a1 7) mw k y ∧ Pol wr A Φ c a1 mw y ∧ Grown w wr ∧ ∀ j, Φ j → w.heap.size ≤ j)) (fun i _ => n + 1 - (intOf i).toNat)
  case atStart => exact ⟨0, by simp, by omega, _, Φ, ST, P2, grownTrans g1 g2, fun j hj => Nat.le_trans g1.2.2 (b2 j hj)⟩
  case round =>
    clear P2 g1 g2 b2
    obtain ⟨k, rfl, hk, HR⟩ := hrel
    obtain ⟨y, Φ', s, P, g, b⟩ := HR.out
    have HS : Hid (Sg c (mixB a1 7) mw k y) := s
    have wk : IntKind.i64.wrap ((k : Int) + 1 - 1) = k := by simp [IntKind.wrap, IntKind.signed, IntKind.bits]; omega
    by_cases hlt : k < n
    · have hd : decide ((k : Int) + 1 ≤ (n : Int)) = true := by rw [decide_eq_true_eq]; omega
      have DO := sg_do P s rfl HM.out.1 HM.out.2.1 HM.out.2.2.1 (by have := HM.out.2.2.2.1; omega)
      unfold ptr evV at DO
      clear s HR
      by_cases hle : k + 1 ≤ c
      · have h1 : decide ((k : Int) + 1 ≤ (c : Int)) = true := by rw [decide_eq_true_eq]; omega
        have h2 : decide ((c : Int) < (k : Int) + 1) = false := by rw [decide_eq_false_iff_not]; omega
        go_wp2_with (first | (go_at_call 9; refine DO.mono ?_; clear DO; rintro e w3 ⟨p, l, cc, Φ3, y3, rfl, s3, P3, S3, h4, _, _⟩; have e0 := h4 hle; subst e0; clear h4; have HS3 : Hid (Sg c (mixB a1 7) mw (k + 1) y3) := s3; clear s3))
        exact ⟨⟨k + 1, by go_num, by omega, y3, Φ3, HS3.out, P3, (S3.keeps g b).1, (S3.keeps g b).2⟩, by simp [intOf]; omega⟩
      · have h1 : decide ((k : Int) + 1 ≤ (c : Int)) = false := by rw [decide_eq_false_iff_not]; omega
        have h2 : decide ((c : Int) < (k : Int) + 1) = true := by rw [decide_eq_true_eq]; omega
        go_wp2_with (first | (go_at_call 9; refine DO.mono ?_; clear DO; rintro e w3 ⟨p, l, cc, Φ3, y3, rfl, s3, P3, S3, _, h4, _⟩; obtain ⟨e0, v3⟩ := h4 hle; subst e0; clear h4; have HS3 : Hid (Sg c (mixB a1 7) mw (k + 1) y3) := s3; clear s3) | (go_at_call 13; refine (ints_1 (k : Int) v3).mono ?_; rintro e w4 ⟨rfl, g4⟩))
        exact ⟨⟨k + 1, by go_num, by omega, y3, Φ3, HS3.out, P3.grown g4, grownTrans (S3.keeps g b).1 g4, (S3.keeps g b).2⟩, by simp [intOf]; omega⟩
    · obtain rfl : k = n := by omega
      have hd : decide ((k : Int) + 1 ≤ (k : Int)) = false := by rw [decide_eq_false_iff_not]; omega
      have ht := s.tot (by omega)
      have WT := weight_q P (by rw [ht]; omega)
      have RW := row_q P 2
      have e2 : (y.t.rowI 2).length = 0 := by show (y.t.L 2).length = 0; rw [s.L2]; rfl
      rw [ht] at WT
      rw [e2] at RW
      have PP : Hid (∀ W, Grown wr W → Calls Try.prog 10 #[.pointer (some ⟨A, 0, none⟩), .int .i64 2] W fun e w' => ∃ p c, e = .returned (.slice p 0 c) ∧ Grown W w') := fun W gw => by
        refine (row_q (P.grown gw) 2).mono ?_
        rintro e w' ⟨p, cx, kk, rfl, hkk, _, hg, _⟩
        rw [e2] at hkk
        subst hkk
        exact ⟨p, cx, rfl, hg⟩
      unfold ptr at WT
      clear RW ht e2 s HR HS b
      by_cases hm : (c : Int) < k
      · have hmn : ((min k c : Nat) : Int) = c := by omega
        rw [hmn] at WT
        clear hmn
        go_wp2_with (first | (go_at_call 11; refine WT.mono ?_; clear WT; rintro e w3 ⟨rfl, g3⟩) | (go_at_call 10; refine (PP.out _ g3).mono ?_; rintro e w4 ⟨p, cx, rfl, g4⟩))
        all_goals (go_ret; exact ⟨by first | rfl | (congr 2; simp; omega), grownTrans g (grownTrans g3 g4)⟩)
      · have hmn : ((min k c : Nat) : Int) = k := by omega
        rw [hmn] at WT
        clear hmn
        go_wp2_with (first | (go_at_call 11; refine WT.mono ?_; clear WT; rintro e w3 ⟨rfl, g3⟩) | (go_at_call 10; refine (PP.out _ g3).mono ?_; rintro e w4 ⟨p, cx, rfl, g4⟩))
        all_goals (go_ret; exact ⟨by first | rfl | (congr 2; simp; omega), grownTrans g (grownTrans g3 g4)⟩)

/-! ### THE ROW's STEP: WRITTEN OUT: LEAVE IT -/
set_option maxRecDepth 100000 in
theorem lifted (os : Os) (started : os.Started) (H : Type) (enc : TypeId × Value → H) :
    ReturnsInHanded {} Try.checked os 5 .any (Rows.policySingleSpec.pre6 enc Try.prog Try.f5 Rows.policySingleRow.domain false) (Rows.policySingleSpec.post enc Try.prog Try.f5 false true false false) := by
  refine returnsInHanded_of_change (C := Try.checked) own started (by kernel_rfl) Try.func5
    (ChangeSpec.witness6 (enc := enc) (C := Try.checked) false ⟨#[], #[.int .i64 0, .int .i64 0, .int .i64 0], []⟩ 8 (by kernel_rfl) (by kernel_rfl) (by kernel_rfl) (by kernel_rfl)) ?_
  intro W base args ds gs before hval0 hW hcnd _
  have hval : ∀ (j : Nat) t v, Try.f5.params[j]? = some t → args[j]? = some v → Value.okWide Try.prog W .any base t v := hval0
  have hW' := hW
  obtain ⟨p, q, hA0, hV, rfl, hfz, hnd⟩ := hW
  have hA : DataW.TrodAll enc Try.prog W 0 (fun _ => true) true Try.f5.params.toList args.toList ds p := hA0
  rw [Try.params5] at hA hval
  obtain ⟨v0, vs0, d0, ds0, p0, q0, hargs, rfl, rfl, h0, r0⟩ := trodAll_cons hA
  obtain ⟨v1, vs1, d1, ds1, p1, q1, rfl, rfl, rfl, h1, r1⟩ := trodAll_cons r0
  obtain ⟨v2, vs2, d2, ds2, p2, q2, rfl, rfl, rfl, h2, r2⟩ := trodAll_cons r1
  obtain ⟨rfl, rfl, rfl⟩ := trodAll_nil r2
  obtain rfl : args = #[v0, v1, v2] := by cases args; simp_all
  obtain ⟨rfl, rfl⟩ := trodVars_none hV
  obtain ⟨a0, rfl, rfl, rfl, w0⟩ := open_int Try.underlying3 (hval 0 3 v0 rfl rfl) h0
  obtain ⟨a1, rfl, rfl, rfl, w1⟩ := open_int Try.underlying3 (hval 1 3 v1 rfl rfl) h1
  obtain ⟨a2, rfl, rfl, rfl, w2⟩ := open_int Try.underlying3 (hval 2 3 v2 rfl rfl) h2
  clear hA0 hval0
  simp only [List.append_nil] at hW'
  refine (walk a0 a1 a2 w0 w1 w2 W).mono fun e W' ⟨he, hg⟩ => ?_
  subst he
  exact ⟨_, rfl, post_of_same (pa := []) (pv := []) hW' (fun _ _ _ => (trodAll_cons_mk (shut_bool Try.underlying4 _) trodAll_mk0)) (fun sp _ => (trodAll_cons_mk (shut_int Try.underlying3 w0) (trodAll_cons_mk (shut_int Try.underlying3 w1) (trodAll_cons_mk (shut_int Try.underlying3 w2) trodAll_mk0)))) (fun _ _ => rfl) rfl
    (hg.frame _) hg.2.1 (ok_one (by kernel_rfl) rfl (okWide_bool_mk Try.underlying4 _))⟩

theorem over : Rows.policySingleRow.holds Try.pinned (OpenSpec.ofChange Rows.policySingleSpec) :=
  OpenClaim.holds_of_wide 5 Try.f5 rfl rfl rfl rfl rfl rfl rfl ⟨rfl, rfl, rfl, rfl, rfl⟩ rfl rfl rfl rfl rfl (by kernel_rfl) Try.func5 (by kernel_rfl)
    (of_decide_eq_true (by kernel_rfl)) (by unfold Func.isWrapper; first | (rw [if_pos (by decide +kernel)]; kernel_rfl) | (rw [if_neg (by decide +kernel)]; exact ⟨rfl, rfl⟩))
    (fun os started H enc _ => lifted os started H enc)

/-- ████ THE STATEMENT ████ -/
theorem proved : Rows.PolicySingleSaid :=
  over
end Go.Proofs.Ytlmcopenbeammaa.policySingle

namespace Go.Proofs.Ytlmcopenbeammaa
/-- The given statement. -/
theorem policySingle_holds : Rows.PolicySingleSaid := policySingle.proved
#print axioms policySingle_holds
end Go.Proofs.Ytlmcopenbeammaa
