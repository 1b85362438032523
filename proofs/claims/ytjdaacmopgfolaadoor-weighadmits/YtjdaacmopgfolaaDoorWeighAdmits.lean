/-
  Proved: pantrylaw08.WeighAdmits returns true for every key, weight and capacity: what may come in, and why something may not (P8.1, P8.2). Conditions: errors.errorType holds what the program's text lays (tied by the card); internal/strconv.uint64pow10 may hold any twenty numbers.
-/
import Derived.Test.YtjdaacmopgfolaaDoorRows
import Derived.WalkKit
import Derived.ProofKit
import Derived.OpenShut
import Derived.Test.YtjdaacmopgfolaaDoorWgFault
import Derived.ShutString
import Derived.ChangeOld
import Derived.Below
import Derived.Test.YtjdaacmopgfolaaDoorGenArgs
import Derived.Test.YtjdaacmopgfolaaDoorWgLaid
import Derived.Test.YtjdaacmopgfolaaDoorTie
import Derived.Test.YtjdaacmopgfolaaDoorCards
import Derived.SevenTiedAt
namespace Go.Proofs.YtjdaacmopgfolaaDoor.weighAdmits
open Go.ChangeShapes Go.WideShapes Go.ChangeAt Go.RowKit
set_option linter.unusedVariables false

theorem laidOut : laidOutB Tryd.prog = true := by kernel_rfl

/-! ### The walk: the law returns true, and writes nothing that was there -/
set_option maxRecDepth 100000 in set_option maxHeartbeats 4000000 in
theorem walk (a0 : Int) (a1 : Int) (a2 : Int) (w : World) (hl : Laid w) (hs : w.ShapedOpen Tryd.prog) (w0 : (Lit.int .i64 a0).wf = true) (w1 : (Lit.int .i64 a1).wf = true) (w2 : (Lit.int .i64 a2).wf = true) :
    Calls Tryd.prog 3 #[.int .i64 a0, .int .i64 a1, .int .i64 a2] w fun e w' => e = .returned (.bool true) ∧ Grown w w' := by
  obtain ⟨T, hT⟩ := tab_ex hs
  clear hs
  have sm := wSmall w hl
  have i0 : In64 a0 := wf_in64 w0
  have i1 : In64 a1 := wf_in64 w1
  obtain ⟨n, hn⟩ : ∃ n, n = adm a1 a2 := ⟨_, rfl⟩
  have cA := admit_c a0 a1 a2
  have cR := refAdmit_c a1 a2
  rw [← hn] at cA cR
  have i2 : In64 n := by rw [hn]; exact adm_in64 _ _
  clear hn w0 w1 w2
  have HI : Hid (In64 n ∧ In64 a0 ∧ In64 a1) := ⟨i2, i0, i1⟩
  have HT : Hid (Tab w T) := hT
  have b0 : (a0 == a0) = true := by simp
  clear i0 i1 i2 hT
  by_cases h4 : n = 4
  · subst h4
    go_enter Tryd.func3, Tryd.ntmps3
    go_wp2_with (first
      | (go_at_call 8; refine sm.mono ?_; rintro e w1 ⟨rfl, g1⟩; clear sm)
      | (go_at_call 9; refine (cA _).mono ?_; rintro e w2 ⟨v, rfl, hv, g2⟩; have g3 := grownTrans g1 g2; have HV : Hid (FaultIs w2 v 4 a0 a1) := hv; clear g1 g2 cA hv)
      | (go_at_call 10; refine (cR _).mono ?_; rintro e w' ⟨rfl, rfl⟩; have t0 : Hid True := trivial)
      | (go_at_call 11; clear t0; refine (reason_some v a0 a1 _ (hl.grown g3) HV.out).mono ?_; rintro e w4 ⟨rfl, g4⟩; have g5 := grownTrans g3 g4; have HV2 : Hid (FaultIs w4 v 4 a0 a1) := HV.out.grown g4; clear g3 g4 HV)
      | (go_at_call 11; refine (reason_bare _ (hl.grown g5)).mono ?_; rintro e w6 ⟨rfl, g6⟩; have g7 := grownTrans g5 g6; have HV3 : Hid (FaultIs w6 v 4 a0 a1) := HV2.out.grown g6; clear g5 g6 HV2)
      | (go_at_call 12; refine (fault_c w _ T v 4 a0 a1 (hl.grown g7) (HT.out.grown g7) HV3.out HI.out.1 HI.out.2.1 HI.out.2.2 g7).mono ?_; rintro e w8 ⟨rfl, g8⟩))
    go_ret
    exact ⟨rfl, g8⟩
  · go_enter Tryd.func3, Tryd.ntmps3
    go_wp2_with (first
      | (go_at_call 8; refine sm.mono ?_; rintro e w1 ⟨rfl, g1⟩; clear sm)
      | (go_at_call 9; refine (cA _).mono ?_; rintro e w2 ⟨v, rfl, hv, g2⟩; have g3 := grownTrans g1 g2; have HV : Hid (FaultIs w2 v n a0 a1) := hv; clear g1 g2 cA hv)
      | (go_at_call 10; refine (cR _).mono ?_; rintro e w' ⟨rfl, rfl⟩; have t0 : Hid True := trivial)
      | (go_at_call 11; clear t0; refine (reason_none v n a0 a1 _ HV.out h4).mono ?_; rintro e w4 ⟨rfl, g4⟩; have g5 := grownTrans g3 g4; have HV2 : Hid (FaultIs w4 v n a0 a1) := HV.out.grown g4; clear g3 g4 HV)
      | (go_at_call 11; refine (reason_bare _ (hl.grown g5)).mono ?_; rintro e w6 ⟨rfl, g6⟩; have g7 := grownTrans g5 g6; have HV3 : Hid (FaultIs w6 v n a0 a1) := HV2.out.grown g6; clear g5 g6 HV2)
      | (go_at_call 12; refine (fault_c w _ T v n a0 a1 (hl.grown g7) (HT.out.grown g7) HV3.out HI.out.1 HI.out.2.1 HI.out.2.2 g7).mono ?_; rintro e w8 ⟨rfl, g8⟩))
    go_ret
    exact ⟨rfl, g8⟩

/-! ### The row's step -/
set_option maxRecDepth 100000 in
theorem lifted (os : Os) (started : os.Started) (H : Type) (enc : TypeId × Value → H) :
    ReturnsInHanded {} Tryd.checked os 3 .any (fun w args => (Rows.weighAdmitsSpec.pre enc Tryd.prog Tryd.f3 [] false w args ∧ laidMetH Tryd.prog [("errors.errorType", Rows.laid_errors_errorType)] w) ∧ sizedMet enc Tryd.prog Tryd.f3 (OpenSpec.ofChange Rows.weighAdmitsSpec) false w args) (Rows.weighAdmitsSpec.post enc Tryd.prog Tryd.f3 false true false false) := by
  refine returns_shaped (C := Tryd.checked) (X := fun w _ => laidMetH Tryd.prog [("errors.errorType", Rows.laid_errors_errorType)] w) (fun _ _ _ hh h => h.of_heap hh) Tryd.own started (by kernel_rfl) Tryd.func3
    (ChangeSpec.witness_at (enc := enc) (C := Tryd.checked) (os := os) (X := fun w _ => laidMetH Tryd.prog [("errors.errorType", Rows.laid_errors_errorType)] w) false (laidWorld os) #[.int .i64 0, .int .i64 0, .int .i64 0] 8 rfl (by kernel_rfl) (by kernel_rfl) (by kernel_rfl) (by kernel_rfl) (by kernel_rfl) (laidWorld_met os _)) ?_
  intro W base args ds gs before hval0 hW hcnd hL hsh
  have hval : ∀ (j : Nat) t v, Tryd.f3.params[j]? = some t → args[j]? = some v → Value.okWide Tryd.prog W .any base t v := hval0
  have hW' := hW
  obtain ⟨p, q, hA0, hV, rfl, hfz, hnd⟩ := hW
  have hA : DataW.TrodAll enc Tryd.prog W 0 (fun _ => true) true Tryd.f3.params.toList args.toList ds p := hA0
  rw [Tryd.params3] at hA hval
  obtain ⟨v0, vs0, d0, ds0, p0, q0, hargs, rfl, rfl, h0, r0⟩ := trodAll_cons hA
  obtain ⟨v1, vs1, d1, ds1, p1, q1, rfl, rfl, rfl, h1, r1⟩ := trodAll_cons r0
  obtain ⟨v2, vs2, d2, ds2, p2, q2, rfl, rfl, rfl, h2, r2⟩ := trodAll_cons r1
  obtain ⟨rfl, rfl, rfl⟩ := trodAll_nil r2
  obtain rfl : args = #[v0, v1, v2] := by cases args; simp_all
  obtain ⟨rfl, rfl⟩ := trodVars_none hV
  obtain ⟨a0, rfl, rfl, rfl, w0⟩ := open_int Tryd.underlying3 (hval 0 3 v0 rfl rfl) h0
  obtain ⟨a1, rfl, rfl, rfl, w1⟩ := open_int Tryd.underlying3 (hval 1 3 v1 rfl rfl) h1
  obtain ⟨a2, rfl, rfl, rfl, w2⟩ := open_int Tryd.underlying3 (hval 2 3 v2 rfl rfl) h2
  clear hA0 hval0
  refine (walk a0 a1 a2 W (laid_of_met hL) hsh w0 w1 w2).mono fun e W' ⟨he, bel⟩ => ?_
  subst he
  exact ⟨_, rfl, _, _, _, [], _, [], hW', trodAll_mk1 (shut_bool Tryd.underlying4 _), (trodAll_cons_mk (shut_int Tryd.underlying3 w0) (trodAll_cons_mk (shut_int Tryd.underlying3 w1) (trodAll_cons_mk (shut_int Tryd.underlying3 w2) trodAll_mk0))), rfl, bel.frame _, fun h => by cases h⟩

theorem over : Rows.weighAdmitsRow.holds Tryd.pinned (OpenSpec.ofChange Rows.weighAdmitsSpec) :=
  OpenClaim.holds_of_wide 3 Tryd.f3 rfl rfl rfl rfl rfl rfl rfl ⟨rfl, rfl, rfl, rfl, rfl⟩ rfl rfl rfl rfl rfl (by kernel_rfl) Tryd.func3 (by kernel_rfl)
    (of_decide_eq_true (by kernel_rfl)) (by unfold Func.isWrapper; first | (rw [if_pos (by decide +kernel)]; kernel_rfl) | (rw [if_neg (by decide +kernel)]; exact ⟨rfl, rfl⟩))
    (fun os started H enc _ => lifted os started H enc)

/-- The card. -/
theorem proved : Rows.WeighAdmitsCardSaid :=
  Claim7.holds_tied_plain_at .later [] [.handle] true (true, "7c0d3a6685830967f2fe3e3cb369958f5e15f0aaa0081ead27bd5149047de32e") true
    over (fun _ h => by cases h) (by kernel_rfl) (fun _ h => by cases h) weighAdmits_row_tie rfl ⟨rfl, rfl⟩ (by kernel_rfl) rfl
    (fun f fn hf hfn => by
      obtain rfl : f = 3 := Option.some.inj ((show Tryd.prog.funcNamed "pantry/pantrylaw08.WeighAdmits" = some 3 by kernel_rfl).symm.trans hf) |>.symm
      obtain rfl : fn = Tryd.f3 := (Option.some.inj (Tryd.func3.symm.trans hfn)).symm
      exact ⟨by kernel_rfl, fun j t ht => noStandIn (by kernel_rfl) ht⟩)
    (by kernel_rfl)
end Go.Proofs.YtjdaacmopgfolaaDoor.weighAdmits

namespace Go.Proofs.YtjdaacmopgfolaaDoor
/-- The given statement. -/
theorem weighAdmits_holds : Rows.WeighAdmitsCardSaid := weighAdmits.proved
#print axioms weighAdmits_holds
end Go.Proofs.YtjdaacmopgfolaaDoor
