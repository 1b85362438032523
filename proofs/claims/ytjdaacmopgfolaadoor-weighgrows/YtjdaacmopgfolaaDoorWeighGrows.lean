/-
  Proved: pantrylaw08.WeighGrows returns true for every key, weight, capacity, more and less: what is admitted is with more capacity, too, and what weighs less is (P8.6). Condition: errors.errorType holds what the program's text lays (tied by the card).
-/
import Derived.Test.YtjdaacmopgfolaaDoorRows
import Derived.WalkKit
import Derived.ProofKit
import Derived.OpenShut
import Derived.Test.YtjdaacmopgfolaaDoorWgSmall
import Derived.ShutString
import Derived.ChangeOld
import Derived.Below
import Derived.Test.YtjdaacmopgfolaaDoorGenArgs
import Derived.Test.YtjdaacmopgfolaaDoorWgLaid
import Derived.Test.YtjdaacmopgfolaaDoorTie
import Derived.Test.YtjdaacmopgfolaaDoorCards
import Derived.SevenTiedAt
namespace Go.Proofs.YtjdaacmopgfolaaDoor.weighGrows
open Go.ChangeShapes Go.WideShapes Go.ChangeAt Go.RowKit
set_option linter.unusedVariables false

theorem laidOut : laidOutB Tryd.prog = true := by kernel_rfl

/-! ### The walk: the law returns true, and writes nothing that was there -/
set_option maxRecDepth 100000 in set_option maxHeartbeats 4000000 in
theorem walk (a0 : Int) (a1 : Int) (a2 : Int) (a3 : Int) (a4 : Int) (w : World) (hl : Laid w) (hs : w.ShapedOpen Tryd.prog) (w0 : (Lit.int .i64 a0).wf = true) (w1 : (Lit.int .i64 a1).wf = true) (w2 : (Lit.int .i64 a2).wf = true) (w3 : (Lit.int .i64 a3).wf = true) (w4 : (Lit.int .i64 a4).wf = true) :
    Calls Tryd.prog 6 #[.int .i64 a0, .int .i64 a1, .int .i64 a2, .int .i64 a3, .int .i64 a4] w fun e w' => e = .returned (.bool true) ∧ Grown w w' := by
  clear hs
  have sm := wSmall w hl
  by_cases hn : adm a1 a2 = 0
  · have hb := adm_zero.1 hn
    obtain ⟨b1, b2, b3, b4, b5⟩ := hb
    by_cases h1 : a3 < 0
    · go_enter Tryd.func6, Tryd.ntmps6
      go_wp2_with (first | (go_at_call 8; refine sm.mono ?_; rintro e w1 ⟨rfl, g1⟩) | (go_at_call 9; refine (admitZ w _ _ _ _ hn g1).mono ?_; rintro e w2 ⟨rfl, g2⟩))
      go_ret
      exact ⟨rfl, g2⟩
    · by_cases h2 : 4611686018427387903 - a2 < a3
      · go_enter Tryd.func6, Tryd.ntmps6
        go_wp2_with (first | (go_at_call 8; refine sm.mono ?_; rintro e w1 ⟨rfl, g1⟩) | (go_at_call 9; refine (admitZ w _ _ _ _ hn g1).mono ?_; rintro e w2 ⟨rfl, g2⟩))
        go_ret
        exact ⟨rfl, g2⟩
      · by_cases h3 : a4 < 0
        · go_enter Tryd.func6, Tryd.ntmps6
          go_wp2_with (first | (go_at_call 8; refine sm.mono ?_; rintro e w1 ⟨rfl, g1⟩) | (go_at_call 9; refine (admitZ w _ _ _ _ hn g1).mono ?_; rintro e w2 ⟨rfl, g2⟩))
          go_ret
          exact ⟨rfl, g2⟩
        · by_cases h4 : a1 < a4
          · go_enter Tryd.func6, Tryd.ntmps6
            go_wp2_with (first | (go_at_call 8; refine sm.mono ?_; rintro e w1 ⟨rfl, g1⟩) | (go_at_call 9; refine (admitZ w _ _ _ _ hn g1).mono ?_; rintro e w2 ⟨rfl, g2⟩))
            go_ret
            exact ⟨rfl, g2⟩
          · have n1 : adm a1 (a2 + a3) = 0 := adm_zero.2 (by omega)
            have n2 : adm (a1 - a4) a2 = 0 := adm_zero.2 (by omega)
            have n3 : adm 0 a2 = 0 := adm_zero.2 (by omega)
            have n4 : adm (-1) a2 ≠ 0 := fun h => by have := adm_zero.1 h; omega
            have n5 : adm (a2 + 1) a2 ≠ 0 := fun h => by have := adm_zero.1 h; omega
            go_enter Tryd.func6, Tryd.ntmps6
            go_wp2_with (first
              | (go_at_call 8; refine sm.mono ?_; rintro e w1 ⟨rfl, g1⟩; clear sm)
              | (go_at_call 9; refine (admitZ w a0 a1 a2 _ hn g1).mono ?_; rintro e w2 ⟨rfl, g2⟩; clear g1)
              | (go_at_call 9; refine (admitZ w a0 a1 (a2 + a3) _ n1 g2).mono ?_; rintro e w3 ⟨rfl, g3⟩; clear g2)
              | (go_at_call 9; refine (admitZ w _ (a1 - a4) a2 _ n2 g3).mono ?_; rintro e w4 ⟨rfl, g4⟩; clear g3)
              | (go_at_call 9; refine (admitZ w a0 0 a2 _ n3 g4).mono ?_; rintro e w5 ⟨rfl, g5⟩; clear g4)
              | (go_at_call 9; refine (admitN w a0 (-1) a2 _ n4 g5).mono ?_; rintro e w6 ⟨b6, rfl, g6⟩; clear g5)
              | (go_at_call 9; refine (admitN w a0 (a2 + 1) a2 _ n5 g6).mono ?_; rintro e w7 ⟨b7, rfl, g7⟩; clear g6))
            go_ret
            exact ⟨rfl, g7⟩
  · go_enter Tryd.func6, Tryd.ntmps6
    go_wp2_with (first | (go_at_call 8; refine sm.mono ?_; rintro e w1 ⟨rfl, g1⟩) | (go_at_call 9; refine (admitN w _ _ _ _ hn g1).mono ?_; rintro e w2 ⟨b2, rfl, g2⟩))
    go_ret
    exact ⟨rfl, g2⟩

/-! ### The row's step -/
set_option maxRecDepth 100000 in
theorem lifted (os : Os) (started : os.Started) (H : Type) (enc : TypeId × Value → H) :
    ReturnsInHanded {} Tryd.checked os 6 .any (fun w args => (Rows.weighGrowsSpec.pre enc Tryd.prog Tryd.f6 [] false w args ∧ laidMetH Tryd.prog [("errors.errorType", Rows.laid_errors_errorType)] w) ∧ sizedMet enc Tryd.prog Tryd.f6 (OpenSpec.ofChange Rows.weighGrowsSpec) false w args) (Rows.weighGrowsSpec.post enc Tryd.prog Tryd.f6 false true false false) := by
  refine returns_shaped (C := Tryd.checked) (X := fun w _ => laidMetH Tryd.prog [("errors.errorType", Rows.laid_errors_errorType)] w) (fun _ _ _ hh h => h.of_heap hh) Tryd.own started (by kernel_rfl) Tryd.func6
    (ChangeSpec.witness_at (enc := enc) (C := Tryd.checked) (os := os) (X := fun w _ => laidMetH Tryd.prog [("errors.errorType", Rows.laid_errors_errorType)] w) false (laidWorld os) #[.int .i64 0, .int .i64 0, .int .i64 0, .int .i64 0, .int .i64 0] 8 rfl (by kernel_rfl) (by kernel_rfl) (by kernel_rfl) (by kernel_rfl) (by kernel_rfl) (laidWorld_met os _)) ?_
  intro W base args ds gs before hval0 hW hcnd hL hsh
  have hval : ∀ (j : Nat) t v, Tryd.f6.params[j]? = some t → args[j]? = some v → Value.okWide Tryd.prog W .any base t v := hval0
  have hW' := hW
  obtain ⟨p, q, hA0, hV, rfl, hfz, hnd⟩ := hW
  have hA : DataW.TrodAll enc Tryd.prog W 0 (fun _ => true) true Tryd.f6.params.toList args.toList ds p := hA0
  rw [Tryd.params6] at hA hval
  obtain ⟨v0, vs0, d0, ds0, p0, q0, hargs, rfl, rfl, h0, r0⟩ := trodAll_cons hA
  obtain ⟨v1, vs1, d1, ds1, p1, q1, rfl, rfl, rfl, h1, r1⟩ := trodAll_cons r0
  obtain ⟨v2, vs2, d2, ds2, p2, q2, rfl, rfl, rfl, h2, r2⟩ := trodAll_cons r1
  obtain ⟨v3, vs3, d3, ds3, p3, q3, rfl, rfl, rfl, h3, r3⟩ := trodAll_cons r2
  obtain ⟨v4, vs4, d4, ds4, p4, q4, rfl, rfl, rfl, h4, r4⟩ := trodAll_cons r3
  obtain ⟨rfl, rfl, rfl⟩ := trodAll_nil r4
  obtain rfl : args = #[v0, v1, v2, v3, v4] := by cases args; simp_all
  obtain ⟨rfl, rfl⟩ := trodVars_none hV
  obtain ⟨a0, rfl, rfl, rfl, w0⟩ := open_int Tryd.underlying3 (hval 0 3 v0 rfl rfl) h0
  obtain ⟨a1, rfl, rfl, rfl, w1⟩ := open_int Tryd.underlying3 (hval 1 3 v1 rfl rfl) h1
  obtain ⟨a2, rfl, rfl, rfl, w2⟩ := open_int Tryd.underlying3 (hval 2 3 v2 rfl rfl) h2
  obtain ⟨a3, rfl, rfl, rfl, w3⟩ := open_int Tryd.underlying3 (hval 3 3 v3 rfl rfl) h3
  obtain ⟨a4, rfl, rfl, rfl, w4⟩ := open_int Tryd.underlying3 (hval 4 3 v4 rfl rfl) h4
  clear hA0 hval0
  refine (walk a0 a1 a2 a3 a4 W (laid_of_met hL) hsh w0 w1 w2 w3 w4).mono fun e W' ⟨he, bel⟩ => ?_
  subst he
  exact ⟨_, rfl, _, _, _, [], _, [], hW', trodAll_mk1 (shut_bool Tryd.underlying4 _), (trodAll_cons_mk (shut_int Tryd.underlying3 w0) (trodAll_cons_mk (shut_int Tryd.underlying3 w1) (trodAll_cons_mk (shut_int Tryd.underlying3 w2) (trodAll_cons_mk (shut_int Tryd.underlying3 w3) (trodAll_cons_mk (shut_int Tryd.underlying3 w4) trodAll_mk0))))), rfl, bel.frame _, fun h => by cases h⟩

theorem over : Rows.weighGrowsRow.holds Tryd.pinned (OpenSpec.ofChange Rows.weighGrowsSpec) :=
  OpenClaim.holds_of_wide 6 Tryd.f6 rfl rfl rfl rfl rfl rfl rfl ⟨rfl, rfl, rfl, rfl, rfl⟩ rfl rfl rfl rfl rfl (by kernel_rfl) Tryd.func6 (by kernel_rfl)
    (of_decide_eq_true (by kernel_rfl)) (by unfold Func.isWrapper; first | (rw [if_pos (by decide +kernel)]; kernel_rfl) | (rw [if_neg (by decide +kernel)]; exact ⟨rfl, rfl⟩))
    (fun os started H enc _ => lifted os started H enc)

/-- The card. -/
theorem proved : Rows.WeighGrowsCardSaid :=
  Claim7.holds_tied_plain_at .later [] [.handle] true (true, "7c0d3a6685830967f2fe3e3cb369958f5e15f0aaa0081ead27bd5149047de32e") true
    over (fun _ h => by cases h) (by kernel_rfl) (fun _ h => by cases h) weighGrows_row_tie rfl ⟨rfl, rfl⟩ (by kernel_rfl) rfl
    (fun f fn hf hfn => by
      obtain rfl : f = 6 := Option.some.inj ((show Tryd.prog.funcNamed "pantry/pantrylaw08.WeighGrows" = some 6 by kernel_rfl).symm.trans hf) |>.symm
      obtain rfl : fn = Tryd.f6 := (Option.some.inj (Tryd.func6.symm.trans hfn)).symm
      exact ⟨by kernel_rfl, fun j t ht => noStandIn (by kernel_rfl) ht⟩)
    (by kernel_rfl)
end Go.Proofs.YtjdaacmopgfolaaDoor.weighGrows

namespace Go.Proofs.YtjdaacmopgfolaaDoor
/-- The given statement. -/
theorem weighGrows_holds : Rows.WeighGrowsCardSaid := weighGrows.proved
#print axioms weighGrows_holds
end Go.Proofs.YtjdaacmopgfolaaDoor
