/-
  Proved: pantrylaw09.QuotaEnds returns true for every capacity: shifts far up and down come to the window's ends, and of a capacity of 0, and 1, there is one quota (P9.1, P9.2). No condition.
-/
import Derived.Test.YteblhnpijjddcaaRows
import Derived.WalkKit
import Derived.ProofKit
import Derived.OpenShut
import Derived.Test.YteblhnpijjddcaaQtMore
import Derived.Test.YteblhnpijjddcaaGenCls
namespace Go.Proofs.Yteblhnpijjddcaa.quotaEnds
open Go.ChangeShapes Go.WideShapes Go.ChangeAt Go.RowKit
set_option linter.unusedVariables false      -- a walk need not use every 'w<i>' (that an integer argument fits its kind)

theorem own : ownKnob Try.prog.godebug = none := by kernel_rfl

/-! ### STEP 1: THE WALK: the Go text returns true. 'Grown w w'': the world has at most new blocks (Derived/RowKit3.lean). Part the cases AHEAD of 'go_enter' where a test parts the walk; take each callee by a contract of your own. -/
set_option maxRecDepth 20000 in set_option maxHeartbeats 4000000 in
theorem walk (a0 : Int) (w0 : (Lit.int .i64 a0).wf = true) (w : World) :
    Calls Try.prog 6 #[.int .i64 a0] w fun e w' => e = .returned (.bool true) ∧ Grown w w' := by
  clear w0
  have SM := qSmall
  have gq := guardQ
  have he := eqQ
  by_cases h1 : a0 < 1 ∨ 4611686018427387903 < a0
  · have O1 : ∀ w, Calls Try.prog 9 #[.int .i64 0] w fun e w' => e = .returned (.agg #[.int .i64 0, .int .i64 0, .int .i64 0]) ∧ Grown w w' := fun w => of_c 0 w
    have S1 : ∀ w, Calls Try.prog 11 #[.agg #[.int .i64 0, .int .i64 0, .int .i64 0], .int .i64 5] w fun e w' => e = .returned (.agg #[.int .i64 0, .int .i64 0, .int .i64 0]) ∧ Grown w w' := fun w => shift_c 0 0 0 5 w
    have h2 : (a0 < 1 ∧ ¬ 4611686018427387903 < a0) ∨ (¬ a0 < 1 ∧ 4611686018427387903 < a0) := by omega
    clear h1
    rcases h2 with ⟨h1, h2⟩ | ⟨h1, h2⟩
    all_goals
      have hg := Grown.refl w
      go_enter Try.func6, Try.ntmps6
      go_wp2_with (first | (go_at_call 7; refine (SM _).mono ?_; rintro e w1 ⟨rfl, g1⟩; replace hg := grownTrans hg g1; clear g1) | (go_at_call 9; refine (O1 _).mono ?_; rintro e w2 ⟨rfl, g2⟩; replace hg := grownTrans hg g2; clear g2) | (go_at_call 11; refine (S1 _).mono ?_; rintro e w3 ⟨rfl, g3⟩; replace hg := grownTrans hg g3; clear g3))
      go_ret
      exact ⟨rfl, hg⟩
  · have h2 : 1 ≤ a0 ∧ a0 ≤ 4611686018427387903 := by omega
    clear h1
    have hw : wh a0 = a0 := by unfold wh mid; omega
    have lo : min 1 a0 = 1 := by omega
    have OF := of_c a0
    have l0 := wo_le a0
    simp only [hw] at OF l0
    obtain ⟨X, hX⟩ : ∃ X, X = wo a0 := ⟨_, rfl⟩
    obtain ⟨P, hP⟩ : ∃ P, P = pr a0 X := ⟨_, rfl⟩
    rw [← hX] at l0
    simp only [← hX, ← hP] at OF
    have SU := shift_in hw X P 9223372036854775807
    have SD := shift_in hw X P (-9223372036854775808)
    have eU : ws a0 X 9223372036854775807 = a0 - a0 / 5 := by rw [ws_in _ hw l0.1 l0.2]; unfold mid; omega
    have eD : ws a0 X (-9223372036854775808) = 1 := by rw [ws_in _ hw l0.1 l0.2]; unfold mid; omega
    simp only [eU] at SU
    simp only [eD] at SD
    obtain ⟨U, hU⟩ : ∃ U, U = a0 - a0 / 5 := ⟨_, rfl⟩
    obtain ⟨PU, hPU⟩ : ∃ P, P = pr a0 U := ⟨_, rfl⟩
    obtain ⟨PD, hPD⟩ : ∃ P, P = pr a0 1 := ⟨_, rfl⟩
    simp only [← hU, ← hPU] at SU
    simp only [← hPD] at SD
    have SUD := shift_in hw U PU (-9223372036854775808)
    have SDU := shift_in hw 1 PD 9223372036854775807
    have eUD : ws a0 U (-9223372036854775808) = 1 := by rw [ws_in _ hw (by omega) (by omega)]; unfold mid; omega
    have eDU : ws a0 1 9223372036854775807 = U := by rw [ws_in _ hw (by omega) (by omega)]; unfold mid; omega
    simp only [eUD, ← hPD] at SUD
    simp only [eDU, ← hPU] at SDU
    have one : ¬ 1 < a0 → U = 1 ∧ PU = PD := by
      intro h
      have e : U = 1 := by omega
      exact ⟨e, by rw [hPU, hPD, e]⟩
    have dU : (U == a0 - a0 / 5) = true := by rw [hU]; simp
    have HU : Hid (U = a0 - a0 / 5) := hU
    have HW : Hid (wh a0 = a0) := hw
    clear hX hP hU hPU hPD eU eD eUD eDU lo l0 hw
    have hg := Grown.refl w
    go_enter Try.func6, Try.ntmps6
    go_wp2_with (first | (go_at_call 7; refine (SM _).mono ?_; rintro e w1 ⟨rfl, g1⟩; replace hg := grownTrans hg g1; clear g1) | (go_at_call 11; with_reducible refine (SU _).mono ?_; rintro e w3 ⟨rfl, g3⟩; replace hg := grownTrans hg g3; clear g3) | (go_at_call 11; with_reducible refine (SD _).mono ?_; rintro e w5 ⟨rfl, g5⟩; replace hg := grownTrans hg g5) | (go_at_call 9; refine (OF _).mono ?_; rintro e w2 ⟨rfl, g2⟩; replace hg := grownTrans (by first | exact hg | exact hg.alloc _ _) g2; (first | (have QU := (Qb.new w3 a0 U PU).grown g2) | skip); clear g2))
    have QU5 := QU.grown (g5.alloc #[.int .i64 a0, .int .i64 1, .int .i64 PD] 23)
    have QD5 := Qb.new w5 a0 1 PD
    replace hg := hg.alloc #[.int .i64 a0, .int .i64 1, .int .i64 PD] 23
    obtain ⟨W5, hW5⟩ : ∃ W, W = w5.alloc (.cells #[.int .i64 a0, .int .i64 1, .int .i64 PD] 23) := ⟨_, rfl⟩
    simp only [← hW5] at QU5 QD5 hg ⊢
    obtain ⟨BU, hBU⟩ : ∃ B, B = w3.heap.size := ⟨_, rfl⟩
    obtain ⟨BD, hBD⟩ : ∃ B, B = w5.heap.size := ⟨_, rfl⟩
    simp only [← hBU, ← hBD] at QU5 QD5 ⊢
    clear hW5 hBU hBD g5 QU SM OF SU SD
    obtain ⟨Good, hGood⟩ : ∃ Good : World → Prop, Good = fun W => Qb W BU a0 U PU ∧ Qb W BD a0 1 PD ∧ Grown w W := ⟨_, rfl⟩
    have G : ∀ (W W' : World), Good W → Grown W W' → Good W' := fun W W' h h' => by
      rw [hGood] at h ⊢; exact ⟨h.1.grown h', h.2.1.grown h', grownTrans h.2.2 h'⟩
    have g0 : Good W5.drew := by rw [hGood]; exact ⟨QU5.grown (Grown.refl _).drew, QD5.grown (Grown.refl _).drew, hg.drew⟩
    have HGO : Hid (∀ W, Good W → Grown w W) := fun W h => by rw [hGood] at h; exact h.2.2
    have GX : ∀ W, Good W → Qb W BU a0 U PU ∧ Qb W BD a0 1 PD := fun W h => by rw [hGood] at h; exact ⟨h.1, h.2.1⟩
    have k0 : ∀ r : Wor Good, (r.w.cell? ⟨BU, 0, none⟩ = some (.int .i64 a0) ∧ r.w.cell? ⟨BU, 1, none⟩ = some (.int .i64 U) ∧ r.w.cell? ⟨BU, 2, none⟩ = some (.int .i64 PU)) ∧ (r.w.cell? ⟨BD, 0, none⟩ = some (.int .i64 a0) ∧ r.w.cell? ⟨BD, 1, none⟩ = some (.int .i64 1) ∧ r.w.cell? ⟨BD, 2, none⟩ = some (.int .i64 PD)) := fun r => by
      have h := GX _ r.h; exact ⟨h.1.cells, h.2.cells⟩
    have k1 := fun r => (k0 r).1.1
    have k2 := fun r => (k0 r).1.2.1
    have k3 := fun r => (k0 r).1.2.2
    have k4 := fun r => (k0 r).2.1
    have k5 := fun r => (k0 r).2.2.1
    have k6 := fun r => (k0 r).2.2.2
    have TU : Hid (∀ r : Wor Good, Calls Try.prog 11 #[.agg #[.int .i64 a0, .int .i64 U, .int .i64 PU], .int .i64 (-9223372036854775808)] r.w fun e w' => e = .returned (.agg #[.int .i64 a0, .int .i64 1, .int .i64 PD]) ∧ ∃ r' : Wor Good, w' = r'.w) := fun r => calls_class ((SUD r.w).mono fun _ _ ⟨he, hh⟩ => ⟨he, G _ _ r.h hh⟩)
    have TD : Hid (∀ r : Wor Good, Calls Try.prog 11 #[.agg #[.int .i64 a0, .int .i64 1, .int .i64 PD], .int .i64 9223372036854775807] r.w fun e w' => e = .returned (.agg #[.int .i64 a0, .int .i64 U, .int .i64 PU]) ∧ ∃ r' : Wor Good, w' = r'.w) := fun r => calls_class ((SDU r.w).mono fun _ _ ⟨he, hh⟩ => ⟨he, G _ _ r.h hh⟩)
    have hne : Nonempty (Wor Good) := ⟨⟨_, g0⟩⟩
    have hcase : (1 < a0) ∨ (¬ 1 < a0 ∧ U = 1 ∧ PU = PD) := by
      by_cases h : 1 < a0
      · exact .inl h
      · exact .inr ⟨h, one (by omega)⟩
    clear hGood G GX k0 SUD SDU QU5 QD5 hg one
    rcases hcase with hq | ⟨hq, e1, e2⟩
    · skip
      refine wp_region_class (Good := Good) (by kernel_rfl) (by kernel_rfl) g0 ?_
      repeat (go_big_quiet_step (first | (go_at_call 11; with_reducible exact TU.out _) | (go_at_call 11; with_reducible exact TD.out _)))
      refine wpQuiet_nil ?_
      intro _ hw'
      obtain ⟨r, hw''⟩ := hw'
      subst hw''
      have hgo := HGO.out _ r.h
      clear k1 k2 k3 k4 k5 k6 TU TD
      go_wp2
      go_ret
      exact ⟨rfl, hgo⟩
    · subst e1 e2
      refine wp_region_class (Good := Good) (by kernel_rfl) (by kernel_rfl) g0 ?_
      repeat (go_big_quiet_step (first | (go_at_call 11; with_reducible exact TU.out _) | (go_at_call 11; with_reducible exact TD.out _)))
      refine wpQuiet_nil ?_
      intro _ hw'
      obtain ⟨r, hw''⟩ := hw'
      subst hw''
      have hgo := HGO.out _ r.h
      clear k1 k2 k3 k4 k5 k6 TU TD
      go_wp2
      go_ret
      exact ⟨rfl, hgo⟩

/-! ### THE ROW's STEP: WRITTEN OUT: LEAVE IT -/
set_option maxRecDepth 100000 in
theorem lifted (os : Os) (started : os.Started) (H : Type) (enc : TypeId × Value → H) :
    ReturnsInHanded {} Try.checked os 6 .any (Rows.quotaEndsSpec.pre6 enc Try.prog Try.f6 Rows.quotaEndsRow.domain false) (Rows.quotaEndsSpec.post enc Try.prog Try.f6 false true false false) := by
  refine returnsInHanded_of_change (C := Try.checked) own started (by kernel_rfl) Try.func6
    (ChangeSpec.witness6 (enc := enc) (C := Try.checked) false ⟨#[], #[.int .i64 0], []⟩ 8 (by kernel_rfl) (by kernel_rfl) (by kernel_rfl) (by kernel_rfl)) ?_
  intro W base args ds gs before hval0 hW hcnd _
  have hval : ∀ (j : Nat) t v, Try.f6.params[j]? = some t → args[j]? = some v → Value.okWide Try.prog W .any base t v := hval0
  have hW' := hW
  obtain ⟨p, q, hA0, hV, rfl, hfz, hnd⟩ := hW
  have hA : DataW.TrodAll enc Try.prog W 0 (fun _ => true) true Try.f6.params.toList args.toList ds p := hA0
  rw [Try.params6] at hA hval
  obtain ⟨v0, vs0, d0, ds0, p0, q0, hargs, rfl, rfl, h0, r0⟩ := trodAll_cons hA
  obtain ⟨rfl, rfl, rfl⟩ := trodAll_nil r0
  obtain rfl : args = #[v0] := by cases args; simp_all
  obtain ⟨rfl, rfl⟩ := trodVars_none hV
  obtain ⟨a0, rfl, rfl, rfl, w0⟩ := open_int Try.underlying3 (hval 0 3 v0 rfl rfl) h0
  clear hA0 hval0
  simp only [List.append_nil] at hW'
  refine (walk a0 w0 W).mono fun e W' ⟨he, hg⟩ => ?_
  subst he
  exact ⟨_, rfl, post_of_same (pa := []) (pv := []) hW' (fun _ _ _ => (trodAll_cons_mk (shut_bool Try.underlying4 _) trodAll_mk0)) (fun sp _ => (trodAll_cons_mk (shut_int Try.underlying3 w0) trodAll_mk0)) (fun _ _ => rfl) rfl
    (hg.frame _) hg.2.1 (ok_one (by kernel_rfl) rfl (okWide_bool_mk Try.underlying4 _))⟩

theorem over : Rows.quotaEndsRow.holds Try.pinned (OpenSpec.ofChange Rows.quotaEndsSpec) :=
  OpenClaim.holds_of_wide 6 Try.f6 rfl rfl rfl rfl rfl rfl rfl ⟨rfl, rfl, rfl, rfl, rfl⟩ rfl rfl rfl rfl rfl (by kernel_rfl) Try.func6 (by kernel_rfl)
    (of_decide_eq_true (by kernel_rfl)) (by unfold Func.isWrapper; first | (rw [if_pos (by decide +kernel)]; kernel_rfl) | (rw [if_neg (by decide +kernel)]; exact ⟨rfl, rfl⟩))
    (fun os started H enc _ => lifted os started H enc)

/-- ████ THE STATEMENT ████ -/
theorem proved : Rows.QuotaEndsSaid :=
  over
end Go.Proofs.Yteblhnpijjddcaa.quotaEnds

namespace Go.Proofs.Yteblhnpijjddcaa
/-- The given statement. -/
theorem quotaEnds_holds : Rows.QuotaEndsSaid := quotaEnds.proved
#print axioms quotaEnds_holds
end Go.Proofs.Yteblhnpijjddcaa
