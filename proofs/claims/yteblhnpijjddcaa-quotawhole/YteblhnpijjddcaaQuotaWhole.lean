/-
  Proved: pantrylaw09.QuotaWhole returns true for every capacity and every two shifts: what Of and Shift tell is right, and Window, Protected and what is left besides are together the Capacity, none below 0 (P9.3). No condition.
-/
import Derived.Test.YteblhnpijjddcaaRows
import Derived.WalkKit
import Derived.ProofKit
import Derived.OpenShut
import Derived.Test.YteblhnpijjddcaaQtMore
import Derived.Test.YteblhnpijjddcaaGenCls
namespace Go.Proofs.Yteblhnpijjddcaa.quotaWhole
open Go.ChangeShapes Go.WideShapes Go.ChangeAt Go.RowKit
set_option linter.unusedVariables false      -- a walk need not use every 'w<i>' (that an integer argument fits its kind)

theorem own : ownKnob Try.prog.godebug = none := by kernel_rfl

/-! ### STEP 1: THE WALK: the Go text returns true. 'Grown w w'': the world has at most new blocks (Derived/RowKit3.lean). Part the cases AHEAD of 'go_enter' where a test parts the walk; take each callee by a contract of your own. -/
set_option maxRecDepth 20000 in set_option maxHeartbeats 8000000 in
theorem walk (a0 : Int) (a1 : Int) (a2 : Int) (w0 : (Lit.int .i64 a0).wf = true) (w1 : (Lit.int .i64 a1).wf = true) (w2 : (Lit.int .i64 a2).wf = true) (w : World) :
    Calls Try.prog 4 #[.int .i64 a0, .int .i64 a1, .int .i64 a2] w fun e w' => e = .returned (.bool true) ∧ Grown w w' := by
  clear w0 w1 w2
  have SM := qSmall
  have gq := guardQ
  have OF := of_c a0
  have l0 := wo_le a0
  have SH0 := fun x p y w => shift_in (wh_wh a0) x p y w
  have hcap : (a0 < 0) ∨ (4611686018427387903 < a0) ∨ (0 ≤ a0 ∧ a0 ≤ 4611686018427387903 ∧ wh a0 = a0) := by unfold wh mid; omega
  obtain ⟨C, hC⟩ : ∃ C, C = wh a0 := ⟨_, rfl⟩
  have hw : wh C = C := by rw [hC, wh_wh]
  have hc := wh_le C
  rw [hw] at hc
  simp only [← hC] at OF SH0 l0 hcap
  obtain ⟨X0, hX0⟩ : ∃ X, X = wo a0 := ⟨_, rfl⟩
  rw [← hX0] at l0
  simp only [← hX0] at OF
  obtain ⟨P0, hP0⟩ : ∃ X, X = pr C X0 := ⟨_, rfl⟩
  simp only [← hP0] at OF
  have S1 := SH0 X0 P0 a1
  have l1 := ws_le C X0 a1
  rw [hw] at l1
  obtain ⟨X1, hX1⟩ : ∃ X, X = ws C X0 a1 := ⟨_, rfl⟩
  rw [← hX1] at l1
  simp only [← hX1] at S1
  obtain ⟨P1, hP1⟩ : ∃ X, X = pr C X1 := ⟨_, rfl⟩
  simp only [← hP1] at S1
  have S2 := SH0 X1 P1 a2
  have l2 := ws_le C X1 a2
  rw [hw] at l2
  obtain ⟨X2, hX2⟩ : ∃ X, X = ws C X1 a2 := ⟨_, rfl⟩
  rw [← hX2] at l2
  simp only [← hX2] at S2
  obtain ⟨P2, hP2⟩ : ∃ X, X = pr C X2 := ⟨_, rfl⟩
  simp only [← hP2] at S2
  clear hX0 hX1 hX2 SH0 hC
  have HP0 : Hid (P0 = pr C X0) := hP0
  have HP1 : Hid (P1 = pr C X1) := hP1
  have HP2 : Hid (P2 = pr C X2) := hP2
  have HW : Hid (wh C = C) := hw
  have HL : Hid ((min 1 C ≤ X0 ∧ X0 ≤ C - C / 5) ∧ (min 1 C ≤ X1 ∧ X1 ≤ C - C / 5) ∧ (min 1 C ≤ X2 ∧ X2 ≤ C - C / 5)) := ⟨l0, l1, l2⟩
  have HC : Hid ((a0 < 0) ∨ (4611686018427387903 < a0) ∨ (0 ≤ a0 ∧ a0 ≤ 4611686018427387903 ∧ C = a0)) := hcap
  clear hP0 hP1 hP2 hw l0 l1 l2 hcap
  have hg := Grown.refl w
  go_enter Try.func4, Try.ntmps4
  go_wp2_with (first | (go_at_call 7; refine (SM _).mono ?_; rintro e w1 ⟨rfl, g1⟩; replace hg := grownTrans hg g1; clear g1) | (go_at_call 9; refine (OF _).mono ?_; rintro e w2 ⟨rfl, g2⟩; replace hg := grownTrans hg g2; clear g2) | (go_at_call 11; with_reducible refine (S1 _).mono ?_; rintro e w3 ⟨rfl, g3⟩; replace hg := grownTrans hg g3; clear g3) | (go_at_call 11; with_reducible refine (S2 _).mono ?_; rintro e w4 ⟨rfl, g4⟩; replace hg := grownTrans hg g4; clear g4))
  obtain ⟨W4, hW4⟩ : ∃ W, W = w4.alloc (.cells #[.int .i64 C, .int .i64 X0, .int .i64 P0, .int .i64 C, .int .i64 X1, .int .i64 P1, .int .i64 C, .int .i64 X2, .int .i64 P2] 23) := ⟨_, rfl⟩
  obtain ⟨B, hB⟩ : ∃ B, B = w4.heap.size := ⟨_, rfl⟩
  have row : W4.heap[B]? = some (.cells #[.int .i64 C, .int .i64 X0, .int .i64 P0, .int .i64 C, .int .i64 X1, .int .i64 P1, .int .i64 C, .int .i64 X2, .int .i64 P2] 23 (0, 0)) := by rw [hW4, hB]; exact heap_alloc_new _ _
  have hlt : B < W4.heap.size := by
    apply Decidable.byContradiction; intro hb
    rw [Array.getElem?_eq_none (by omega)] at row; cases row
  replace hg : Grown w W4 := by rw [hW4]; exact hg.alloc _ _
  simp only [← hW4, ← hB]
  clear hW4 hB SM OF S1 S2
  have EL : Hid (∀ W, Grown W4 W → ∀ k : Nat, k < 3 → ∃ X P, W.cell? ⟨B, k * 3, none⟩ = some (.int .i64 C) ∧ W.cell? ⟨B, k * 3 + 1, none⟩ = some (.int .i64 X) ∧ W.cell? ⟨B, k * 3 + 2, none⟩ = some (.int .i64 P) ∧ P = pr C X ∧ min 1 C ≤ X ∧ X ≤ C - C / 5) := by
    intro W g k hk
    have r := (grown_block g hlt).trans row
    obtain ⟨l0, l1, l2⟩ := HL.out
    match k, hk with
    | 0, _ => exact ⟨X0, P0, by simp [World.cell?, r], by simp [World.cell?, r], by simp [World.cell?, r], HP0.out, l0.1, l0.2⟩
    | 1, _ => exact ⟨X1, P1, by simp [World.cell?, r], by simp [World.cell?, r], by simp [World.cell?, r], HP1.out, l1.1, l1.2⟩
    | 2, _ => exact ⟨X2, P2, by simp [World.cell?, r], by simp [World.cell?, r], by simp [World.cell?, r], HP2.out, l2.1, l2.2⟩
  clear row hlt HL HP0 HP1 HP2
  have h0 := Grown.refl W4
  go_loopw [9] (fun i wr => ∃ k : Nat, k ≤ 3 ∧ i = .int .i64 k ∧ Grown W4 wr ∧ Grown w wr) (fun i _ => 3 - (intOf i).toNat)
  case atStart => exact ⟨0, by omega, rfl, h0, hg⟩
  case round =>
    clear hg h0
    obtain ⟨k, hk, rfl, h0, hg⟩ := hrel
    by_cases hlt : k < 3
    · obtain ⟨X, P, c0, c1, c2, hP, m0, m1⟩ := EL.out _ h0 k hlt
      have hri : ri C X P = true := by rw [hP]; exact ri_in HW.out m0 m1
      have RI := right_c C X P
      have MA := main_c C X P
      have hma : ma C X P = C - X := by unfold ma; rw [hri]; rfl
      rw [hri] at RI
      rw [hma] at MA
      have e1 : P = C - X - (C - X) / 5 := hP
      obtain ⟨M, hM⟩ : ∃ M, M = C - X := ⟨_, rfl⟩
      rw [← hM] at MA e1
      have d1 : (M - P != M / 5) = false := by rw [e1]; simp; omega
      have d2 : (X + P + (M - P) != C) = false := by simp; omega
      have d3 : 0 ≤ X ∧ X ≤ 4611686018427387903 := by omega
      have d4 : 0 ≤ P ∧ P ≤ 4611686018427387903 := by omega
      have d5 : 0 ≤ M - P ∧ M ≤ 4611686018427387903 ∧ 0 ≤ M := by omega
      have d6 : 0 < C → 1 ≤ X := by omega
      clear hP hri hma e1 hM m0 m1
      go_wp2
      have Q0 := Qb.new wr C X P
      replace h0 := h0.alloc #[.int .i64 C, .int .i64 X, .int .i64 P] 23
      replace hg := hg.alloc #[.int .i64 C, .int .i64 X, .int .i64 P] 23
      obtain ⟨W5, hW5⟩ : ∃ W, W = wr.alloc (.cells #[.int .i64 C, .int .i64 X, .int .i64 P] 23) := ⟨_, rfl⟩
      obtain ⟨D, hD⟩ : ∃ D, D = wr.heap.size := ⟨_, rfl⟩
      simp only [← hW5, ← hD] at Q0 h0 hg ⊢
      clear hW5 hD c0 c1 c2
      obtain ⟨Good, hGood⟩ : ∃ Good : World → Prop, Good = fun W => Qb W D C X P ∧ Grown W4 W ∧ Grown w W := ⟨_, rfl⟩
      have G : ∀ (W W' : World), Good W → Grown W W' → Good W' := fun W W' h h' => by
        rw [hGood] at h ⊢; exact ⟨h.1.grown h', grownTrans h.2.1 h', grownTrans h.2.2 h'⟩
      have g0 : Good W5.drew := by rw [hGood]; exact ⟨Q0.grown (Grown.refl _).drew, h0.drew, hg.drew⟩
      have HGO : Hid (∀ W, Good W → Grown W4 W ∧ Grown w W) := fun W h => by rw [hGood] at h; exact h.2
      have GX : ∀ W, Good W → Qb W D C X P := fun W h => by rw [hGood] at h; exact h.1
      have k1 := fun r : Wor Good => (GX _ r.h).cells.1
      have k2 := fun r : Wor Good => (GX _ r.h).cells.2.1
      have k3 := fun r : Wor Good => (GX _ r.h).cells.2.2
      have TI : Hid (∀ r : Wor Good, Calls Try.prog 12 #[.agg #[.int .i64 C, .int .i64 X, .int .i64 P]] r.w fun e w' => e = .returned (.bool true) ∧ ∃ r' : Wor Good, w' = r'.w) := fun r => calls_class ((RI r.w).mono fun _ _ ⟨he, hh⟩ => ⟨he, G _ _ r.h hh⟩)
      have TM : Hid (∀ r : Wor Good, Calls Try.prog 13 #[.agg #[.int .i64 C, .int .i64 X, .int .i64 P]] r.w fun e w' => e = .returned (.int .i64 M) ∧ ∃ r' : Wor Good, w' = r'.w) := fun r => calls_class ((MA r.w).mono fun _ _ ⟨he, hh⟩ => ⟨he, G _ _ r.h hh⟩)
      have hne : Nonempty (Wor Good) := ⟨⟨_, g0⟩⟩
      clear hGood G GX Q0 h0 hg RI MA
      refine wp_region_class (Good := Good) (by kernel_rfl) (by kernel_rfl) g0 ?_
      repeat (go_big_quiet_step (first | (go_at_call 13; with_reducible exact TM.out _)))
      refine wpQuiet_nil ?_
      intro _ hw'
      obtain ⟨r, hw''⟩ := hw'
      subst hw''
      clear g0
      have hcap : a0 < 0 ∨ 4611686018427387903 < a0 ∨ (0 ≤ a0 ∧ a0 ≤ 4611686018427387903 ∧ (C != a0) = false) := by
        rcases HC.out with h | h | ⟨h, h', h''⟩
        · exact .inl h
        · exact .inr (.inl h)
        · exact .inr (.inr ⟨h, h', by simp [h'']⟩)
      rcases hcap with hq | hq | ⟨hq, hq2, hq3⟩
      all_goals
        by_cases hC0 : 0 < C
        all_goals
          go_wp2_with (first | (go_at_call 12; refine (TI.out _).mono ?_; rintro e w5 ⟨rfl, r2, rfl⟩) | (go_at_call 13; refine (TM.out _).mono ?_; rintro e w6 ⟨rfl, r3, rfl⟩))
          exact ⟨⟨k + 1, by omega, by go_num, (HGO.out _ r3.h).1, (HGO.out _ r3.h).2⟩, by simp [intOf]; omega⟩
    · obtain rfl : k = 3 := by omega
      go_wp2
      go_ret
      exact ⟨rfl, hg⟩

/-! ### THE ROW's STEP: WRITTEN OUT: LEAVE IT -/
set_option maxRecDepth 100000 in
theorem lifted (os : Os) (started : os.Started) (H : Type) (enc : TypeId × Value → H) :
    ReturnsInHanded {} Try.checked os 4 .any (Rows.quotaWholeSpec.pre6 enc Try.prog Try.f4 Rows.quotaWholeRow.domain false) (Rows.quotaWholeSpec.post enc Try.prog Try.f4 false true false false) := by
  refine returnsInHanded_of_change (C := Try.checked) own started (by kernel_rfl) Try.func4
    (ChangeSpec.witness6 (enc := enc) (C := Try.checked) false ⟨#[], #[.int .i64 0, .int .i64 0, .int .i64 0], []⟩ 8 (by kernel_rfl) (by kernel_rfl) (by kernel_rfl) (by kernel_rfl)) ?_
  intro W base args ds gs before hval0 hW hcnd _
  have hval : ∀ (j : Nat) t v, Try.f4.params[j]? = some t → args[j]? = some v → Value.okWide Try.prog W .any base t v := hval0
  have hW' := hW
  obtain ⟨p, q, hA0, hV, rfl, hfz, hnd⟩ := hW
  have hA : DataW.TrodAll enc Try.prog W 0 (fun _ => true) true Try.f4.params.toList args.toList ds p := hA0
  rw [Try.params4] at hA hval
  obtain ⟨v0, vs0, d0, ds0, p0, q0, hargs, rfl, rfl, h0, r0⟩ := trodAll_cons hA
  obtain ⟨v1, vs1, d1, ds1, p1, q1, rfl, rfl, rfl, h1, r1⟩ := trodAll_cons r0
  obtain ⟨v2, vs2, d2, ds2, p2, q2, rfl, rfl, rfl, h2, r2⟩ := trodAll_cons r1
  obtain ⟨rfl, rfl, rfl⟩ := trodAll_nil r2
  obtain rfl : args = #[v0, v1, v2] := by cases args; simp_all
  obtain ⟨rfl, rfl⟩ := trodVars_none hV
  obtain ⟨a0, rfl, rfl, rfl, w0⟩ := open_int Try.underlying3 (hval 0 3 v0 rfl rfl) h0
  obtain ⟨a1, rfl, rfl, rfl, w1⟩ := open_int Try.underlying3 (hval 1 3 v1 rfl rfl) h1
  obtain ⟨a2, rfl, rfl, rfl, w2⟩ := open_int Try.underlying3 (hval 2 3 v2 rfl rfl) h2
  clear hA0 hval0
  simp only [List.append_nil] at hW'
  refine (walk a0 a1 a2 w0 w1 w2 W).mono fun e W' ⟨he, hg⟩ => ?_
  subst he
  exact ⟨_, rfl, post_of_same (pa := []) (pv := []) hW' (fun _ _ _ => (trodAll_cons_mk (shut_bool Try.underlying4 _) trodAll_mk0)) (fun sp _ => (trodAll_cons_mk (shut_int Try.underlying3 w0) (trodAll_cons_mk (shut_int Try.underlying3 w1) (trodAll_cons_mk (shut_int Try.underlying3 w2) trodAll_mk0)))) (fun _ _ => rfl) rfl
    (hg.frame _) hg.2.1 (ok_one (by kernel_rfl) rfl (okWide_bool_mk Try.underlying4 _))⟩

theorem over : Rows.quotaWholeRow.holds Try.pinned (OpenSpec.ofChange Rows.quotaWholeSpec) :=
  OpenClaim.holds_of_wide 4 Try.f4 rfl rfl rfl rfl rfl rfl rfl ⟨rfl, rfl, rfl, rfl, rfl⟩ rfl rfl rfl rfl rfl (by kernel_rfl) Try.func4 (by kernel_rfl)
    (of_decide_eq_true (by kernel_rfl)) (by unfold Func.isWrapper; first | (rw [if_pos (by decide +kernel)]; kernel_rfl) | (rw [if_neg (by decide +kernel)]; exact ⟨rfl, rfl⟩))
    (fun os started H enc _ => lifted os started H enc)

/-- ████ THE STATEMENT ████ -/
theorem proved : Rows.QuotaWholeSaid :=
  over
end Go.Proofs.Yteblhnpijjddcaa.quotaWhole

namespace Go.Proofs.Yteblhnpijjddcaa
/-- The given statement. -/
theorem quotaWhole_holds : Rows.QuotaWholeSaid := quotaWhole.proved
#print axioms quotaWhole_holds
end Go.Proofs.Yteblhnpijjddcaa
