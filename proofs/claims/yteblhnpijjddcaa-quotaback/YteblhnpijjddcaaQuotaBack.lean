/-
  Proved: pantrylaw09.QuotaBack returns true for every capacity, at, by and more: a shift there and back leaves a right quota as it was, if no end was met, and greater shifts leave no less (P9.4). No condition.
-/
import Derived.Test.YteblhnpijjddcaaRows
import Derived.WalkKit
import Derived.ProofKit
import Derived.OpenShut
import Derived.Test.YteblhnpijjddcaaQtMore
namespace Go.Proofs.Yteblhnpijjddcaa.quotaBack
open Go.ChangeShapes Go.WideShapes Go.ChangeAt Go.RowKit
set_option linter.unusedVariables false      -- a walk need not use every 'w<i>' (that an integer argument fits its kind)

theorem own : ownKnob Try.prog.godebug = none := by kernel_rfl

/-! ### STEP 1: THE WALK: the Go text returns true. 'Grown w w'': the world has at most new blocks (Derived/RowKit3.lean). Part the cases AHEAD of 'go_enter' where a test parts the walk; take each callee by a contract of your own. -/
set_option maxRecDepth 20000 in set_option maxHeartbeats 4000000 in
theorem walk (a0 : Int) (a1 : Int) (a2 : Int) (a3 : Int) (w0 : (Lit.int .i64 a0).wf = true) (w1 : (Lit.int .i64 a1).wf = true) (w2 : (Lit.int .i64 a2).wf = true) (w3 : (Lit.int .i64 a3).wf = true) (w : World) :
    Calls Try.prog 5 #[.int .i64 a0, .int .i64 a1, .int .i64 a2, .int .i64 a3] w fun e w' => e = .returned (.bool true) ∧ Grown w w' := by
  clear w0 w1 w2 w3
  have SM := qSmall
  have OF := of_c a0
  have SH0 := fun x p y w => shift_in (wh_wh a0) x p y w
  obtain ⟨C, hC⟩ : ∃ C, C = wh a0 := ⟨_, rfl⟩
  have hw : wh C = C := by rw [hC, wh_wh]
  have hc := wh_le C
  rw [hw] at hc
  simp only [← hC] at OF SH0
  obtain ⟨X0, hX0⟩ : ∃ X, X = wo a0 := ⟨_, rfl⟩
  simp only [← hX0] at OF
  obtain ⟨P0, hP0⟩ : ∃ X, X = pr C X0 := ⟨_, rfl⟩
  simp only [← hP0] at OF
  have S1 := SH0 X0 P0 a1
  have l1 := ws_le C X0 a1
  rw [hw] at l1
  obtain ⟨X1, hX1⟩ : ∃ X, X = ws C X0 a1 := ⟨_, rfl⟩
  rw [← hX1] at l1
  simp only [← hX1] at S1
  obtain ⟨P1, hP1⟩ : ∃ X, X = pr C X1 := ⟨_, rfl⟩
  simp only [← hP1] at S1
  clear hX0 hP0 hX1
  by_cases h1 : a2 < -1099511627776
  · clear SH0 hP1 hw l1 hc hC
    go_enter Try.func5, Try.ntmps5
    go_wp2_with (first | (go_at_call 7; refine (SM _).mono ?_; rintro e w1 ⟨rfl, g1⟩) | (go_at_call 9; refine (OF _).mono ?_; rintro e w2 ⟨rfl, g2⟩) | (go_at_call 11; with_reducible refine (S1 _).mono ?_; rintro e w3 ⟨rfl, g3⟩))
    go_ret
    exact ⟨rfl, (grownTrans (grownTrans g1 g2) g3).alloc _ _⟩
  · by_cases h2 : 1099511627776 < a2
    · clear SH0 hP1 hw l1 hc hC
      go_enter Try.func5, Try.ntmps5
      go_wp2_with (first | (go_at_call 7; refine (SM _).mono ?_; rintro e w1 ⟨rfl, g1⟩) | (go_at_call 9; refine (OF _).mono ?_; rintro e w2 ⟨rfl, g2⟩) | (go_at_call 11; with_reducible refine (S1 _).mono ?_; rintro e w3 ⟨rfl, g3⟩))
      go_ret
      exact ⟨rfl, (grownTrans (grownTrans g1 g2) g3).alloc _ _⟩
    · by_cases h3 : a3 < 0
      · clear SH0 hP1 hw l1 hc hC
        go_enter Try.func5, Try.ntmps5
        go_wp2_with (first | (go_at_call 7; refine (SM _).mono ?_; rintro e w1 ⟨rfl, g1⟩) | (go_at_call 9; refine (OF _).mono ?_; rintro e w2 ⟨rfl, g2⟩) | (go_at_call 11; with_reducible refine (S1 _).mono ?_; rintro e w3 ⟨rfl, g3⟩))
        go_ret
        exact ⟨rfl, (grownTrans (grownTrans g1 g2) g3).alloc _ _⟩
      · by_cases h4 : 1099511627776 < a3
        · clear SH0 hP1 hw l1 hc hC
          go_enter Try.func5, Try.ntmps5
          go_wp2_with (first | (go_at_call 7; refine (SM _).mono ?_; rintro e w1 ⟨rfl, g1⟩) | (go_at_call 9; refine (OF _).mono ?_; rintro e w2 ⟨rfl, g2⟩) | (go_at_call 11; with_reducible refine (S1 _).mono ?_; rintro e w3 ⟨rfl, g3⟩))
          go_ret
          exact ⟨rfl, (grownTrans (grownTrans g1 g2) g3).alloc _ _⟩
        · have S2 := SH0 X1 P1 a2
          have m2 := ws_in a2 hw l1.1 l1.2
          obtain ⟨X2, hX2⟩ : ∃ X, X = ws C X1 a2 := ⟨_, rfl⟩
          rw [← hX2] at m2
          simp only [← hX2] at S2
          obtain ⟨P2, hP2⟩ : ∃ X, X = pr C X2 := ⟨_, rfl⟩
          simp only [← hP2] at S2
          have l2 : min 1 C ≤ X2 ∧ X2 ≤ C - C / 5 := by rw [m2]; unfold mid; omega
          have S3 := SH0 X2 P2 (-a2)
          have m3 := ws_in (-a2) hw l2.1 l2.2
          obtain ⟨X3, hX3⟩ : ∃ X, X = ws C X2 (-a2) := ⟨_, rfl⟩
          rw [← hX3] at m3
          simp only [← hX3] at S3
          obtain ⟨P3, hP3⟩ : ∃ X, X = pr C X3 := ⟨_, rfl⟩
          simp only [← hP3] at S3
          have S4 := SH0 X1 P1 (a2 + a3)
          have m4 := ws_in (a2 + a3) hw l1.1 l1.2
          obtain ⟨X4, hX4⟩ : ∃ X, X = ws C X1 (a2 + a3) := ⟨_, rfl⟩
          rw [← hX4] at m4
          simp only [← hX4] at S4
          obtain ⟨P4, hP4⟩ : ∃ X, X = pr C X4 := ⟨_, rfl⟩
          simp only [← hP4] at S4
          clear SH0 hX2 hX3 hX4
          have q1 : X2 ≤ X4 := by rw [m2, m4]; unfold mid; omega
          have q2 : P4 ≤ P2 := by
            have : X4 ≤ C - C / 5 := by rw [m4]; unfold mid; omega
            rw [hP4, hP2]; unfold pr; omega
          have q3 : 0 ≤ a2 → X1 ≤ X2 := by intro h; rw [m2]; unfold mid; omega
          have q4 : X2 = X1 + a2 → X3 = X1 := by intro h; rw [m3]; unfold mid; omega
          have x1 : 0 ≤ X1 ∧ X1 ≤ 4611686018427387903 := by omega
          clear m2 m3 m4 hC hw l1 l2
          have Q5 : ∀ w3 w4 w5 : World, Grown (w3.alloc (.cells #[.int .i64 C, .int .i64 X1, .int .i64 P1] 23)) w4 → Grown (w4.alloc (.cells #[.int .i64 C, .int .i64 X2, .int .i64 P2] 23)) w5 →
              (w5.alloc (.cells #[.int .i64 C, .int .i64 X3, .int .i64 P3] 23)).cell? ⟨w3.heap.size, 0, none⟩ = some (.int .i64 C) ∧ (w5.alloc (.cells #[.int .i64 C, .int .i64 X3, .int .i64 P3] 23)).cell? ⟨w3.heap.size, 1, none⟩ = some (.int .i64 X1) ∧ (w5.alloc (.cells #[.int .i64 C, .int .i64 X3, .int .i64 P3] 23)).cell? ⟨w3.heap.size, 2, none⟩ = some (.int .i64 P1) := fun w3 w4 w5 g4 g5 =>
            ((Qb.new w3 C X1 P1).grown (grownTrans (g4.alloc _ _) (g5.alloc _ _))).cells
          have Q6 : ∀ w3 w4 w5 w6 : World, Grown (w3.alloc (.cells #[.int .i64 C, .int .i64 X1, .int .i64 P1] 23)) w4 → Grown (w4.alloc (.cells #[.int .i64 C, .int .i64 X2, .int .i64 P2] 23)) w5 → Grown (w5.alloc (.cells #[.int .i64 C, .int .i64 X3, .int .i64 P3] 23)) w6 → ∀ W, W = w6.alloc (.cells #[.int .i64 C, .int .i64 X4, .int .i64 P4] 23) →
              W.cell? ⟨w3.heap.size, 0, none⟩ = some (.int .i64 C) ∧ W.cell? ⟨w3.heap.size, 1, none⟩ = some (.int .i64 X1) ∧ W.cell? ⟨w3.heap.size, 2, none⟩ = some (.int .i64 P1) ∧ W.cell? ⟨w4.heap.size, 0, none⟩ = some (.int .i64 C) ∧ W.cell? ⟨w4.heap.size, 1, none⟩ = some (.int .i64 X2) ∧ W.cell? ⟨w4.heap.size, 2, none⟩ = some (.int .i64 P2) ∧ W.cell? ⟨w5.heap.size, 0, none⟩ = some (.int .i64 C) ∧ W.cell? ⟨w5.heap.size, 1, none⟩ = some (.int .i64 X3) ∧ W.cell? ⟨w5.heap.size, 2, none⟩ = some (.int .i64 P3) := by
            rintro w3 w4 w5 w6 g4 g5 g6 W rfl
            obtain ⟨d0, d1, d2⟩ := ((Qb.new w3 C X1 P1).grown (grownTrans (grownTrans (g4.alloc _ _) (g5.alloc _ _)) (g6.alloc #[.int .i64 C, .int .i64 X4, .int .i64 P4] 23))).cells
            obtain ⟨d3, d4, d5⟩ := ((Qb.new w4 C X2 P2).grown (grownTrans (g5.alloc _ _) (g6.alloc #[.int .i64 C, .int .i64 X4, .int .i64 P4] 23))).cells
            obtain ⟨d6, d7, d8⟩ := ((Qb.new w5 C X3 P3).grown (g6.alloc #[.int .i64 C, .int .i64 X4, .int .i64 P4] 23)).cells
            exact ⟨d0, d1, d2, d3, d4, d5, d6, d7, d8⟩
          have gq := guardQ
          have he := eqQ
          by_cases hm : X2 = X1 + a2
          · obtain rfl : X3 = X1 := q4 hm
            obtain rfl : P3 = P1 := by rw [hP3, hP1]
            have hd : (X2 != X3 + a2) = false := by simp [hm]
            have HM : Hid (X2 = X3 + a2) := hm
            clear hP1 hP2 hP3 hP4 q4 hm
            go_enter Try.func5, Try.ntmps5
            go_wp2_with (first | (go_at_call 7; refine (SM _).mono ?_; rintro e w1 ⟨rfl, g1⟩) | (go_at_call 9; refine (OF _).mono ?_; rintro e w2 ⟨rfl, g2⟩) | (go_at_call 11; with_reducible refine (S1 _).mono ?_; rintro e w3 ⟨rfl, g3⟩) | (go_at_call 11; with_reducible refine (S2 _).mono ?_; rintro e w4 ⟨rfl, g4⟩) | (go_at_call 11; with_reducible refine (S3 _).mono ?_; rintro e w5 ⟨rfl, g5⟩; obtain ⟨b0, b1, b2⟩ := Q5 _ _ _ g4 g5) | (go_at_call 11; with_reducible refine (S4 _).mono ?_; rintro e w6 ⟨rfl, g6⟩; obtain ⟨b3, b4, b5, b6, b7, b8, b9, b10, b11⟩ := Q6 _ _ _ _ g4 g5 g6 _ rfl))
            all_goals (go_ret; exact ⟨rfl, (grownTrans (grownTrans (grownTrans ((grownTrans (grownTrans g1 g2) g3).alloc _ _) (g4.alloc _ _)) (g5.alloc _ _)) g6).alloc _ _⟩)
          · have hd : (X2 != X1 + a2) = true := by simp [hm]
            clear hP1 hP2 hP3 hP4 q4 hm
            go_enter Try.func5, Try.ntmps5
            go_wp2_with (first | (go_at_call 7; refine (SM _).mono ?_; rintro e w1 ⟨rfl, g1⟩) | (go_at_call 9; refine (OF _).mono ?_; rintro e w2 ⟨rfl, g2⟩) | (go_at_call 11; with_reducible refine (S1 _).mono ?_; rintro e w3 ⟨rfl, g3⟩) | (go_at_call 11; with_reducible refine (S2 _).mono ?_; rintro e w4 ⟨rfl, g4⟩) | (go_at_call 11; with_reducible refine (S3 _).mono ?_; rintro e w5 ⟨rfl, g5⟩; obtain ⟨b0, b1, b2⟩ := Q5 _ _ _ g4 g5) | (go_at_call 11; with_reducible refine (S4 _).mono ?_; rintro e w6 ⟨rfl, g6⟩; obtain ⟨b3, b4, b5, b6, b7, b8, b9, b10, b11⟩ := Q6 _ _ _ _ g4 g5 g6 _ rfl))
            all_goals (go_ret; exact ⟨rfl, (grownTrans (grownTrans (grownTrans ((grownTrans (grownTrans g1 g2) g3).alloc _ _) (g4.alloc _ _)) (g5.alloc _ _)) g6).alloc _ _⟩)

/-! ### THE ROW's STEP: WRITTEN OUT: LEAVE IT -/
set_option maxRecDepth 100000 in
theorem lifted (os : Os) (started : os.Started) (H : Type) (enc : TypeId × Value → H) :
    ReturnsInHanded {} Try.checked os 5 .any (Rows.quotaBackSpec.pre6 enc Try.prog Try.f5 Rows.quotaBackRow.domain false) (Rows.quotaBackSpec.post enc Try.prog Try.f5 false true false false) := by
  refine returnsInHanded_of_change (C := Try.checked) own started (by kernel_rfl) Try.func5
    (ChangeSpec.witness6 (enc := enc) (C := Try.checked) false ⟨#[], #[.int .i64 0, .int .i64 0, .int .i64 0, .int .i64 0], []⟩ 8 (by kernel_rfl) (by kernel_rfl) (by kernel_rfl) (by kernel_rfl)) ?_
  intro W base args ds gs before hval0 hW hcnd _
  have hval : ∀ (j : Nat) t v, Try.f5.params[j]? = some t → args[j]? = some v → Value.okWide Try.prog W .any base t v := hval0
  have hW' := hW
  obtain ⟨p, q, hA0, hV, rfl, hfz, hnd⟩ := hW
  have hA : DataW.TrodAll enc Try.prog W 0 (fun _ => true) true Try.f5.params.toList args.toList ds p := hA0
  rw [Try.params5] at hA hval
  obtain ⟨v0, vs0, d0, ds0, p0, q0, hargs, rfl, rfl, h0, r0⟩ := trodAll_cons hA
  obtain ⟨v1, vs1, d1, ds1, p1, q1, rfl, rfl, rfl, h1, r1⟩ := trodAll_cons r0
  obtain ⟨v2, vs2, d2, ds2, p2, q2, rfl, rfl, rfl, h2, r2⟩ := trodAll_cons r1
  obtain ⟨v3, vs3, d3, ds3, p3, q3, rfl, rfl, rfl, h3, r3⟩ := trodAll_cons r2
  obtain ⟨rfl, rfl, rfl⟩ := trodAll_nil r3
  obtain rfl : args = #[v0, v1, v2, v3] := by cases args; simp_all
  obtain ⟨rfl, rfl⟩ := trodVars_none hV
  obtain ⟨a0, rfl, rfl, rfl, w0⟩ := open_int Try.underlying3 (hval 0 3 v0 rfl rfl) h0
  obtain ⟨a1, rfl, rfl, rfl, w1⟩ := open_int Try.underlying3 (hval 1 3 v1 rfl rfl) h1
  obtain ⟨a2, rfl, rfl, rfl, w2⟩ := open_int Try.underlying3 (hval 2 3 v2 rfl rfl) h2
  obtain ⟨a3, rfl, rfl, rfl, w3⟩ := open_int Try.underlying3 (hval 3 3 v3 rfl rfl) h3
  clear hA0 hval0
  simp only [List.append_nil] at hW'
  refine (walk a0 a1 a2 a3 w0 w1 w2 w3 W).mono fun e W' ⟨he, hg⟩ => ?_
  subst he
  exact ⟨_, rfl, post_of_same (pa := []) (pv := []) hW' (fun _ _ _ => (trodAll_cons_mk (shut_bool Try.underlying4 _) trodAll_mk0)) (fun sp _ => (trodAll_cons_mk (shut_int Try.underlying3 w0) (trodAll_cons_mk (shut_int Try.underlying3 w1) (trodAll_cons_mk (shut_int Try.underlying3 w2) (trodAll_cons_mk (shut_int Try.underlying3 w3) trodAll_mk0))))) (fun _ _ => rfl) rfl
    (hg.frame _) hg.2.1 (ok_one (by kernel_rfl) rfl (okWide_bool_mk Try.underlying4 _))⟩

theorem over : Rows.quotaBackRow.holds Try.pinned (OpenSpec.ofChange Rows.quotaBackSpec) :=
  OpenClaim.holds_of_wide 5 Try.f5 rfl rfl rfl rfl rfl rfl rfl ⟨rfl, rfl, rfl, rfl, rfl⟩ rfl rfl rfl rfl rfl (by kernel_rfl) Try.func5 (by kernel_rfl)
    (of_decide_eq_true (by kernel_rfl)) (by unfold Func.isWrapper; first | (rw [if_pos (by decide +kernel)]; kernel_rfl) | (rw [if_neg (by decide +kernel)]; exact ⟨rfl, rfl⟩))
    (fun os started H enc _ => lifted os started H enc)

/-- ████ THE STATEMENT ████ -/
theorem proved : Rows.QuotaBackSaid :=
  over
end Go.Proofs.Yteblhnpijjddcaa.quotaBack

namespace Go.Proofs.Yteblhnpijjddcaa
/-- The given statement. -/
theorem quotaBack_holds : Rows.QuotaBackSaid := quotaBack.proved
#print axioms quotaBack_holds
end Go.Proofs.Yteblhnpijjddcaa
