/-
  The small case with which each statement of layer 9 begins comes out right: the function small returns true; memory has at most new blocks. No condition.
-/
import Derived.Test.YteblhnpijjddcaaQtRight
namespace Go.Proofs.Yteblhnpijjddcaa
open Go.RowKit

theorem q_eq {a b c x y z : Int} (h : a = x) (k : b = y) (l : c = z) : (Value.agg #[.int .i64 a, .int .i64 b, .int .i64 c]) = .agg #[.int .i64 x, .int .i64 y, .int .i64 z] := by rw [h, k, l]
set_option maxHeartbeats 4000000 in
theorem qSmall (w : World) : Calls Try.prog 7 #[] w fun e w' => e = .returned (.bool true) ∧ Grown w w' := by
  have O1 : ∀ w, Calls Try.prog 9 #[.int .i64 1000] w fun e w' => e = .returned (.agg #[.int .i64 1000, .int .i64 10, .int .i64 792]) ∧ Grown w w' := fun w => of_c 1000 w
  have O2 : ∀ w, Calls Try.prog 9 #[.int .i64 (-1)] w fun e w' => e = .returned (.agg #[.int .i64 0, .int .i64 0, .int .i64 0]) ∧ Grown w w' := fun w => of_c (-1) w
  have O3 : ∀ w, Calls Try.prog 9 #[.int .i64 1] w fun e w' => e = .returned (.agg #[.int .i64 1, .int .i64 1, .int .i64 0]) ∧ Grown w w' := fun w => of_c 1 w
  have S1 : ∀ w, Calls Try.prog 11 #[.agg #[.int .i64 1000, .int .i64 10, .int .i64 792], .int .i64 90] w fun e w' => e = .returned (.agg #[.int .i64 1000, .int .i64 100, .int .i64 720]) ∧ Grown w w' := fun w => shift_c 1000 10 792 90 w
  have R1 : ∀ w, Calls Try.prog 12 #[.agg #[.int .i64 1000, .int .i64 10, .int .i64 792]] w fun e w' => e = .returned (.bool true) ∧ Grown w w' := fun w => right_c 1000 10 792 w
  have M1 : ∀ w, Calls Try.prog 13 #[.agg #[.int .i64 1000, .int .i64 10, .int .i64 792]] w fun e w' => e = .returned (.int .i64 990) ∧ Grown w w' := fun w => main_c 1000 10 792 w
  have gq := guardQ
  have he := eqQ
  go_enter Try.func7, Try.ntmps7
  go_wp2_with (first | (go_at_call 9; with_reducible refine (O1 _).mono ?_; rintro e w1 ⟨rfl, g1⟩) | (go_at_call 11; refine (S1 _).mono ?_; rintro e w2 ⟨rfl, g2⟩; obtain ⟨b0, b1, b2⟩ := ((Qb.new w1 1000 10 792).grown g2).cells) | (go_at_call 12; refine (R1 _).mono ?_; rintro e w3 ⟨rfl, g3⟩; obtain ⟨b3, b4, b5⟩ := (((Qb.new w1 1000 10 792).grown g2).grown g3).cells) | (go_at_call 13; refine (M1 _).mono ?_; rintro e w4 ⟨rfl, g4⟩) | (go_at_call 9; with_reducible refine (O2 _).mono ?_; rintro e w5 ⟨rfl, g5⟩) | (go_at_call 9; with_reducible refine (O3 _).mono ?_; rintro e w6 ⟨rfl, g6⟩))
  go_ret
  exact ⟨rfl, grownTrans (grownTrans (grownTrans (grownTrans (grownTrans (g1.alloc _ _) g2) g3) g4) g5) g6⟩
end Go.Proofs.Yteblhnpijjddcaa
