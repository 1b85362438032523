/-
  The small case with which each statement of layer 2 begins comes out right: the function small returns true; memory has at most new blocks. No condition.
-/
import Derived.Test.YtemdgkmcjpagiaaNibSums
namespace Go.Proofs.Ytemdgkmcjpagiaa
open Go.RowKit

/-- Two arrays of the same sixteen numbers are equal. -/
theorem eqRow (f : Nat → Int) (w : World) : (Op.equalIn 10000 28 (.agg (row f)) (.agg (row f))).run Try.prog w = .ok true w := by
  have u3 := Try.underlying3
  have a3 := Try.isAgg3
  have z3 := Try.sizeOf3
  unfold row
  rw [show (10000 : Nat) = 9999 + 1 from rfl, Op.equalIn]
  simp only [Sem.run_bind, run_underlying Try.underlying28, Result.andThen_ok]
  simp only [Std.Legacy.Range.forIn_eq_forIn_range', Std.Legacy.Range.size, Nat.sub_zero, Nat.add_sub_cancel, Nat.div_one, List.range'_succ, List.range'_zero, List.forIn_cons, List.forIn_nil]
  go_simp
theorem guardRow : Try.prog.eqGuardType Try.prog.depth 28 = false := by kernel_rfl

theorem inc_grown (x : BitVec 64) (i : Int) (w : World) :
    Calls Try.prog 10 #[.int .u64 (U x), .int .i64 i] w fun e w' => e = .returned (.tuple #[.int .u64 (U (incI x i)), .bool (incOk x i)]) ∧ Grown w w' :=
  (inc_any x i w).mono fun _ _ ⟨he, m, hw⟩ => ⟨he, by rw [hw]; exact grownDrewN (Grown.refl _) m⟩
theorem set_grown (x : BitVec 64) (i n : Int) (w : World) :
    Calls Try.prog 14 #[.int .u64 (U x), .int .i64 i, .int .i64 n] w fun e w' => e = .returned (.int .u64 (U (setI x i n))) ∧ Grown w w' :=
  (set_any x i n w).mono fun _ _ ⟨he, m, hw⟩ => ⟨he, by rw [hw]; exact grownDrewN (Grown.refl _) m⟩

theorem get_int (h i : Int) (w : World) (h0 : 0 ≤ h) (h1 : h < 18446744073709551616) :
    Calls Try.prog 12 #[.int .u64 h, .int .i64 i] w fun e w' => e = .returned (.int .i64 (getI (B h) i)) ∧ w' = w := by
  have := get_any (B h) i w
  rw [U_B h h0 h1] at this
  exact this
theorem inc_int (h i : Int) (w : World) (h0 : 0 ≤ h) (h1 : h < 18446744073709551616) :
    Calls Try.prog 10 #[.int .u64 h, .int .i64 i] w fun e w' => e = .returned (.tuple #[.int .u64 (U (incI (B h) i)), .bool (incOk (B h) i)]) ∧ Grown w w' := by
  have := inc_grown (B h) i w
  rw [U_B h h0 h1] at this
  exact this
theorem set_int (h i n : Int) (w : World) (h0 : 0 ≤ h) (h1 : h < 18446744073709551616) :
    Calls Try.prog 14 #[.int .u64 h, .int .i64 i, .int .i64 n] w fun e w' => e = .returned (.int .u64 (U (setI (B h) i n))) ∧ Grown w w' := by
  have := set_grown (B h) i n w
  rw [U_B h h0 h1] at this
  exact this
theorem halve_int (h : Int) (w : World) (h0 : 0 ≤ h) (h1 : h < 18446744073709551616) :
    Calls Try.prog 18 #[.int .u64 h] w fun e w' => e = .returned (.int .u64 (U (halveB (B h)))) ∧ Grown w w' := by
  have := halve_any (B h) w
  rw [U_B h h0 h1] at this
  exact this
theorem sum_int (h : Int) (w : World) (h0 : 0 ≤ h) (h1 : h < 18446744073709551616) :
    Calls Try.prog 20 #[.int .u64 h] w fun e w' => e = .returned (.int .i64 (sumI (B h))) ∧ Grown w w' := by
  have := sum_any (B h) w
  rw [U_B h h0 h1] at this
  exact this
theorem odd_int (h : Int) (w : World) (h0 : 0 ≤ h) (h1 : h < 18446744073709551616) :
    Calls Try.prog 22 #[.int .u64 h] w fun e w' => e = .returned (.int .i64 (oddI (B h))) ∧ Grown w w' := by
  have := odd_any (B h) w
  rw [U_B h h0 h1] at this
  exact this

set_option maxHeartbeats 1000000 in
theorem small_any (w : World) : Calls Try.prog 9 #[] w fun e w' => e = .returned (.bool true) ∧ Grown w w' := by
  have f1 : U (incI (B 47) 0) = 47 := by decide
  have f2 : incOk (B 47) 0 = false := by decide
  have f3 : U (incI (B 47) 1) = 63 := by decide
  have f4 : incOk (B 47) 1 = true := by decide
  have f5 : getI (B 47) 1 = 2 := by decide
  have f6 : U (halveB (B 47)) = 23 := by decide +kernel
  have f7 : sumI (B 47) = 17 := by decide +kernel
  have f8 : oddI (B 47) = 1 := by decide +kernel
  have f9 : U (setI (B 0) 2 99) = 3840 := by decide +kernel
  have hg := Grown.refl w
  go_enter Try.func9, Try.ntmps9
  go_wp2_with (first | (go_at_call 10; refine (inc_int _ _ _ (by decide) (by decide)).mono ?_; rintro e w' ⟨rfl, hg'⟩; replace hg := grownTrans hg hg'; clear hg') | (go_at_call 12; refine (get_int _ _ _ (by decide) (by decide)).mono ?_; rintro e w' ⟨rfl, rfl⟩) | (go_at_call 18; refine (halve_int _ _ (by decide) (by decide)).mono ?_; rintro e w' ⟨rfl, hg'⟩; replace hg := grownTrans hg hg'; clear hg') | (go_at_call 20; refine (sum_int _ _ (by decide) (by decide)).mono ?_; rintro e w' ⟨rfl, hg'⟩; replace hg := grownTrans hg hg'; clear hg') | (go_at_call 22; refine (odd_int _ _ (by decide) (by decide)).mono ?_; rintro e w' ⟨rfl, hg'⟩; replace hg := grownTrans hg hg'; clear hg') | (go_at_call 14; refine (set_int _ _ _ _ (by decide) (by decide)).mono ?_; rintro e w' ⟨rfl, hg'⟩; replace hg := grownTrans hg hg'; clear hg'))
  go_ret
  exact ⟨rfl, hg⟩
end Go.Proofs.Ytemdgkmcjpagiaa
