/-
  The small case with which each statement of layer 1 begins comes out right: the function small returns true and leaves memory as it was. No condition.
-/
import Derived.Test.YtbdpbkpmhlgaaaaMixWalks
import Derived.Test.YtbdpbkpmhlgaaaaMixCeil
namespace Go.Proofs.Ytbdpbkpmhlgaaaa
open Go.RowKit

theorem turn_int (h n : Int) (w : World) (h0 : 0 ≤ h) (h1 : h < 18446744073709551616) :
    Calls Try.prog 12 #[.int .u64 h, .int .i64 n] w fun e w' => e = .returned (.int .u64 (U (turnB (B h) n))) ∧ w' = w := by
  have := turn_any (B h) n w
  rw [U_B h h0 h1] at this
  exact this
theorem index_int (h r s : Int) (w : World) (h0 : 0 ≤ h) (h1 : h < 18446744073709551616) (hs : s ≤ 9223372036854775807) :
    Calls Try.prog 14 #[.int .u64 h, .int .i64 r, .int .i64 s] w fun e w' => e = .returned (.int .i64 (indexI (B h) r s)) ∧ w' = w := by
  have := index_any (B h) r s w hs
  rw [U_B h h0 h1] at this
  exact this

set_option maxHeartbeats 1000000 in
theorem small_any (w : World) : Calls Try.prog 9 #[] w fun e w' => e = .returned (.bool true) ∧ w' = w := by
  have f1 : U (turnB (B 1) 65) = 2 := by decide
  have f2 : U (turnB (B 1) (-1)) = 9223372036854775808 := by decide
  have f3 : ceilI 17 16 64 = 32 := by decide
  have f4 : ceilI 99 16 64 = 64 := by decide
  have f5 : ceilI 5 3 64 = 0 := by decide
  have f6 : indexI (B 7) 0 4 = 3 := by decide
  have f7 : (backB 5 (mixB 5 9)).toInt = 9 := by rw [back_mix]; exact toInt_B 9 (by decide) (by decide)
  have f8 : (U (mixB 0 1) != U (mixB 0 2)) = true := by
    have : U (mixB 0 1) ≠ U (mixB 0 2) := fun h => by
      have g := congrArg (backB 0) (U_inj h)
      rw [back_mix, back_mix] at g
      exact absurd g (by decide)
    simpa using this
  go_enter Try.func9, Try.ntmps9
  go_wp2_with (first | (go_at_call 12; refine (turn_int _ _ _ (by decide) (by decide)).mono ?_; rintro e w' ⟨rfl, rfl⟩) | (go_at_call 16; refine (ceil_any _ _ _ _ (by decide) (by decide)).mono ?_; rintro e w' ⟨rfl, rfl⟩) | (go_at_call 14; refine (index_int _ _ _ _ (by decide) (by decide) (by decide)).mono ?_; rintro e w' ⟨rfl, rfl⟩) | (go_at_call 10; refine (mix_any _ _ _).mono ?_; rintro e w' ⟨rfl, rfl⟩) | (go_at_call 18; refine (back_any _ _ _).mono ?_; rintro e w' ⟨rfl, rfl⟩))
  go_ret
  exact ⟨rfl, rfl⟩
end Go.Proofs.Ytbdpbkpmhlgaaaa
