/-
  What each function of package mix, and each of the document's own answers for it, does when it is called: it returns the word or number told here and leaves memory as it was. No condition but that the numbers are of their Go types.
-/
import Derived.Test.YthjcdloaclailaaRows
import Derived.Test.YthjcdloaclailaaMixMath
import Derived.WalkSpells
import Derived.WalkLawsBesides
namespace Go.Proofs.Ythjcdloaclailaa
open Go.RowKit

theorem seedWord_any (a : Int) (w : World) :
    Calls Try.prog 44 #[.int .i64 a] w fun e w' => e = .returned (.int .u64 (U (seedB a))) ∧ w' = w := by
  go_enter Try.func44, Try.ntmps44
  go_wp2
  go_ret
  exact ⟨ret_int (by rw [wrap_U, wrap_U, B_mul, B_U]; rfl), rfl⟩

theorem fold_any (x : BitVec 64) (n : Nat) (w : World) (hn : n < 64) :
    Calls Try.prog 45 #[.int .u64 (U x), .int .u64 n] w fun e w' => e = .returned (.int .u64 (U (foldB x n))) ∧ w' = w := by
  have h0 := U_nonneg x
  go_enter Try.func45, Try.ntmps45
  go_wp2
  go_ret
  exact ⟨ret_int (by rw [U_shr, bits_xor_U, B_U, B_U]; rfl), rfl⟩

theorem mix_any (s k : Int) (w : World) :
    Calls Try.prog 30 #[.int .i64 s, .int .i64 k] w fun e w' => e = .returned (.int .u64 (U (mixB s k))) ∧ w' = w := by
  go_enter Try.func30, Try.ntmps30
  go_wp2
  go_ret
  exact ⟨ret_int (by simp only [wrap_U, bits_xor_U, B_mul, B_U, U_shr30, U_shr27, U_shr31]; rfl), rfl⟩

theorem refMix_any (s k : Int) (w : World) :
    Calls Try.prog 56 #[.int .i64 s, .int .i64 k] w fun e w' => e = .returned (.int .u64 (U (mixB s k))) ∧ w' = w := by
  go_enter Try.func56, Try.ntmps56
  go_wp2
  go_ret
  exact ⟨ret_int (by simp only [wrap_U, bits_xor_U, B_mul, B_U, U_shr30, U_shr27, U_shr31]; rfl), rfl⟩

theorem rotate_any (x : BitVec 64) (n : Nat) (w : World) (hn : n < 64) :
    Calls Try.prog 54 #[.int .u64 (U x), .int .i64 n] w fun e w' => e = .returned (.int .u64 (U (rot x n))) ∧ w' = w := by
  have h0 := U_nonneg x
  have hb := and63_u64 n hn
  go_enter Try.func54, Try.ntmps54
  go_wp2
  go_ret
  exact ⟨ret_int (by rw [U_shl, U_shr, bits_or_U, B_U, B_U]; rfl), rfl⟩

theorem turn_any (x : BitVec 64) (n : Int) (w : World) :
    Calls Try.prog 43 #[.int .u64 (U x), .int .i64 n] w fun e w' => e = .returned (.int .u64 (U (turnB x n))) ∧ w' = w := by
  have hb := and63_i64 n
  obtain ⟨m, hm⟩ : ∃ m : Nat, n % 64 = m := ⟨(n % 64).toNat, by omega⟩
  have hlt : m < 64 := by omega
  have ht : turnB x n = rot x m := by unfold turnB; rw [hm]; rfl
  rw [ht]
  rw [hm] at hb
  clear ht hm
  go_enter Try.func43, Try.ntmps43
  go_wp2_with (go_at_call 54; refine (rotate_any _ _ _ hlt).mono ?_; rintro e w' ⟨rfl, rfl⟩)
  go_ret
  exact ⟨rfl, rfl⟩

def unfStep (x : BitVec 64) (k : Nat) : Nat → BitVec 64
  | 0 => x
  | c + 1 => x ^^^ unfStep x k c >>> k

theorem tmod64 (n : Int) (m : Nat) (h : n % 64 = m) : n.tmod 64 = (m : Int) ∨ n.tmod 64 = (m : Int) - 64 := by
  obtain ⟨k, rfl | rfl⟩ := Int.eq_nat_or_neg n
  · left; rw [Int.tmod_eq_emod_of_nonneg (by omega)]; exact h
  · rw [Int.neg_tmod, Int.tmod_eq_emod_of_nonneg (by omega)]; omega
theorem rot_next (x : BitVec 64) (k : Nat) (h : k + 1 < 64) : rot (rot x k) 1 = rot x (k + 1) := by
  rw [rot_rot _ _ _ (by omega) (by omega), Nat.mod_eq_of_lt h]

theorem refTurn_any (x : BitVec 64) (n : Int) (w : World) :
    Calls Try.prog 76 #[.int .u64 (U x), .int .i64 n] w fun e w' => e = .returned (.int .u64 (U (turnB x n))) ∧ w' = w := by
  obtain ⟨m, hm⟩ : ∃ m : Nat, n % 64 = m := ⟨(n % 64).toNat, by omega⟩
  have hlt : m < 64 := by omega
  have ht : turnB x n = rot x m := by unfold turnB; rw [hm]; rfl
  rw [ht]
  have hmod := tmod64 n m hm
  clear ht hm
  rcases hmod with hmod | hmod
  all_goals
    go_enter Try.func76, Try.ntmps76
    go_wp2
    go_loop [0, 6, 7] (fun h i _ => ∃ k : Nat, k ≤ m ∧ i = .int .i64 k ∧ h = .int .u64 (U (rot x k))) (fun _ i _ => m - (intOf i).toNat)
    case atStart => exact ⟨0, by omega, rfl, by rw [rot_zero]⟩
    case round =>
      obtain ⟨k, hk, rfl, rfl⟩ := hrel
      have h0 := U_nonneg (rot x k)
      by_cases hlt : k < m
      · go_wp2
        go_round
        case rel => exact ⟨k + 1, by omega, by go_num, by rw [← rot_next x k (by omega), rot_one, U_shr63, wrap_U, wrap_U, B_add, B_U, B_U, B_mul, B_U]; rfl⟩
        case measure => simp [intOf]; omega
      · obtain rfl : k = m := by omega
        go_wp2
        go_ret
        exact ⟨rfl, rfl⟩

theorem index_any (x : BitVec 64) (row size : Int) (w : World) (hs : size ≤ 9223372036854775807) :
    Calls Try.prog 29 #[.int .u64 (U x), .int .i64 row, .int .i64 size] w fun e w' => e = .returned (.int .i64 (indexI x row size)) ∧ w' = w := by
  by_cases h : size < 1
  · rw [index_none x row size h]
    go_enter Try.func29, Try.ntmps29
    go_wp2
    go_ret
    exact ⟨rfl, rfl⟩
  · have hi : wrap64 (U (turnB x (16 * row)) % size) = indexI x row size := by
      have hb := index_bd x row size (by omega)
      unfold indexI at hb ⊢
      rw [if_neg h] at hb ⊢
      exact IntWalk.wrap64_in _ ⟨by omega, by omega⟩
    have hm : turnB x (wrap64 (16 * row)) = turnB x (16 * row) := turn_mod _ _ _ (by unfold wrap64; omega)
    have hu := U_nonneg (turnB x (16 * row))
    go_enter Try.func29, Try.ntmps29
    go_wp2_with (go_at_call 43; refine (turn_any _ _ _).mono ?_; rintro e w' ⟨rfl, rfl⟩)
    go_ret
    exact ⟨ret_int hi, rfl⟩

theorem refIndex_any (x : BitVec 64) (row size : Int) (w : World) (hs : size ≤ 9223372036854775807) :
    Calls Try.prog 55 #[.int .u64 (U x), .int .i64 row, .int .i64 size] w fun e w' => e = .returned (.int .i64 (indexI x row size)) ∧ w' = w := by
  by_cases h : size < 1
  · rw [index_none x row size h]
    go_enter Try.func55, Try.ntmps55
    go_wp2
    go_ret
    exact ⟨rfl, rfl⟩
  · have hi : wrap64 (U (turnB x (16 * row)) % size) = indexI x row size := by
      have hb := index_bd x row size (by omega)
      unfold indexI at hb ⊢
      rw [if_neg h] at hb ⊢
      exact IntWalk.wrap64_in _ ⟨by omega, by omega⟩
    have hm : turnB x (wrap64 (16 * row)) = turnB x (16 * row) := turn_mod _ _ _ (by unfold wrap64; omega)
    have hu := U_nonneg (turnB x (16 * row))
    go_enter Try.func55, Try.ntmps55
    go_wp2_with (go_at_call 76; refine (refTurn_any _ _ _).mono ?_; rintro e w' ⟨rfl, rfl⟩)
    go_ret
    exact ⟨ret_int hi, rfl⟩
end Go.Proofs.Ythjcdloaclailaa
