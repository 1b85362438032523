/-
  What Get, Set and Inc of package nibble, and the document's own Get, do when they are called: they return what is told here and leave memory as it was. No condition but that the numbers are of their Go types.
-/
import Derived.Test.YtaelaikfpehciaaRows
import Derived.Test.YtaelaikfpehciaaNibMath
import Derived.WalkSpells
import Derived.WalkLawsBesides
import Derived.Deep.QuietTactic
import Derived.BigQuiet
namespace Go.Proofs.Ytaelaikfpehciaa
open Go.RowKit

theorem ret_boolN {a b : Bool} (h : a = b) : Ending.returned (.bool a) = .returned (.bool b) := by rw [h]

theorem isCounter_any (i : Int) (w : World) :
    Calls Try.prog 58 #[.int .i64 i] w fun e w' => e = .returned (.bool (inC i)) ∧ w' = w := by
  go_enter Try.func58, Try.ntmps58
  go_wp2
  all_goals go_ret
  · exact ⟨ret_boolN (by unfold inC; rw [Bool.eq_iff_iff]; simp; omega), rfl⟩
  · exact ⟨ret_boolN (by rw [inC_no (by omega)]), rfl⟩

theorem lowBit_any (k : Nat) (w : World) (h : k < 16) :
    Calls Try.prog 62 #[.int .i64 k] w fun e w' => e = .returned (.int .i64 (4 * k : Nat)) ∧ w' = w := by
  go_enter Try.func62, Try.ntmps62
  go_wp2
  go_ret
  exact ⟨by go_num, rfl⟩

theorem and15 (x : BitVec 64) (k : Nat) (h : k < 16) : wrap64 (bits .and .u64 (U x / 2 ^ (4 * k)) 15) = getI x k := by
  rw [U_shr, bits_and_U, B_U, getI_nat x k h]
  have e : U (x >>> (4 * k) &&& B 15) = (G x k : Int) := by
    unfold U G
    rw [BitVec.toNat_and, show (B 15).toNat = 2 ^ 4 - 1 from rfl, Nat.and_two_pow_sub_one_eq_mod, BitVec.toNat_ushiftRight, Nat.shiftRight_eq_div_pow, pow16]
  rw [e]
  have := G_lt x k
  unfold wrap64; omega

theorem get_any (x : BitVec 64) (i : Int) (w : World) :
    Calls Try.prog 56 #[.int .u64 (U x), .int .i64 i] w fun e w' => e = .returned (.int .i64 (getI x i)) ∧ w' = w := by
  cases hc : inC i with
  | false =>
    rw [getI_none x i hc]
    go_enter Try.func56, Try.ntmps56
    go_wp2_with (go_at_call 58; refine (isCounter_any _ _).mono ?_; rintro e w' ⟨rfl, rfl⟩)
    go_ret
    exact ⟨rfl, rfl⟩
  | true =>
    obtain ⟨k, rfl⟩ : ∃ k : Nat, i = k := ⟨i.toNat, by have := inC_true hc; omega⟩
    have hk : k < 16 := by have := inC_true hc; omega
    have hx := U_nonneg x
    go_enter Try.func56, Try.ntmps56
    go_wp2_with (first | (go_at_call 58; refine (isCounter_any _ _).mono ?_; rintro e w' ⟨rfl, rfl⟩) | (go_at_call 62; refine (lowBit_any _ _ hk).mono ?_; rintro e w' ⟨rfl, rfl⟩))
    go_ret
    exact ⟨ret_int (and15 x k hk), rfl⟩

theorem bits_andNot_U (a b : Int) : bits .andNot .u64 a b = U (B a &&& ~~~ B b) := wrap_nat _
theorem put_bits (x : BitVec 64) (k : Nat) (n : Int) (h0 : 0 ≤ n) (h1 : n ≤ 15) :
    bits .or .u64 (bits .andNot .u64 (U x) (IntKind.u64.wrap (15 * 2 ^ (4 * k)))) (IntKind.u64.wrap (n * 2 ^ (4 * k))) = U (putB x k n.toNat) := by
  have e1 : IntKind.u64.wrap (15 * 2 ^ (4 * k)) = U (15#64 <<< (4 * k)) := U_shl 15#64 (4 * k)
  have e2 : IntKind.u64.wrap (n * 2 ^ (4 * k)) = U (BitVec.ofNat 64 n.toNat <<< (4 * k)) := by
    rw [← U_shl]; congr 2
    unfold U; rw [BitVec.toNat_ofNat, Nat.mod_eq_of_lt (by omega)]; omega
  rw [e1, e2, bits_or_U, bits_andNot_U, B_U, B_U, B_U, B_U]
  rfl
theorem put_zero (x : BitVec 64) (k : Nat) : bits .or .u64 (bits .andNot .u64 (U x) (IntKind.u64.wrap (15 * 2 ^ (4 * k)))) 0 = U (putB x k 0) := by
  have h := put_bits x k 0 (by decide) (by decide)
  rw [Int.zero_mul] at h
  exact h

theorem set_in (x : BitVec 64) (k : Nat) (n : Int) (w : World) (hk : k < 16) :
    Calls Try.prog 59 #[.int .u64 (U x), .int .i64 k, .int .i64 n] w fun e w' => e = .returned (.int .u64 (U (putB x k (clampI n).toNat))) ∧ ∃ m, w' = w.drewN m := by
  have hc := inC_nat k hk
  have hx := U_nonneg x
  have hn : n < 0 ∨ (0 ≤ n ∧ n ≤ 15) ∨ (0 ≤ n ∧ 15 < n) := by omega
  rcases hn with h | ⟨h, h'⟩ | ⟨h, h'⟩
  all_goals
    go_enter Try.func59, Try.ntmps59
    go_wp2_with (first | (go_at_call 58; refine (isCounter_any _ _).mono ?_; rintro e w' ⟨rfl, rfl⟩) | (go_at_call 62; refine (lowBit_any _ _ hk).mono ?_; rintro e w' ⟨rfl, rfl⟩))
    go_quiet (fail)
    go_wp2
    go_ret
  · exact ⟨ret_int (by rw [put_zero, show clampI n = 0 by unfold clampI; omega]; rfl), _, rfl⟩
  · exact ⟨ret_int (by rw [put_bits x k n h h', clamp_in n h h']), _, rfl⟩
  · exact ⟨ret_int (by rw [put_bits x k 15 (by decide) (by decide), show clampI n = 15 by unfold clampI; omega]), _, rfl⟩

theorem set_any (x : BitVec 64) (i n : Int) (w : World) :
    Calls Try.prog 59 #[.int .u64 (U x), .int .i64 i, .int .i64 n] w fun e w' => e = .returned (.int .u64 (U (setI x i n))) ∧ ∃ m, w' = w.drewN m := by
  cases hc : inC i with
  | false =>
    rw [setI_none x i n hc]
    go_enter Try.func59, Try.ntmps59
    go_wp2_with (go_at_call 58; refine (isCounter_any _ _).mono ?_; rintro e w' ⟨rfl, rfl⟩)
    go_ret
    exact ⟨rfl, 0, rfl⟩
  | true =>
    obtain ⟨k, rfl⟩ : ∃ k : Nat, i = k := ⟨i.toNat, by have := inC_true hc; omega⟩
    have hk : k < 16 := by have := inC_true hc; omega
    have e : setI x k n = putB x k (clampI n).toNat := by unfold setI; rw [if_pos hc]; rfl
    rw [e]
    exact set_in x k n w hk

theorem inc_any (x : BitVec 64) (i : Int) (w : World) :
    Calls Try.prog 50 #[.int .u64 (U x), .int .i64 i] w fun e w' => e = .returned (.tuple #[.int .u64 (U (incI x i)), .bool (incOk x i)]) ∧ ∃ m, w' = w.drewN m := by
  have hb := getI_bd x i
  cases hc : inC i with
  | false =>
    have h1 : incOk x i = false := by unfold incOk; rw [hc]; rfl
    have h2 : incI x i = x := by unfold incI; rw [h1]; rfl
    rw [h1, h2]; clear h1 h2
    go_enter Try.func50, Try.ntmps50
    go_wp2_with (first | (go_at_call 58; refine (isCounter_any _ _).mono ?_; rintro e w' ⟨rfl, rfl⟩) | (go_at_call 56; refine (get_any _ _ _).mono ?_; rintro e w' ⟨rfl, rfl⟩))
    go_ret2
    exact ⟨rfl, 0, rfl⟩
  | true =>
    by_cases hl : getI x i < 15
    · have h1 : incOk x i = true := by unfold incOk; rw [hc, decide_eq_true hl]; rfl
      have h2 : incI x i = setI x i (getI x i + 1) := by unfold incI; rw [h1]; rfl
      rw [h1, h2]; clear h1 h2
      go_enter Try.func50, Try.ntmps50
      go_wp2_with (first | (go_at_call 58; refine (isCounter_any _ _).mono ?_; rintro e w' ⟨rfl, rfl⟩) | (go_at_call 56; refine (get_any _ _ _).mono ?_; rintro e w' ⟨rfl, rfl⟩) | (go_at_call 59; refine (set_any _ _ _ _).mono ?_; rintro e w' ⟨rfl, m, rfl⟩))
      go_ret2
      exact ⟨rfl, _, rfl⟩
    · have h1 : incOk x i = false := by unfold incOk; rw [hc, decide_eq_false hl]; rfl
      have h2 : incI x i = x := by unfold incI; rw [h1]; rfl
      rw [h1, h2]; clear h1 h2
      go_enter Try.func50, Try.ntmps50
      go_wp2_with (first | (go_at_call 58; refine (isCounter_any _ _).mono ?_; rintro e w' ⟨rfl, rfl⟩) | (go_at_call 56; refine (get_any _ _ _).mono ?_; rintro e w' ⟨rfl, rfl⟩))
      go_ret2
      exact ⟨rfl, 0, rfl⟩

theorem U_div16 (x : BitVec 64) (k : Nat) : U x / 16 ^ k = ((x.toNat / 16 ^ k : Nat) : Int) := by
  unfold U; rw [Int.natCast_ediv, Int.natCast_pow]; rfl
theorem G_step (x : BitVec 64) (k : Nat) : U x / 16 ^ k / 16 = U x / 16 ^ (k + 1) := by
  rw [U_div16, U_div16, Nat.pow_succ, ← Nat.div_div_eq_div_mul]; omega
theorem G_end (x : BitVec 64) (k : Nat) : U x / 16 ^ k % 16 = (G x k : Int) := by
  rw [U_div16]; unfold G; omega
theorem U_div_bd (x : BitVec 64) (k : Nat) : 0 ≤ U x / 16 ^ k ∧ U x / 16 ^ k < 18446744073709551616 := by
  have h0 := U_nonneg x
  have h1 := U_lt x
  have hp : (0 : Int) < 16 ^ k := Int.pow_pos (by decide)
  exact ⟨Int.ediv_nonneg h0 (by omega), Int.lt_of_le_of_lt (Int.ediv_le_self _ h0) h1⟩
end Go.Proofs.Ytaelaikfpehciaa
