/-
  The plain mathematics of layer 1's words of 64 bits: what the walk's integers are as bit vectors, that a word folded is unfolded again, that turns add up, and sums of bits. No condition: all is over bit vectors, integers and natural numbers.
-/
import Derived.WalkKit
namespace Go.Proofs.Ythjcdloaclailaa

/-- The number of a word of 64 bits. -/
def U (x : BitVec 64) : Int := (x.toNat : Int)
/-- The word of a number. -/
def B (n : Int) : BitVec 64 := BitVec.ofInt 64 n

theorem U_nonneg (x : BitVec 64) : 0 ≤ U x := by unfold U; omega
theorem U_lt (x : BitVec 64) : U x < 18446744073709551616 := by have := x.isLt; unfold U; omega
theorem B_U (x : BitVec 64) : B (U x) = x := by
  unfold B U; rw [BitVec.ofInt_natCast]; exact BitVec.ofNat_toNat ..|>.trans (by simp)
theorem toNat_B (n : Int) : ((B n).toNat : Int) = n % 18446744073709551616 := by
  unfold B
  rw [BitVec.toNat_ofInt]
  omega
theorem U_B (n : Int) (h : 0 ≤ n) (h' : n < 18446744073709551616) : U (B n) = n := by
  unfold U; rw [toNat_B]; omega
theorem wrap_U (n : Int) : IntKind.u64.wrap n = U (B n) := by
  rw [IntKind.wrap_u64]; unfold U; rw [toNat_B]
theorem U_inj {x y : BitVec 64} (h : U x = U y) : x = y := by rw [← B_U x, h, B_U]
theorem U_beq (x y : BitVec 64) : (U x == U y) = (x == y) := by
  rw [Bool.eq_iff_iff]; simp only [beq_iff_eq]; exact ⟨U_inj, fun h => by rw [h]⟩
theorem wrap_nat (x : BitVec 64) : IntKind.u64.wrap (x.toNat : Int) = U x := by
  have := x.isLt; rw [IntKind.wrap_u64]; unfold U; omega
theorem bits_xor_U (a b : Int) : bits .xor .u64 a b = U (B a ^^^ B b) := wrap_nat _
theorem bits_or_U (a b : Int) : bits .or .u64 a b = U (B a ||| B b) := wrap_nat _
theorem bits_and_U (a b : Int) : bits .and .u64 a b = U (B a &&& B b) := wrap_nat _
theorem B_mul (a b : Int) : B (a * b) = B a * B b := BitVec.ofInt_mul ..
theorem B_add (a b : Int) : B (a + b) = B a + B b := BitVec.ofInt_add ..
theorem U_shr (x : BitVec 64) (k : Nat) : U x / 2 ^ k = U (x >>> k) := by
  unfold U; rw [BitVec.toNat_ushiftRight, Nat.shiftRight_eq_div_pow]; simp
theorem U_shl (x : BitVec 64) (k : Nat) : IntKind.u64.wrap (U x * 2 ^ k) = U (x <<< k) := by
  rw [IntKind.wrap_u64]; unfold U; rw [BitVec.toNat_shiftLeft, Nat.shiftLeft_eq, Int.natCast_emod, Int.natCast_mul, Int.natCast_pow]; rfl
theorem U_shr30 (x : BitVec 64) : U x / (1073741824 : Int) = U (x >>> 30) := U_shr x 30
theorem U_shr27 (x : BitVec 64) : U x / (134217728 : Int) = U (x >>> 27) := U_shr x 27
theorem U_shr31 (x : BitVec 64) : U x / (2147483648 : Int) = U (x >>> 31) := U_shr x 31
theorem U_shr63 (x : BitVec 64) : U x / (9223372036854775808 : Int) = U (x >>> 63) := U_shr x 63
theorem wrap64_toInt (n : Int) : Go.RowKit.wrap64 n = (B n).toInt := by
  unfold B Go.RowKit.wrap64
  rw [BitVec.toInt_ofInt, Int.bmod_def]
  simp only [Nat.reducePow]
  omega
theorem toInt_B (n : Int) (h : -9223372036854775808 ≤ n) (h' : n ≤ 9223372036854775807) : (B n).toInt = n := by
  rw [← wrap64_toInt]; unfold Go.RowKit.wrap64; omega
theorem B_toInt (x : BitVec 64) : B x.toInt = x := by unfold B; exact BitVec.ofInt_toInt
theorem B_inj {a b : Int} (h : -9223372036854775808 ≤ a) (h' : a ≤ 9223372036854775807) (g : -9223372036854775808 ≤ b) (g' : b ≤ 9223372036854775807) (e : B a = B b) : a = b := by
  rw [← toInt_B a h h', e, toInt_B b g g']
theorem wf_i64 {n : Int} (h : (Lit.int .i64 n).wf = true) : -9223372036854775808 ≤ n ∧ n ≤ 9223372036854775807 := by
  simpa [Lit.wf, IntKind.min, IntKind.max, IntKind.signed, IntKind.bits] using h
theorem wf_u64 {n : Int} (h : (Lit.int .u64 n).wf = true) : ∃ x, n = U x := by
  have h' : 0 ≤ n ∧ n ≤ 18446744073709551615 := by simpa [Lit.wf, IntKind.min, IntKind.max, IntKind.signed, IntKind.bits] using h
  exact ⟨B n, (U_B n (by omega) (by omega)).symm⟩

/-! ### words of keys -/
def foldB (x : BitVec 64) (k : Nat) : BitVec 64 := x ^^^ x >>> k
def unfB (x : BitVec 64) (k : Nat) : BitVec 64 := x ^^^ (x ^^^ x >>> k) >>> k
def seedB (s : Int) : BitVec 64 := B s * 0x9E3779B97F4A7C15#64
def mixB (s k : Int) : BitVec 64 :=
  foldB (foldB (foldB (B k ^^^ seedB s) 30 * 0xBF58476D1CE4E5B9#64) 27 * 0x94D049BB133111EB#64) 31
def backB (s : Int) (h : BitVec 64) : BitVec 64 :=
  unfB (unfB (unfB h 31 * 0x319642B2D24D8EC3#64) 27 * 0x96DE1B173F119089#64) 30 ^^^ seedB s

theorem unf_fold (x : BitVec 64) (k : Nat) (h : 64 ≤ 3 * k) : unfB (foldB x k) k = x := by
  apply BitVec.eq_of_getLsbD_eq
  intro i hi
  unfold unfB foldB
  simp only [BitVec.getLsbD_xor, BitVec.getLsbD_ushiftRight]
  rw [BitVec.getLsbD_of_ge x (k + (k + (k + i))) (by omega)]
  cases x.getLsbD i <;> cases x.getLsbD (k + i) <;> cases x.getLsbD (k + (k + i)) <;> rfl
theorem fold_unf (x : BitVec 64) (k : Nat) (h : 64 ≤ 3 * k) : foldB (unfB x k) k = x := by
  apply BitVec.eq_of_getLsbD_eq
  intro i hi
  unfold unfB foldB
  simp only [BitVec.getLsbD_xor, BitVec.getLsbD_ushiftRight]
  rw [BitVec.getLsbD_of_ge x (k + (k + (k + i))) (by omega)]
  cases x.getLsbD i <;> cases x.getLsbD (k + i) <;> cases x.getLsbD (k + (k + i)) <;> rfl
theorem mul_undo (x a b : BitVec 64) (h : a * b = 1#64) : x * a * b = x := by rw [BitVec.mul_assoc, h, BitVec.mul_one]
theorem xor_undo (x y : BitVec 64) : x ^^^ y ^^^ y = x := by rw [BitVec.xor_assoc, BitVec.xor_self, BitVec.xor_zero]
theorem back_mix (s k : Int) : backB s (mixB s k) = B k := by
  unfold backB mixB
  rw [unf_fold _ 31 (by omega), mul_undo _ _ _ (by decide), unf_fold _ 27 (by omega), mul_undo _ _ _ (by decide), unf_fold _ 30 (by omega), xor_undo]
theorem mix_back (s : Int) (h : BitVec 64) : mixB s (backB s h).toInt = h := by
  unfold mixB
  rw [B_toInt]
  unfold backB
  rw [xor_undo, fold_unf _ 30 (by omega), mul_undo _ _ _ (by decide), fold_unf _ 27 (by omega), mul_undo _ _ _ (by decide), fold_unf _ 31 (by omega)]

/-! ### turns -/
def rot (x : BitVec 64) (n : Nat) : BitVec 64 := x <<< n ||| x >>> (64 - n)
theorem rot_bit (x : BitVec 64) (n i : Nat) (hn : n < 64) (hi : i < 64) : (rot x n).getLsbD i = x.getLsbD ((i + (64 - n)) % 64) := by
  unfold rot
  simp only [BitVec.getLsbD_or, BitVec.getLsbD_shiftLeft, BitVec.getLsbD_ushiftRight]
  by_cases h : i < n
  · have e : (i + (64 - n)) % 64 = 64 - n + i := by omega
    rw [e]; simp [h]
  · have e : (i + (64 - n)) % 64 = i - n := by omega
    rw [e, BitVec.getLsbD_of_ge x (64 - n + i) (by omega)]; simp [h, hi]
theorem rot_zero (x : BitVec 64) : rot x 0 = x := by
  apply BitVec.eq_of_getLsbD_eq; intro i hi
  rw [rot_bit x 0 i (by omega) hi]; congr 1; omega
theorem rot_rot (x : BitVec 64) (m n : Nat) (hm : m < 64) (hn : n < 64) : rot (rot x m) n = rot x ((m + n) % 64) := by
  apply BitVec.eq_of_getLsbD_eq; intro i hi
  rw [rot_bit _ n i hn hi, rot_bit _ m _ hm (by omega), rot_bit _ _ i (by omega) hi]; congr 1; omega
theorem rot_none (n : Nat) (hn : n < 64) : rot 0#64 n = 0#64 := by
  apply BitVec.eq_of_getLsbD_eq; intro i hi
  rw [rot_bit _ n i hn hi]; simp
theorem rot_full (n : Nat) (hn : n < 64) : rot (BitVec.allOnes 64) n = BitVec.allOnes 64 := by
  apply BitVec.eq_of_getLsbD_eq; intro i hi
  rw [rot_bit _ n i hn hi, BitVec.getLsbD_allOnes, BitVec.getLsbD_allOnes, decide_eq_true hi, decide_eq_true (Nat.mod_lt _ (by omega))]
theorem rot_one (x : BitVec 64) : rot x 1 = x * 2#64 + x >>> 63 := by
  have e : x * 2#64 = x <<< 1 := by
    apply BitVec.eq_of_toNat_eq; simp [BitVec.toNat_mul, BitVec.toNat_shiftLeft, Nat.shiftLeft_eq]
  rw [e, BitVec.add_eq_or_of_and_eq_zero]
  · rfl
  · apply BitVec.eq_of_getLsbD_eq; intro i hi
    simp only [BitVec.getLsbD_and, BitVec.getLsbD_shiftLeft, BitVec.getLsbD_ushiftRight]
    by_cases h : i < 1
    · simp [h]
    · rw [BitVec.getLsbD_of_ge x (63 + i) (by omega)]; simp

/-- Turn: by as many places as the number is modulo 64. -/
def turnB (x : BitVec 64) (n : Int) : BitVec 64 := rot x (n % 64).toNat
theorem turn_turn (x : BitVec 64) (a b : Int) : turnB (turnB x a) b = turnB x (a + b) := by
  unfold turnB; rw [rot_rot _ _ _ (by omega) (by omega)]; congr 1; omega
theorem turn_mod (x : BitVec 64) (a b : Int) (h : a % 64 = b % 64) : turnB x a = turnB x b := by unfold turnB; rw [h]
theorem turn_round (x : BitVec 64) (a : Int) (h : a % 64 = 0) : turnB x a = x := by unfold turnB; rw [h]; exact rot_zero x

/-- The place in a row. -/
def indexI (x : BitVec 64) (row size : Int) : Int := if size < 1 then 0 else U (turnB x (16 * row)) % size
theorem index_bd (x : BitVec 64) (row size : Int) (h : 1 ≤ size) : 0 ≤ indexI x row size ∧ indexI x row size < size := by
  unfold indexI; rw [if_neg (by omega)]
  exact ⟨Int.emod_nonneg _ (by omega), Int.emod_lt_of_pos _ (by omega)⟩
theorem index_none (x : BitVec 64) (row size : Int) (h : size < 1) : indexI x row size = 0 := by unfold indexI; rw [if_pos h]

/-! ### the low six bits of a number -/
theorem and63_i64 (b : Int) : bits .and .i64 b 63 = b % 64 := by
  have e : ∀ x : BitVec 64, IntKind.i64.wrap ((x &&& 63#64).toNat : Int) = ((x.toNat % 64 : Nat) : Int) := by
    intro x
    have h : (x &&& 63#64).toNat = x.toNat % 64 := by
      rw [BitVec.toNat_and]; exact Nat.and_two_pow_sub_one_eq_mod x.toNat 6
    rw [h]; simp [IntKind.wrap, IntKind.signed, IntKind.bits]; omega
  have g : bits .and .i64 b 63 = IntKind.i64.wrap ((B b &&& 63#64).toNat : Int) := rfl
  rw [g, e]; have := toNat_B b; push_cast; omega
theorem and63_u64 (n : Nat) (h : n < 64) : bits .and .u64 (n : Int) 63 = n := by
  have g : bits .and .u64 (n : Int) 63 = IntKind.u64.wrap ((B n &&& 63#64).toNat : Int) := rfl
  rw [g, wrap_nat]; unfold U
  have h2 : (B (n : Int) &&& 63#64).toNat = (B (n : Int)).toNat % 64 := by
    rw [BitVec.toNat_and]; exact Nat.and_two_pow_sub_one_eq_mod _ 6
  have := toNat_B n
  omega
theorem ret_int {k : IntKind} {a b : Int} (h : a = b) : Ending.returned (.int k a) = .returned (.int k b) := by rw [h]
end Go.Proofs.Ythjcdloaclailaa
