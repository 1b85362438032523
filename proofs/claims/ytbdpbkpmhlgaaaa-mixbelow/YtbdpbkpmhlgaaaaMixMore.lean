/-
  Layer 1, more mathematics: the place of a word in a row whose size is a power of two, and that a turned word has as many bits as before. No condition.
-/
import Derived.Test.YtbdpbkpmhlgaaaaMixSmall
import Derived.Deep.Draws
namespace Go.Proofs.Ytbdpbkpmhlgaaaa
open Go.RowKit

theorem pow_bd (p : Nat) (hp : p ≤ 40) : (1 : Int) ≤ 2 ^ p ∧ (2 : Int) ^ p ≤ 1099511627776 := by
  have h1 : (0 : Int) < 2 ^ p := Int.pow_pos (by decide)
  have h2 : (2 : Nat) ^ p ≤ 2 ^ 40 := Nat.pow_le_pow_right (by decide) hp
  have h3 : ((2 ^ p : Nat) : Int) = 2 ^ p := by rw [Int.natCast_pow]; rfl
  have h4 : (2 : Nat) ^ 40 = 1099511627776 := by decide
  omega
theorem index_pow (x : BitVec 64) (r : Int) (h : (16 * r) % 64 = 0) (s : Int) (hs : 1 ≤ s) : indexI x r s = U x % s := by
  unfold indexI; rw [if_neg (by omega), turn_round x _ h]
/-- What MixBelow's tests come to: S the size, V the place. -/
theorem below_facts (x : BitVec 64) (p : Nat) (hp : p ≤ 40) : ∃ S V : Int, 1 ≤ S ∧ S ≤ 1099511627776 ∧ 0 ≤ V ∧ V < S ∧
    IntKind.i64.wrap ((2 : Int) ^ p) = S ∧ IntKind.u64.wrap ((2 : Int) ^ p) = S ∧ wrap64 ((2 : Int) ^ p) = S ∧ bits .and .u64 (U x) (S - 1) = V ∧ indexI x 0 S = V ∧ indexI x 4 S = V ∧ indexI x 0 1 = 0 := by
  have hb := pow_bd p hp
  have hw : wrap64 ((2 : Int) ^ p) = 2 ^ p := by unfold wrap64; omega
  refine ⟨2 ^ p, U x % 2 ^ p, hb.1, hb.2, Int.emod_nonneg _ (by omega), Int.emod_lt_of_pos _ (by omega), ?_, ?_, hw, ?_, index_pow x 0 (by decide) _ hb.1, index_pow x 4 (by decide) _ hb.1, ?_⟩
  · have e : IntKind.i64.wrap ((2 : Int) ^ p) = (2 : Int) ^ p := by
      simp [IntKind.wrap, IntKind.signed, IntKind.bits]; omega
    exact e
  · rw [IntKind.wrap_u64]; omega
  · rw [bits_and_U, B_U]
    unfold U
    rw [BitVec.toNat_and]
    have e : (B ((2 : Int) ^ p - 1)).toNat = 2 ^ p - 1 := by
      have h := toNat_B ((2 : Int) ^ p - 1)
      have h3 : ((2 ^ p : Nat) : Int) = 2 ^ p := by rw [Int.natCast_pow]; rfl
      omega
    rw [e, Nat.and_two_pow_sub_one_eq_mod, Int.natCast_emod, Int.natCast_pow]; rfl
  · rw [index_pow x 0 (by decide) 1 (by decide)]; omega

theorem grown_drewN (w : World) (n : Nat) : Grown w (w.drewN n) := Grown.refl w

/-- A word's bit, as a number. -/
def bt (x : BitVec 64) (k : Nat) : Int := if x.getLsbD k then 1 else 0
def cnt (f : Nat → Int) : Nat → Int
  | 0 => 0
  | k + 1 => cnt f k + f k
theorem bt_bd (x : BitVec 64) (k : Nat) : 0 ≤ bt x k ∧ bt x k ≤ 1 := by unfold bt; split <;> omega
theorem cnt_bd (x : BitVec 64) (k : Nat) : 0 ≤ cnt (bt x) k ∧ cnt (bt x) k ≤ k := by
  induction k with
  | zero => unfold cnt; omega
  | succ k ih => have := bt_bd x k; unfold cnt; omega
theorem cnt_congr (f g : Nat → Int) (k : Nat) (h : ∀ i, i < k → f i = g i) : cnt f k = cnt g k := by
  induction k with
  | zero => rfl
  | succ k ih => unfold cnt; rw [ih fun i hi => h i (by omega), h k (by omega)]
theorem cnt_split (f : Nat → Int) (a b : Nat) : cnt f (a + b) = cnt f a + cnt (fun i => f (a + i)) b := by
  induction b with
  | zero => simp [cnt]
  | succ b ih => rw [← Nat.add_assoc, cnt, ih, cnt]; omega
theorem cnt_rot (x : BitVec 64) (n : Nat) (hn : n < 64) : cnt (bt (rot x n)) 64 = cnt (bt x) 64 := by
  have e1 : (64 : Nat) = n + (64 - n) := by omega
  have e2 : (64 : Nat) = (64 - n) + n := by omega
  have g1 : cnt (bt (rot x n)) 64 = cnt (bt (rot x n)) n + cnt (fun i => bt (rot x n) (n + i)) (64 - n) := by rw [← cnt_split]; congr 1
  have g2 : cnt (bt x) 64 = cnt (bt x) (64 - n) + cnt (fun i => bt x (64 - n + i)) n := by rw [← cnt_split]; congr 1
  rw [g1, g2]
  have h1 : cnt (bt (rot x n)) n = cnt (fun i => bt x (64 - n + i)) n := cnt_congr _ _ _ fun i hi => by
    unfold bt; rw [rot_bit x n i hn (by omega), (by omega : (i + (64 - n)) % 64 = 64 - n + i)]
  have h2 : cnt (fun i => bt (rot x n) (n + i)) (64 - n) = cnt (bt x) (64 - n) := cnt_congr _ _ _ fun i hi => by
    show bt (rot x n) (n + i) = bt x i
    unfold bt; rw [rot_bit x n (n + i) hn (by omega), (by omega : (n + i + (64 - n)) % 64 = i)]
  rw [h1, h2]; omega
theorem bt_eq (x : BitVec 64) (k : Nat) : bits .and .u64 (U x / 2 ^ k) 1 = bt x k := by
  rw [U_shr, bits_and_U, B_U]
  have h : B 1 = 1#64 := rfl
  rw [h]; unfold U bt
  rw [BitVec.toNat_and, BitVec.toNat_ushiftRight]
  have e : (1#64).toNat = 1 := rfl
  rw [e, Nat.and_one_is_mod, Nat.shiftRight_eq_div_pow]
  have g : x.getLsbD k = decide (x.toNat / 2 ^ k % 2 = 1) := by
    rw [BitVec.getLsbD, Nat.testBit_eq_decide_div_mod_eq]
  rw [g]
  by_cases hb : x.toNat / 2 ^ k % 2 = 1
  · simp [hb]
  · have : x.toNat / 2 ^ k % 2 = 0 := by omega
    simp [this]
end Go.Proofs.Ytbdpbkpmhlgaaaa
