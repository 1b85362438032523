/-
  The plain mathematics of layer 2's counters: a word of 64 bits by its sixteen counters of four bits, one counter put, all of them packed, halves and sums. No condition: all is over bit vectors, integers and natural numbers.
-/
import Derived.Test.YtlmcopenbeammaaGrMix
import Derived.Test.YtlmcopenbeammaaRows
import Derived.WalkSpells
import Derived.WalkLawsBesides
import Derived.Deep.QuietTactic
import Derived.BigQuiet
import Derived.Deep.WholeRow
namespace Go.Proofs.Ytlmcopenbeammaa

/-- The counter i of a word. -/
def G (x : BitVec 64) (i : Nat) : Nat := x.toNat / 16 ^ i % 16
/-- The word with n in its counter i. -/
def putB (x : BitVec 64) (i n : Nat) : BitVec 64 := x &&& ~~~ (15#64 <<< (4 * i)) ||| BitVec.ofNat 64 n <<< (4 * i)

theorem G_lt (x : BitVec 64) (i : Nat) : G x i < 16 := Nat.mod_lt _ (by decide)
theorem pow16 (i : Nat) : 16 ^ i = 2 ^ (4 * i) := by rw [Nat.pow_mul]
theorem G_bit (x : BitVec 64) (i t : Nat) : (G x i).testBit t = (decide (t < 4) && x.getLsbD (4 * i + t)) := by
  unfold G
  rw [pow16, show 16 = 2 ^ 4 from rfl, Nat.testBit_mod_two_pow, Nat.testBit_div_two_pow, BitVec.getLsbD, Nat.add_comm]
theorem bit_G (x : BitVec 64) (j : Nat) : x.getLsbD j = (G x (j / 4)).testBit (j % 4) := by
  rw [G_bit, decide_eq_true (Nat.mod_lt _ (by decide)), Bool.true_and, Nat.div_add_mod]
/-- A word is told by its counters. -/
theorem G_ext {x y : BitVec 64} (h : ∀ i, i < 16 → G x i = G y i) : x = y := by
  apply BitVec.eq_of_getLsbD_eq
  intro j hj
  rw [bit_G, bit_G, h (j / 4) (by omega)]
theorem G_put (x : BitVec 64) (i n k : Nat) (hi : i < 16) (hn : n < 16) (hk : k < 16) : G (putB x i n) k = if k = i then n else G x k := by
  apply Nat.eq_of_testBit_eq
  intro t
  rw [G_bit]
  by_cases ht : t < 4
  · rw [decide_eq_true ht, Bool.true_and]
    unfold putB
    have e15 : (15#64).getLsbD (4 * k + t - 4 * i) = decide (4 * k + t - 4 * i < 4) := by
      rw [BitVec.getLsbD_ofNat]
      have : (15 : Nat) = 2 ^ 4 - 1 := rfl
      rw [this, Nat.testBit_two_pow_sub_one]
      by_cases h : 4 * k + t - 4 * i < 4
      · simp [h]; omega
      · simp [h]
    simp only [BitVec.getLsbD_or, BitVec.getLsbD_and, BitVec.getLsbD_not, BitVec.getLsbD_shiftLeft, e15, BitVec.getLsbD_ofNat]
    have hb : 4 * k + t < 64 := by omega
    by_cases hki : k = i
    · subst hki
      rw [if_pos rfl]
      have e : 4 * k + t - 4 * k = t := by omega
      have e0 : ¬ 4 * k + t < 4 * k := by omega
      have e1 : t < 64 := by omega
      simp [e, e0, e1, hb, ht]
    · rw [if_neg hki, G_bit]
      by_cases hl : k < i
      · have e0 : 4 * k + t < 4 * i := by omega
        simp [e0, hb, ht]
      · have e0 : ¬ 4 * k + t < 4 * i := by omega
        have e1 : ¬ 4 * k + t - 4 * i < 4 := by omega
        have e2 : n.testBit (4 * k + t - 4 * i) = false := by
          apply Nat.testBit_lt_two_pow
          exact Nat.lt_of_lt_of_le hn (by rw [show 16 = 2 ^ 4 from rfl]; exact Nat.pow_le_pow_right (by decide) (by omega))
        simp [e0, e1, e2, hb, ht]
  · rw [decide_eq_false ht, Bool.false_and]
    have h16 : (16 : Nat) ≤ 2 ^ t := by rw [show 16 = 2 ^ 4 from rfl]; exact Nat.pow_le_pow_right (by decide) (by omega)
    symm
    apply Nat.testBit_lt_two_pow
    split
    · omega
    · have := G_lt x k; omega

/-- Counters packed from the highest on. -/
def packN (l : Nat → Nat) : Nat → Nat
  | 0 => 0
  | m + 1 => packN l m * 16 + l (15 - m)
theorem packN_lt (l : Nat → Nat) (hl : ∀ i, i < 16 → l i < 16) (m : Nat) (hm : m ≤ 16) : packN l m < 16 ^ m := by
  induction m with
  | zero => exact Nat.zero_lt_one
  | succ m ih =>
    have := ih (by omega)
    have := hl (15 - m) (by omega)
    rw [packN, Nat.pow_succ]; omega
theorem packN_get (l : Nat → Nat) (hl : ∀ i, i < 16 → l i < 16) (m : Nat) (hm : m ≤ 16) : ∀ i, i < m → packN l m / 16 ^ i % 16 = l (16 - m + i) := by
  induction m with
  | zero => intro i h; omega
  | succ m ih =>
    intro i h
    have h0 := hl (15 - m) (by omega)
    rw [packN]
    cases i with
    | zero => rw [Nat.pow_zero, Nat.div_one, show 16 - (m + 1) + 0 = 15 - m by omega]; omega
    | succ i =>
      rw [Nat.pow_succ, Nat.mul_comm (16 ^ i) 16, ← Nat.div_div_eq_div_mul, show (packN l m * 16 + l (15 - m)) / 16 = packN l m by omega, ih (by omega) i (by omega)]
      congr 1; omega
/-- The word of sixteen counters. -/
def packB (l : Nat → Nat) : BitVec 64 := BitVec.ofNat 64 (packN l 16)
theorem pack_lt (l : Nat → Nat) (hl : ∀ i, i < 16 → l i < 16) : packN l 16 < 18446744073709551616 := packN_lt l hl 16 (by decide)
theorem U_pack (l : Nat → Nat) (hl : ∀ i, i < 16 → l i < 16) : U (packB l) = (packN l 16 : Int) := by
  have := pack_lt l hl
  unfold U packB; rw [BitVec.toNat_ofNat, Nat.mod_eq_of_lt this]
theorem G_pack (l : Nat → Nat) (hl : ∀ i, i < 16 → l i < 16) (i : Nat) (hi : i < 16) : G (packB l) i = l i := by
  have h := pack_lt l hl
  unfold G packB
  rw [BitVec.toNat_ofNat, Nat.mod_eq_of_lt h, packN_get l hl 16 (by decide) i hi]; congr 1; omega
theorem pack_eq (x : BitVec 64) (l : Nat → Nat) (h : ∀ i, i < 16 → l i = G x i) : packB l = x := by
  apply G_ext; intro i hi
  rw [G_pack l (fun i hi => by rw [h i hi]; exact G_lt x i) i hi, h i hi]

/-! ### the calls' answers, at whatever number -/
def inC (i : Int) : Bool := decide (0 ≤ i ∧ i < 16)
def getI (x : BitVec 64) (i : Int) : Int := if inC i = true then (G x i.toNat : Int) else 0
def clampI (n : Int) : Int := min (max n 0) 15
def setI (x : BitVec 64) (i n : Int) : BitVec 64 := if inC i = true then putB x i.toNat (clampI n).toNat else x
def incOk (x : BitVec 64) (i : Int) : Bool := inC i && decide (getI x i < 15)
def incI (x : BitVec 64) (i : Int) : BitVec 64 := if incOk x i = true then setI x i (getI x i + 1) else x

theorem inC_true {i : Int} (h : inC i = true) : 0 ≤ i ∧ i < 16 := by unfold inC at h; simpa using h
theorem inC_mk {i : Int} (h0 : 0 ≤ i) (h1 : i < 16) : inC i = true := by unfold inC; simp; omega
theorem inC_no {i : Int} (h : ¬ (0 ≤ i ∧ i < 16)) : inC i = false := by unfold inC; simpa using h
theorem inC_nat (k : Nat) (h : k < 16) : inC (k : Int) = true := inC_mk (by omega) (by omega)
theorem clamp_bd (n : Int) : 0 ≤ clampI n ∧ clampI n ≤ 15 := by unfold clampI; omega
theorem clamp_in (n : Int) (h0 : 0 ≤ n) (h1 : n ≤ 15) : clampI n = n := by unfold clampI; omega
theorem getI_bd (x : BitVec 64) (i : Int) : 0 ≤ getI x i ∧ getI x i ≤ 15 := by
  unfold getI; split
  · have := G_lt x i.toNat; omega
  · omega
theorem getI_nat (x : BitVec 64) (k : Nat) (h : k < 16) : getI x k = (G x k : Int) := by
  unfold getI; rw [if_pos (inC_nat k h)]; rfl
theorem getI_none (x : BitVec 64) (i : Int) (h : inC i = false) : getI x i = 0 := by unfold getI; rw [h]; rfl
theorem setI_none (x : BitVec 64) (i n : Int) (h : inC i = false) : setI x i n = x := by unfold setI; rw [h]; rfl
theorem getI_set (x : BitVec 64) (i n k : Int) (hk : inC k = true) : getI (setI x i n) k = if k = i then clampI n else getI x k := by
  have bk := inC_true hk
  have bn := clamp_bd n
  unfold getI setI
  rw [if_pos hk, if_pos hk]
  by_cases hi : inC i = true
  · have bi := inC_true hi
    rw [if_pos hi, G_put _ _ _ _ (by omega) (by omega) (by omega)]
    by_cases e : k = i
    · subst e; rw [if_pos rfl, if_pos rfl]; omega
    · rw [if_neg (by omega), if_neg e]
  · rw [if_neg hi, if_neg]
    intro e; subst e; exact hi hk
theorem word_ext {x y : BitVec 64} (h : ∀ i : Int, inC i = true → getI x i = getI y i) : x = y := by
  apply G_ext; intro i hi
  have := h i (inC_nat i hi)
  rw [getI_nat x i hi, getI_nat y i hi] at this
  omega
theorem set_get (x : BitVec 64) (i : Int) : setI x i (getI x i) = x := by
  apply word_ext; intro k hk
  rw [getI_set _ _ _ _ hk]
  split
  · rename_i e; rw [e]; have := getI_bd x i; exact clamp_in _ this.1 (by omega)
  · rfl
theorem set_set (x : BitVec 64) (i a b : Int) : setI (setI x i a) i b = setI x i b := by
  apply word_ext; intro k hk
  rw [getI_set _ _ _ _ hk, getI_set _ _ _ _ hk, getI_set _ _ _ _ hk]
  split <;> rfl

/-! ### sums and halves -/
def gI (x : BitVec 64) (j : Nat) : Int := (G x j : Int)
theorem gI_bd (x : BitVec 64) (j : Nat) : 0 ≤ gI x j ∧ gI x j ≤ 15 := by have := G_lt x j; unfold gI; omega
theorem gI_get (x : BitVec 64) (k : Nat) (h : k < 16) : getI x k = gI x k := getI_nat x k h
def sumF (f : Nat → Int) : Nat → Int
  | 0 => 0
  | k + 1 => sumF f k + f k
theorem sumF_congr {f g : Nat → Int} (k : Nat) (h : ∀ j, j < k → f j = g j) : sumF f k = sumF g k := by
  induction k with
  | zero => rfl
  | succ k ih => rw [sumF, sumF, ih (fun j hj => h j (by omega)), h k (by omega)]
theorem sumF_bd (f : Nat → Int) (c : Int) (k : Nat) (h : ∀ j, j < k → 0 ≤ f j ∧ f j ≤ c) : 0 ≤ sumF f k ∧ sumF f k ≤ c * k := by
  induction k with
  | zero => simp [sumF]
  | succ k ih =>
    have h1 := ih (fun j hj => h j (by omega))
    have h2 := h k (by omega)
    rw [sumF]
    have e : c * ((k + 1 : Nat) : Int) = c * k + c := by rw [Int.natCast_add, Int.mul_add]; simp
    omega
theorem sumF_lin (f g h : Nat → Int) (k : Nat) (e : ∀ j, j < k → 2 * f j = g j - h j) : 2 * sumF f k = sumF g k - sumF h k := by
  induction k with
  | zero => rfl
  | succ k ih =>
    have h1 := ih (fun j hj => e j (by omega))
    have h2 := e k (by omega)
    rw [sumF, sumF, sumF]; omega
/-- One place changed changes the sum by as much. -/
theorem sumF_one (f g : Nat → Int) (i : Nat) (d : Int) (k : Nat) (e : ∀ j, j < k → g j = if j = i then f j + d else f j) : sumF g k = sumF f k + if i < k then d else 0 := by
  induction k with
  | zero => simp [sumF]
  | succ k ih =>
    have h1 := ih (fun j hj => e j (by omega))
    have h2 := e k (by omega)
    rw [sumF, sumF, h1, h2]
    by_cases h : k = i
    · subst h; rw [if_pos rfl, if_neg (by omega), if_pos (by omega)]; omega
    · rw [if_neg h]
      by_cases hl : i < k
      · rw [if_pos hl, if_pos (by omega)]; omega
      · rw [if_neg hl, if_neg (by omega)]; omega
def sumI (x : BitVec 64) : Int := sumF (gI x) 16
def oddF (x : BitVec 64) (j : Nat) : Int := gI x j % 2
def oddI (x : BitVec 64) : Int := sumF (oddF x) 16
theorem sumK_bd (x : BitVec 64) (k : Nat) : 0 ≤ sumF (gI x) k ∧ sumF (gI x) k ≤ 15 * k := sumF_bd _ 15 k fun j _ => gI_bd x j
theorem oddK_bd (x : BitVec 64) (k : Nat) : 0 ≤ sumF (oddF x) k ∧ sumF (oddF x) k ≤ 1 * k := sumF_bd _ 1 k fun j _ => by unfold oddF; omega
theorem sumI_bd (x : BitVec 64) : 0 ≤ sumI x ∧ sumI x ≤ 240 := by have := sumK_bd x 16; unfold sumI; omega
theorem oddI_bd (x : BitVec 64) : 0 ≤ oddI x ∧ oddI x ≤ 16 := by have := oddK_bd x 16; unfold oddI; omega

/-- The first k counters halved. -/
def hvB (x : BitVec 64) : Nat → BitVec 64
  | 0 => x
  | k + 1 => setI (hvB x k) k (gI x k / 2)
def hK (x : BitVec 64) (k j : Nat) : Int := if j < k then gI x j / 2 else gI x j
theorem hv_get (x : BitVec 64) (k : Nat) (hk : k ≤ 16) (j : Nat) (hj : j < 16) : getI (hvB x k) j = hK x k j := by
  induction k with
  | zero => unfold hK; rw [if_neg (by omega)]; exact gI_get x j hj
  | succ k ih =>
    have b := gI_bd x k
    rw [hvB, getI_set _ _ _ _ (inC_nat j hj), ih (by omega)]
    unfold hK
    by_cases e : j = k
    · subst e; rw [if_pos rfl, if_pos (by omega), clamp_in _ (by omega) (by omega)]
    · rw [if_neg (by omega)]
      by_cases h : j < k
      · rw [if_pos h, if_pos (by omega)]
      · rw [if_neg h, if_neg (by omega)]
def halveB (x : BitVec 64) : BitVec 64 := hvB x 16
theorem halve_get (x : BitVec 64) (j : Nat) (hj : j < 16) : gI (halveB x) j = gI x j / 2 := by
  rw [← gI_get _ j hj]; unfold halveB; rw [hv_get x 16 (by omega) j hj]; unfold hK; rw [if_pos hj]
theorem gI_ext {x y : BitVec 64} (h : ∀ j, j < 16 → gI x j = gI y j) : x = y :=
  G_ext fun j hj => by have := h j hj; unfold gI at this; omega
theorem halve_sum (x : BitVec 64) : 2 * sumI (halveB x) = sumI x - oddI x := by
  unfold sumI oddI
  apply sumF_lin
  intro j hj
  rw [halve_get x j hj]; unfold oddF; omega
theorem halve4 (x : BitVec 64) : halveB (halveB (halveB (halveB x))) = 0#64 := by
  apply gI_ext; intro j hj
  rw [halve_get _ j hj, halve_get _ j hj, halve_get _ j hj, halve_get _ j hj]
  have e : gI 0#64 j = 0 := by unfold gI G; simp
  have := gI_bd x j
  rw [e]; omega
theorem set_sum (x : BitVec 64) (i : Int) (n : Int) (hi : inC i = true) (h0 : 0 ≤ n) (h1 : n ≤ 15) : sumI (setI x i n) = sumI x + (n - getI x i) := by
  have bi := inC_true hi
  obtain ⟨k, rfl⟩ : ∃ k : Nat, i = k := ⟨i.toNat, by omega⟩
  unfold sumI
  rw [sumF_one (gI x) _ k (n - getI x k) 16, if_pos (by omega)]
  intro j hj
  rw [← gI_get _ j hj, getI_set _ _ _ _ (inC_nat j hj)]
  by_cases e : j = k
  · subst e; rw [if_pos rfl, if_pos rfl, clamp_in n h0 h1, gI_get x j hj]; omega
  · rw [if_neg (by omega), if_neg e, gI_get x j hj]
theorem pack_set (x : BitVec 64) (i n : Int) (l : Nat → Nat) (h : ∀ j : Nat, j < 16 → (l j : Int) = if (j : Int) = i then clampI n else gI x j) : packB l = setI x i n := by
  have hb : ∀ j, j < 16 → l j < 16 := fun j hj => by
    have := h j hj; have c := clamp_bd n; have g := gI_bd x j
    split at this <;> omega
  apply gI_ext; intro j hj
  have e := h j hj
  rw [← gI_get (setI x i n) j hj, getI_set _ _ _ _ (inC_nat j hj), gI_get x j hj, ← e]
  unfold gI; rw [G_pack l hb j hj]
theorem pack_halve (x : BitVec 64) (l : Nat → Nat) (h : ∀ j, j < 16 → (l j : Int) = gI x j / 2) : packB l = halveB x := by
  have hb : ∀ j, j < 16 → l j < 16 := fun j hj => by have := h j hj; have g := gI_bd x j; omega
  apply gI_ext; intro j hj
  rw [halve_get x j hj, ← h j hj]
  unfold gI; rw [G_pack l hb j hj]
end Go.Proofs.Ytlmcopenbeammaa

/-
  What Get, Set and Inc of package nibble, and the document's own Get, do when they are called: they return what is told here and leave memory as it was. No condition but that the numbers are of their Go types.
-/
namespace Go.Proofs.Ytlmcopenbeammaa
open Go.RowKit

theorem ret_boolN {a b : Bool} (h : a = b) : Ending.returned (.bool a) = .returned (.bool b) := by rw [h]

theorem isCounter_any (i : Int) (w : World) :
    Calls Try.prog 100 #[.int .i64 i] w fun e w' => e = .returned (.bool (inC i)) ∧ w' = w := by
  go_enter Try.func100, Try.ntmps100
  go_wp2
  all_goals go_ret
  · exact ⟨ret_boolN (by unfold inC; rw [Bool.eq_iff_iff]; simp; omega), rfl⟩
  · exact ⟨ret_boolN (by rw [inC_no (by omega)]), rfl⟩

theorem lowBit_any (k : Nat) (w : World) (h : k < 16) :
    Calls Try.prog 101 #[.int .i64 k] w fun e w' => e = .returned (.int .i64 (4 * k : Nat)) ∧ w' = w := by
  go_enter Try.func101, Try.ntmps101
  go_wp2
  go_ret
  exact ⟨by go_num, rfl⟩

theorem and15 (x : BitVec 64) (k : Nat) (h : k < 16) : wrap64 (bits .and .u64 (U x / 2 ^ (4 * k)) 15) = getI x k := by
  rw [U_shr, bits_and_U, B_U, getI_nat x k h]
  have e : U (x >>> (4 * k) &&& B 15) = (G x k : Int) := by
    unfold U G
    rw [BitVec.toNat_and, show (B 15).toNat = 2 ^ 4 - 1 from rfl, Nat.and_two_pow_sub_one_eq_mod, BitVec.toNat_ushiftRight, Nat.shiftRight_eq_div_pow, pow16]
  rw [e]
  have := G_lt x k
  unfold wrap64; omega

theorem get_any (x : BitVec 64) (i : Int) (w : World) :
    Calls Try.prog 93 #[.int .u64 (U x), .int .i64 i] w fun e w' => e = .returned (.int .i64 (getI x i)) ∧ w' = w := by
  cases hc : inC i with
  | false =>
    rw [getI_none x i hc]
    go_enter Try.func93, Try.ntmps93
    go_wp2_with (go_at_call 100; refine (isCounter_any _ _).mono ?_; rintro e w' ⟨rfl, rfl⟩)
    go_ret
    exact ⟨rfl, rfl⟩
  | true =>
    obtain ⟨k, rfl⟩ : ∃ k : Nat, i = k := ⟨i.toNat, by have := inC_true hc; omega⟩
    have hk : k < 16 := by have := inC_true hc; omega
    have hx := U_nonneg x
    go_enter Try.func93, Try.ntmps93
    go_wp2_with (first | (go_at_call 100; refine (isCounter_any _ _).mono ?_; rintro e w' ⟨rfl, rfl⟩) | (go_at_call 101; refine (lowBit_any _ _ hk).mono ?_; rintro e w' ⟨rfl, rfl⟩))
    go_ret
    exact ⟨ret_int (and15 x k hk), rfl⟩

theorem bits_andNot_U (a b : Int) : bits .andNot .u64 a b = U (B a &&& ~~~ B b) := wrap_nat _
theorem put_bits (x : BitVec 64) (k : Nat) (n : Int) (h0 : 0 ≤ n) (h1 : n ≤ 15) :
    bits .or .u64 (bits .andNot .u64 (U x) (IntKind.u64.wrap (15 * 2 ^ (4 * k)))) (IntKind.u64.wrap (n * 2 ^ (4 * k))) = U (putB x k n.toNat) := by
  have e1 : IntKind.u64.wrap (15 * 2 ^ (4 * k)) = U (15#64 <<< (4 * k)) := U_shl 15#64 (4 * k)
  have e2 : IntKind.u64.wrap (n * 2 ^ (4 * k)) = U (BitVec.ofNat 64 n.toNat <<< (4 * k)) := by
    rw [← U_shl]; congr 2
    unfold U; rw [BitVec.toNat_ofNat, Nat.mod_eq_of_lt (by omega)]; omega
  rw [e1, e2, bits_or_U, bits_andNot_U, B_U, B_U, B_U, B_U]
  rfl
theorem put_zero (x : BitVec 64) (k : Nat) : bits .or .u64 (bits .andNot .u64 (U x) (IntKind.u64.wrap (15 * 2 ^ (4 * k)))) 0 = U (putB x k 0) := by
  have h := put_bits x k 0 (by decide) (by decide)
  rw [Int.zero_mul] at h
  exact h

theorem set_in (x : BitVec 64) (k : Nat) (n : Int) (w : World) (hk : k < 16) :
    Calls Try.prog 103 #[.int .u64 (U x), .int .i64 k, .int .i64 n] w fun e w' => e = .returned (.int .u64 (U (putB x k (clampI n).toNat))) ∧ ∃ m, w' = w.drewN m := by
  have hc := inC_nat k hk
  have hx := U_nonneg x
  have hn : n < 0 ∨ (0 ≤ n ∧ n ≤ 15) ∨ (0 ≤ n ∧ 15 < n) := by omega
  rcases hn with h | ⟨h, h'⟩ | ⟨h, h'⟩
  all_goals
    go_enter Try.func103, Try.ntmps103
    go_wp2_with (first | (go_at_call 100; refine (isCounter_any _ _).mono ?_; rintro e w' ⟨rfl, rfl⟩) | (go_at_call 101; refine (lowBit_any _ _ hk).mono ?_; rintro e w' ⟨rfl, rfl⟩))
    go_quiet (fail)
    go_wp2
    go_ret
  · exact ⟨ret_int (by rw [put_zero, show clampI n = 0 by unfold clampI; omega]; rfl), _, rfl⟩
  · exact ⟨ret_int (by rw [put_bits x k n h h', clamp_in n h h']), _, rfl⟩
  · exact ⟨ret_int (by rw [put_bits x k 15 (by decide) (by decide), show clampI n = 15 by unfold clampI; omega]), _, rfl⟩

theorem set_any (x : BitVec 64) (i n : Int) (w : World) :
    Calls Try.prog 103 #[.int .u64 (U x), .int .i64 i, .int .i64 n] w fun e w' => e = .returned (.int .u64 (U (setI x i n))) ∧ ∃ m, w' = w.drewN m := by
  cases hc : inC i with
  | false =>
    rw [setI_none x i n hc]
    go_enter Try.func103, Try.ntmps103
    go_wp2_with (go_at_call 100; refine (isCounter_any _ _).mono ?_; rintro e w' ⟨rfl, rfl⟩)
    go_ret
    exact ⟨rfl, 0, rfl⟩
  | true =>
    obtain ⟨k, rfl⟩ : ∃ k : Nat, i = k := ⟨i.toNat, by have := inC_true hc; omega⟩
    have hk : k < 16 := by have := inC_true hc; omega
    have e : setI x k n = putB x k (clampI n).toNat := by unfold setI; rw [if_pos hc]; rfl
    rw [e]
    exact set_in x k n w hk

theorem inc_any (x : BitVec 64) (i : Int) (w : World) :
    Calls Try.prog 97 #[.int .u64 (U x), .int .i64 i] w fun e w' => e = .returned (.tuple #[.int .u64 (U (incI x i)), .bool (incOk x i)]) ∧ ∃ m, w' = w.drewN m := by
  have hb := getI_bd x i
  cases hc : inC i with
  | false =>
    have h1 : incOk x i = false := by unfold incOk; rw [hc]; rfl
    have h2 : incI x i = x := by unfold incI; rw [h1]; rfl
    rw [h1, h2]; clear h1 h2
    go_enter Try.func97, Try.ntmps97
    go_wp2_with (first | (go_at_call 100; refine (isCounter_any _ _).mono ?_; rintro e w' ⟨rfl, rfl⟩) | (go_at_call 93; refine (get_any _ _ _).mono ?_; rintro e w' ⟨rfl, rfl⟩))
    go_ret2
    exact ⟨rfl, 0, rfl⟩
  | true =>
    by_cases hl : getI x i < 15
    · have h1 : incOk x i = true := by unfold incOk; rw [hc, decide_eq_true hl]; rfl
      have h2 : incI x i = setI x i (getI x i + 1) := by unfold incI; rw [h1]; rfl
      rw [h1, h2]; clear h1 h2
      go_enter Try.func97, Try.ntmps97
      go_wp2_with (first | (go_at_call 100; refine (isCounter_any _ _).mono ?_; rintro e w' ⟨rfl, rfl⟩) | (go_at_call 93; refine (get_any _ _ _).mono ?_; rintro e w' ⟨rfl, rfl⟩) | (go_at_call 103; refine (set_any _ _ _ _).mono ?_; rintro e w' ⟨rfl, m, rfl⟩))
      go_ret2
      exact ⟨rfl, _, rfl⟩
    · have h1 : incOk x i = false := by unfold incOk; rw [hc, decide_eq_false hl]; rfl
      have h2 : incI x i = x := by unfold incI; rw [h1]; rfl
      rw [h1, h2]; clear h1 h2
      go_enter Try.func97, Try.ntmps97
      go_wp2_with (first | (go_at_call 100; refine (isCounter_any _ _).mono ?_; rintro e w' ⟨rfl, rfl⟩) | (go_at_call 93; refine (get_any _ _ _).mono ?_; rintro e w' ⟨rfl, rfl⟩))
      go_ret2
      exact ⟨rfl, 0, rfl⟩

theorem U_div16 (x : BitVec 64) (k : Nat) : U x / 16 ^ k = ((x.toNat / 16 ^ k : Nat) : Int) := by
  unfold U; rw [Int.natCast_ediv, Int.natCast_pow]; rfl
theorem G_step (x : BitVec 64) (k : Nat) : U x / 16 ^ k / 16 = U x / 16 ^ (k + 1) := by
  rw [U_div16, U_div16, Nat.pow_succ, ← Nat.div_div_eq_div_mul]; omega
theorem G_end (x : BitVec 64) (k : Nat) : U x / 16 ^ k % 16 = (G x k : Int) := by
  rw [U_div16]; unfold G; omega
theorem U_div_bd (x : BitVec 64) (k : Nat) : 0 ≤ U x / 16 ^ k ∧ U x / 16 ^ k < 18446744073709551616 := by
  have h0 := U_nonneg x
  have h1 := U_lt x
  have hp : (0 : Int) < 16 ^ k := Int.pow_pos (by decide)
  exact ⟨Int.ediv_nonneg h0 (by omega), Int.lt_of_le_of_lt (Int.ediv_le_self _ h0) h1⟩
end Go.Proofs.Ytlmcopenbeammaa

/-
  What All, Halve, Sum and Odd of package nibble, and the document's own answers, do when they are called. No condition but that the numbers are of their Go types.
-/
namespace Go.Proofs.Ytlmcopenbeammaa
open Go.RowKit

/-- Sixteen numbers, as an array's cells. -/
def row (f : Nat → Int) : Array Value := #[.int .i64 (f 0), .int .i64 (f 1), .int .i64 (f 2), .int .i64 (f 3), .int .i64 (f 4), .int .i64 (f 5), .int .i64 (f 6), .int .i64 (f 7), .int .i64 (f 8), .int .i64 (f 9), .int .i64 (f 10), .int .i64 (f 11), .int .i64 (f 12), .int .i64 (f 13), .int .i64 (f 14), .int .i64 (f 15)]
theorem row_size (f : Nat → Int) : (row f).size = 16 := rfl
theorem row_get (f : Nat → Int) (k : Nat) (h : k < 16) : (row f)[k]? = some (.int .i64 (f k)) := by
  have hk : k = 0 ∨ k = 1 ∨ k = 2 ∨ k = 3 ∨ k = 4 ∨ k = 5 ∨ k = 6 ∨ k = 7 ∨ k = 8 ∨ k = 9 ∨ k = 10 ∨ k = 11 ∨ k = 12 ∨ k = 13 ∨ k = 14 ∨ k = 15 := by omega
  rcases hk with rfl | rfl | rfl | rfl | rfl | rfl | rfl | rfl | rfl | rfl | rfl | rfl | rfl | rfl | rfl | rfl <;> rfl
theorem row_congr {f g : Nat → Int} (h : ∀ k, k < 16 → f k = g k) : row f = row g := by
  unfold row
  rw [h 0 (by decide), h 1 (by decide), h 2 (by decide), h 3 (by decide), h 4 (by decide), h 5 (by decide), h 6 (by decide), h 7 (by decide), h 8 (by decide), h 9 (by decide), h 10 (by decide), h 11 (by decide), h 12 (by decide), h 13 (by decide), h 14 (by decide), h 15 (by decide)]
theorem row_set (f g : Nat → Int) (k : Nat) (n : Int) (hk : k < 16) (h : ∀ j, j < 16 → g j = if j = k then n else f j) : (row f).setIfInBounds k (.int .i64 n) = row g := by
  apply Array.ext_getElem?
  intro j
  rw [Array.getElem?_setIfInBounds]
  by_cases hj : j < 16
  · rw [row_get g j hj, h j hj]
    by_cases e : k = j
    · subst e; rw [if_pos rfl, if_pos (by rw [row_size]; exact hj), if_pos rfl]
    · rw [if_neg e, row_get f j hj, if_neg (by omega)]
  · have e1 : (row g)[j]? = none := Array.getElem?_eq_none (by rw [row_size]; omega)
    have e2 : (row f)[j]? = none := Array.getElem?_eq_none (by rw [row_size]; omega)
    rw [if_neg (by omega), e1, e2]
/-- The first k counters, and zeros. -/
def gK (x : BitVec 64) (k j : Nat) : Int := if j < k then gI x j else 0

theorem gK_step (x : BitVec 64) (k : Nat) (hk : k < 16) (j : Nat) (_hj : j < 16) : gK x (k + 1) j = if j = k then getI x k else gK x k j := by
  unfold gK gI; rw [getI_nat x k hk]
  by_cases e : j = k
  · subst e; rw [if_pos (by omega), if_pos rfl]
  · rw [if_neg e]; by_cases h : j < k
    · rw [if_pos (by omega), if_pos h]
    · rw [if_neg (by omega), if_neg h]
theorem gK_full (x : BitVec 64) : row (gK x 16) = row (gI x) := row_congr fun j hj => by unfold gK; rw [if_pos hj]

theorem infoRow (f : Nat → Int) : (Try.prog.info? 133).map (·.size) = some (row f).size := by rw [row_size]; kernel_rfl
theorem rowOne (f : Nat → Int) : (row f).all (·.oneCell') = true := by kernel_rfl
theorem all_any (x : BitVec 64) (w : World) :
    Calls Try.prog 104 #[.int .u64 (U x)] w fun e w' => e = .returned (.agg (row (gI x))) ∧ w' = (w.alloc (.cells (row (gI x)) 133)).alloc (.cells (row (gI x)) 133) := by
  go_enter Try.func104, Try.ntmps104
  go_wp2
  go_loopw [5] (fun i wr => ∃ k : Nat, k ≤ 16 ∧ i = .int .i64 k ∧ wr = (w.alloc (.cells (row (gK x 0)) 133)).alloc (.cells (row (gK x k)) 133)) (fun i _ => 16 - (intOf i).toNat)
  case atStart => exact ⟨0, by omega, rfl, rfl⟩
  case round =>
    obtain ⟨k, hk, rfl, rfl⟩ := hrel
    by_cases hlt : k < 16
    · have hg := row_get (gK x k) k hlt
      have hs := row_set (gK x k) (gK x (k + 1)) k (getI x k) hlt (gK_step x k hlt)
      go_wp2_with (go_at_call 93; refine (get_any _ _ _).mono ?_; rintro e w' ⟨rfl, hw⟩; have hw := hw.symm; subst hw)
      go_roundw
      case rel => exact ⟨k + 1, by omega, by go_num, rfl⟩
      case measure => simp [intOf]; omega
    · obtain rfl : k = 16 := by omega
      rw [gK_full x]
      go_wp2_with (first | (refine wpList_load_row rfl 133 _ rfl (w.heap.size + 1) rfl 133 _ (0, 0) _ (heap2_new _ _ _) Try.underlying133 rfl (infoRow _) ?_) | (refine wpList_store_row rfl 133 _ _ rfl w.heap.size _ rfl rfl 133 _ (heap2_old _ _ _) (infoRow _) rfl (rowOne _) ?_; rw [setRow_alloc2]))
      exact bodyPost_ret (v := .agg (row (gI x))) (results_cell_row Try.results104 _ _ w.heap.size 133 _ (0, 0) _ rfl (heap2_old _ _ _) Try.underlying133 rfl (infoRow _)) rfl ⟨rfl, rfl⟩

end Go.Proofs.Ytlmcopenbeammaa

/-
  What Sum, Odd and Halve of package nibble, and the document's own answers, do when they are called: they return what is told here; memory has at most new blocks. No condition but that the numbers are of their Go types.
-/
namespace Go.Proofs.Ytlmcopenbeammaa
open Go.RowKit

theorem all_grown (x : BitVec 64) (w : World) :
    Calls Try.prog 104 #[.int .u64 (U x)] w fun e w' => e = .returned (.agg (row (gI x))) ∧ Grown w w' :=
  (all_any x w).mono fun _ _ ⟨he, hw⟩ => ⟨he, by rw [hw]; exact ((Grown.refl _).alloc _ _).alloc _ _⟩
theorem halve_any (x : BitVec 64) (w : World) :
    Calls Try.prog 98 #[.int .u64 (U x)] w fun e w' => e = .returned (.int .u64 (U (halveB x))) ∧ Grown w w' := by
  go_enter Try.func98, Try.ntmps98
  go_wp2_with (first | (go_at_call 104; refine (all_grown _ _).mono ?_; rintro e w1 ⟨rfl, hg1⟩) | (refine wpList_store_row rfl 133 _ _ rfl w1.heap.size _ rfl rfl 133 _ (heap_alloc_last _ _) (infoRow _) rfl (rowOne _) ?_; rw [World.setRow_alloc_new]))
  go_loopw [0, 7] (fun s i wr => ∃ k m : Nat, k ≤ 16 ∧ i = .int .i64 k ∧ s = .int .u64 (U (hvB x k)) ∧ wr = (w1.alloc (.cells (row (gI x)) 133)).drewN m) (fun _ i _ => 16 - (intOf i).toNat)
  case atStart => exact ⟨0, 0, by omega, rfl, rfl, rfl⟩
  case round =>
    obtain ⟨k, m, hk, rfl, rfl, rfl⟩ := hrel
    have hv := gI_bd x k
    by_cases hlt : k < 16
    · have hg := row_get (gI x) k hlt
      go_wp2_with (go_at_call 103; refine (set_any _ _ _ _).mono ?_; rintro e w' ⟨rfl, m', hw⟩; have hw := hw.symm; subst hw)
      go_roundw
      case rel => exact ⟨k + 1, m + m', by omega, by go_num, rfl, by simp⟩
      case measure => simp [intOf]; omega
    · obtain rfl : k = 16 := by omega
      go_wp2
      go_ret
      exact ⟨rfl, grownDrewN (hg1.alloc _ _) _⟩

theorem pack_step (l : Nat → Nat) (j : Nat) (hj : j < 16) : (packN l (15 - j) : Int) * 16 + (l j : Int) = (packN l (16 - j) : Int) := by
  have e : 16 - j = (15 - j) + 1 := by omega
  rw [e, packN, show 15 - (15 - j) = j by omega]; push_cast; rfl
theorem pack_bd (l : Nat → Nat) (hl : ∀ i, i < 16 → l i < 16) (j : Nat) : (packN l (15 - j) : Int) < 1152921504606846976 := by
  have h := packN_lt l hl (15 - j) (by omega)
  have h2 : 16 ^ (15 - j) ≤ 16 ^ 15 := Nat.pow_le_pow_right (by decide) (by omega)
  have h3 : (16 : Nat) ^ 15 = 1152921504606846976 := by decide
  omega
theorem hK_step (x : BitVec 64) (k j : Nat) : hK x (k + 1) j = if j = k then gI x k / 2 else hK x k j := by
  unfold hK
  by_cases e : j = k
  · subst e; rw [if_pos (by omega), if_pos rfl]
  · rw [if_neg e]
    by_cases h : j < k
    · rw [if_pos h, if_pos (by omega)]
    · rw [if_neg h, if_neg (by omega)]
theorem hK_here (x : BitVec 64) (k : Nat) : hK x k k = gI x k := by unfold hK; rw [if_neg (by omega)]

end Go.Proofs.Ytlmcopenbeammaa
