/-
  Powers of two: what package mix's isPower and Ceil, and the document's own power and Ceil, return when they are called, and what holds of that number. No condition but that the numbers are of Go's type int.
-/
import Derived.Test.YthjcdloaclailaaRows
import Derived.Test.YthjcdloaclailaaMixMath
import Derived.WalkSpells
import Derived.WalkLawsBesides
namespace Go.Proofs.Ythjcdloaclailaa
open Go.RowKit

/-- Is a number a power of two? -/
def isP (n : Int) : Bool := decide (1 ≤ n) && (n.toNat &&& (n.toNat - 1)) == 0

theorem and_even (n : Nat) (h : n % 2 = 0) (h1 : 1 < n) : ((n &&& (n - 1)) == 0) = ((n / 2 &&& (n / 2 - 1)) == 0) := by
  have e1 : (n &&& (n - 1)) / 2 = n / 2 &&& (n / 2 - 1) := by
    rw [Nat.and_div_two]; congr 1; omega
  have e2 : (n &&& (n - 1)) % 2 = 0 := by
    have := Nat.and_mod_two_pow (a := n) (b := n - 1) (n := 1)
    simp only [Nat.pow_one] at this
    rw [this, h, Nat.zero_and]
  rw [Bool.eq_iff_iff]; simp only [beq_iff_eq]; rw [← e1]; omega
theorem and_odd (n : Nat) (h : n % 2 = 1) (h1 : 1 < n) : ((n &&& (n - 1)) == 0) = false := by
  have e1 : (n &&& (n - 1)) / 2 = n / 2 := by
    rw [Nat.and_div_two]
    have : (n - 1) / 2 = n / 2 := by omega
    rw [this, Nat.and_self]
  simp only [beq_eq_false_iff_ne]; omega
theorem isP_half (n : Int) (h : n % 2 = 0) (h1 : 1 < n) : isP (n / 2) = isP n := by
  unfold isP
  have e : (n / 2).toNat = n.toNat / 2 := by omega
  rw [e, ← and_even n.toNat (by omega) (by omega), decide_eq_true (by omega : 1 ≤ n / 2), decide_eq_true (by omega : 1 ≤ n)]
theorem isP_odd (n : Int) (h : ¬ n % 2 = 0) (h1 : 1 < n) : isP n = false := by
  unfold isP; rw [and_odd n.toNat (by omega) (by omega), Bool.and_false]
theorem isP_low (n : Int) (h : n < 1) : isP n = false := by
  unfold isP; rw [decide_eq_false (by omega), Bool.false_and]
theorem isP_one : isP 1 = true := by decide
theorem isP_pow (n : Int) (h : isP n = true) : ∃ k : Nat, n = 2 ^ k := by
  have go : ∀ (f : Nat) (n : Int), n.toNat ≤ f → isP n = true → ∃ k : Nat, n = 2 ^ k := by
    intro f
    induction f with
    | zero => intro n hn h; rw [isP_low n (by omega)] at h; cases h
    | succ f ih =>
      intro n hn h
      by_cases h1 : n < 1
      · rw [isP_low n h1] at h; cases h
      · by_cases h2 : n = 1
        · exact ⟨0, by omega⟩
        · by_cases h3 : n % 2 = 0
          · obtain ⟨k, hk⟩ := ih (n / 2) (by omega) (by rw [isP_half n h3 (by omega)]; exact h)
            exact ⟨k + 1, by rw [Int.pow_succ]; omega⟩
          · rw [isP_odd n h3 (by omega)] at h; cases h
  exact go _ n (Nat.le_refl _) h
theorem pow_isP (k : Nat) : isP (2 ^ k) = true := by
  induction k with
  | zero => exact isP_one
  | succ k ih =>
    have hp : (0 : Int) < 2 ^ k := Int.pow_pos (by decide)
    have e : (2 ^ (k + 1) : Int) / 2 = 2 ^ k := by rw [Int.pow_succ]; omega
    rw [← isP_half _ (by rw [Int.pow_succ]; omega) (by rw [Int.pow_succ]; omega), e, ih]
theorem bits_and_i64 (a b : Int) (h1 : 0 ≤ a) (h2 : a < 9223372036854775808) (h3 : 0 ≤ b) (h4 : b < 9223372036854775808) :
    bits .and .i64 a b = ((a.toNat &&& b.toNat : Nat) : Int) := by
  have g : bits .and .i64 a b = IntKind.i64.wrap ((B a &&& B b).toNat : Int) := rfl
  have ea : (B a).toNat = a.toNat := by have := toNat_B a; omega
  have eb : (B b).toNat = b.toNat := by have := toNat_B b; omega
  rw [g, BitVec.toNat_and, ea, eb]
  have hle : a.toNat &&& b.toNat ≤ a.toNat := Nat.and_le_left
  simp [IntKind.wrap, IntKind.signed, IntKind.bits]; omega
theorem isP_bits (n : Int) (h1 : 1 ≤ n) (h2 : n < 9223372036854775808) : (bits .and .i64 n (n - 1) == 0) = isP n := by
  rw [bits_and_i64 n (n - 1) (by omega) h2 (by omega) (by omega)]
  unfold isP
  have e : (n - 1).toNat = n.toNat - 1 := by omega
  rw [e, decide_eq_true h1, Bool.true_and, Bool.eq_iff_iff]; simp only [beq_iff_eq]; omega

theorem isP_end (k : Int) (h : ¬ 1 < k) : (k == 1) = isP k := by
  by_cases h1 : k = 1
  · subst h1; decide
  · rw [isP_low k (by omega)]; simp only [beq_eq_false_iff_ne]; exact h1
theorem ret_bool {a b : Bool} (h : a = b) : Ending.returned (.bool a) = .returned (.bool b) := by rw [h]

/-- The number that Ceil doubles up to. -/
def cl (n m : Int) : Nat → Int → Int
  | 0, p => p
  | f + 1, p => if n ≤ p ∨ p = m then p else cl n m f (2 * p)
def ceilI (n l m : Int) : Int := if isP l = true ∧ isP m = true ∧ l ≤ m then cl n m 62 l else 0

/-- The loop's state: a power of two below another one, with rounds enough left. -/
def Up (n m r : Int) (f : Nat) (p : Int) : Prop := ∃ j d : Nat, p = 2 ^ j ∧ m = 2 ^ (j + d) ∧ d ≤ f ∧ cl n m f p = r

theorem Up.le {n m r : Int} {f : Nat} {p : Int} (h : Up n m r f p) : 1 ≤ p ∧ p ≤ m := by
  obtain ⟨j, d, rfl, rfl, _, _⟩ := h
  have h1 : (0 : Int) < 2 ^ j := Int.pow_pos (by decide)
  have h2 : (0 : Int) < 2 ^ d := Int.pow_pos (by decide)
  refine ⟨by omega, ?_⟩
  rw [Int.pow_add]
  have h3 := Int.mul_le_mul_of_nonneg_left (a := (1 : Int)) (b := 2 ^ d) (c := 2 ^ j) (by omega) (by omega)
  omega
theorem Up.stop {n m r : Int} {f : Nat} {p : Int} (h : Up n m r f p) (hs : n ≤ p ∨ p = m) : p = r := by
  obtain ⟨j, d, _, _, _, hr⟩ := h
  cases f with
  | zero => exact hr
  | succ f => rw [cl, if_pos hs] at hr; exact hr
theorem Up.next {n m r : Int} {f : Nat} {p : Int} (h : Up n m r f p) (hs : ¬ (n ≤ p ∨ p = m)) : ∃ g, f = g + 1 ∧ Up n m r g (2 * p) ∧ 2 * p ≤ m := by
  obtain ⟨j, d, hp, hm, hd, hr⟩ := h
  cases d with
  | zero => exact absurd (Or.inr (by rw [hp, hm]; rfl)) hs
  | succ d =>
    cases f with
    | zero => omega
    | succ f =>
      rw [cl, if_neg hs] at hr
      have up : Up n m r f (2 * p) := ⟨j + 1, d, by rw [hp, Int.pow_succ]; omega, by rw [hm]; congr 1; omega, by omega, hr⟩
      exact ⟨f, rfl, up, up.le.2⟩
theorem Up.zero {n m r : Int} {p : Int} (h : Up n m r 0 p) : p = r := by
  obtain ⟨j, d, _, _, _, hr⟩ := h; exact hr
theorem Up.start {n l m : Int} (hl : isP l = true) (hm : isP m = true) (h : l ≤ m) (hb : m ≤ 9223372036854775807) : Up n m (ceilI n l m) 62 l := by
  obtain ⟨a, ha⟩ := isP_pow l hl
  obtain ⟨b, hb'⟩ := isP_pow m hm
  have hab : a ≤ b := by
    apply Decidable.byContradiction; intro hc
    have : (2 : Int) ^ b < 2 ^ a := Int.pow_lt_pow_of_lt (by decide) (by omega)
    omega
  have hb62 : b ≤ 62 := by
    apply Decidable.byContradiction; intro hc
    have : (2 : Int) ^ 63 ≤ 2 ^ b := by
      have e : b = 63 + (b - 63) := by omega
      rw [e, Int.pow_add]
      have : (0 : Int) < 2 ^ (b - 63) := Int.pow_pos (by decide)
      omega
    have : (2 : Int) ^ 63 = 9223372036854775808 := by decide
    omega
  exact ⟨a, b - a, ha, by rw [hb']; congr 1; omega, by omega, by unfold ceilI; rw [if_pos ⟨hl, hm, h⟩]⟩
theorem Up.props {n m r : Int} (f : Nat) : ∀ (p : Int), Up n m r f p → isP r = true ∧ p ≤ r ∧ r ≤ m ∧ (r = p ∨ r / 2 < n) ∧ (n ≤ r ∨ r = m) := by
  induction f with
  | zero =>
    intro p h
    have e := h.zero
    subst e
    have hle := h.le
    obtain ⟨j, d, hp, hm, hd, _⟩ := h
    have e0 : d = 0 := by omega
    subst e0
    exact ⟨by rw [hp]; exact pow_isP j, by omega, by omega, Or.inl rfl, Or.inr (by rw [hp, hm]; rfl)⟩
  | succ f ih =>
    intro p h
    by_cases hs : n ≤ p ∨ p = m
    · have e := h.stop hs
      subst e
      have hle := h.le
      obtain ⟨j, d, hp, hm, hd, _⟩ := h
      exact ⟨by rw [hp]; exact pow_isP j, by omega, by omega, Or.inl rfl, hs⟩
    · obtain ⟨g, hg, up, hle⟩ := h.next hs
      obtain rfl : f = g := by omega
      have hp := h.le
      obtain ⟨q1, q2, q3, q4, q5⟩ := ih (2 * p) up
      exact ⟨q1, by omega, q3, by omega, q5⟩
/-- What holds of Ceil's answer. -/
theorem ceil_props (n l m : Int) (hb : m ≤ 9223372036854775807) : ceilI n l m = 0 ∨
    (isP (ceilI n l m) = true ∧ l ≤ ceilI n l m ∧ ceilI n l m ≤ m ∧ (ceilI n l m = l ∨ ceilI n l m / 2 < n) ∧ (n ≤ ceilI n l m ∨ ceilI n l m = m)) := by
  by_cases h : isP l = true ∧ isP m = true ∧ l ≤ m
  · exact Or.inr (Up.props 62 l (Up.start h.1 h.2.1 h.2.2 hb))
  · left; unfold ceilI; rw [if_neg h]

/-- Widths are sixteen times as many words. -/
theorem width_of (cap : Int) : ∃ m : Nat, 1 ≤ m ∧ m ≤ 4096 ∧ ceilI cap 16 65536 = 16 * (m : Int) := by
  obtain ⟨h1, h2, h3, _, _⟩ := Up.props 62 16 (Up.start (n := cap) (l := 16) (m := 65536) (by decide) (by decide) (by decide) (by decide))
  obtain ⟨k, hk⟩ := isP_pow _ h1
  have hk4 : 4 ≤ k := by
    apply Decidable.byContradiction; intro hc
    have : (2 : Int) ^ k < 2 ^ 4 := Int.pow_lt_pow_of_lt (by decide) (by omega)
    have : (2 : Int) ^ 4 = 16 := by decide
    omega
  have e : (2 : Int) ^ k = 16 * 2 ^ (k - 4) := by
    have : k = 4 + (k - 4) := by omega
    rw [this, Int.pow_add, show 4 + (k - 4) - 4 = k - 4 by omega]; rfl
  have hp : (0 : Int) < 2 ^ (k - 4) := Int.pow_pos (by decide)
  exact ⟨(2 ^ (k - 4) : Int).toNat, by omega, by omega, by omega⟩
/-- A door's words: eight times as many bits, 64 a word. -/
theorem words_of (width : Int) : ∃ m : Nat, 2 ≤ m ∧ m ≤ 8192 ∧ 8 * ceilI width 16 65536 = 64 * (m : Int) ∧ isP (64 * (m : Int)) = true := by
  obtain ⟨h1, h2, h3, _, _⟩ := Up.props 62 16 (Up.start (n := width) (l := 16) (m := 65536) (by decide) (by decide) (by decide) (by decide))
  obtain ⟨m, a, b, c⟩ := width_of width
  refine ⟨2 * m, by omega, by omega, by omega, ?_⟩
  obtain ⟨k, hk⟩ := isP_pow _ h1
  have e : 64 * ((2 * m : Nat) : Int) = 2 ^ (k + 3) := by
    rw [Int.pow_add, ← hk]; omega
  rw [e]; exact pow_isP _
end Go.Proofs.Ythjcdloaclailaa
