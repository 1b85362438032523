/-
  Powers of two: what package mix's isPower and Ceil, and the document's own power and Ceil, return when they are called, and what holds of that number. No condition but that the numbers are of Go's type int.
-/
import Derived.Test.YtigmjgmkeoineaaDoorRows
import Derived.Test.YtigmjgmkeoineaaDoorMixMath
import Derived.WalkSpells
import Derived.WalkLawsBesides
namespace Go.Proofs.YtigmjgmkeoineaaDoor
open Go.RowKit

/-- Is a number a power of two? -/
def isP (n : Int) : Bool := decide (1 ≤ n) && (n.toNat &&& (n.toNat - 1)) == 0

theorem and_even (n : Nat) (h : n % 2 = 0) (h1 : 1 < n) : ((n &&& (n - 1)) == 0) = ((n / 2 &&& (n / 2 - 1)) == 0) := by
  have e1 : (n &&& (n - 1)) / 2 = n / 2 &&& (n / 2 - 1) := by
    rw [Nat.and_div_two]; congr 1; omega
  have e2 : (n &&& (n - 1)) % 2 = 0 := by
    have := Nat.and_mod_two_pow (a := n) (b := n - 1) (n := 1)
    simp only [Nat.pow_one] at this
    rw [this, h, Nat.zero_and]
  rw [Bool.eq_iff_iff]; simp only [beq_iff_eq]; rw [← e1]; omega
theorem and_odd (n : Nat) (h : n % 2 = 1) (h1 : 1 < n) : ((n &&& (n - 1)) == 0) = false := by
  have e1 : (n &&& (n - 1)) / 2 = n / 2 := by
    rw [Nat.and_div_two]
    have : (n - 1) / 2 = n / 2 := by omega
    rw [this, Nat.and_self]
  simp only [beq_eq_false_iff_ne]; omega
theorem isP_half (n : Int) (h : n % 2 = 0) (h1 : 1 < n) : isP (n / 2) = isP n := by
  unfold isP
  have e : (n / 2).toNat = n.toNat / 2 := by omega
  rw [e, ← and_even n.toNat (by omega) (by omega), decide_eq_true (by omega : 1 ≤ n / 2), decide_eq_true (by omega : 1 ≤ n)]
theorem isP_odd (n : Int) (h : ¬ n % 2 = 0) (h1 : 1 < n) : isP n = false := by
  unfold isP; rw [and_odd n.toNat (by omega) (by omega), Bool.and_false]
theorem isP_low (n : Int) (h : n < 1) : isP n = false := by
  unfold isP; rw [decide_eq_false (by omega), Bool.false_and]
theorem isP_one : isP 1 = true := by decide
theorem isP_pow (n : Int) (h : isP n = true) : ∃ k : Nat, n = 2 ^ k := by
  have go : ∀ (f : Nat) (n : Int), n.toNat ≤ f → isP n = true → ∃ k : Nat, n = 2 ^ k := by
    intro f
    induction f with
    | zero => intro n hn h; rw [isP_low n (by omega)] at h; cases h
    | succ f ih =>
      intro n hn h
      by_cases h1 : n < 1
      · rw [isP_low n h1] at h; cases h
      · by_cases h2 : n = 1
        · exact ⟨0, by omega⟩
        · by_cases h3 : n % 2 = 0
          · obtain ⟨k, hk⟩ := ih (n / 2) (by omega) (by rw [isP_half n h3 (by omega)]; exact h)
            exact ⟨k + 1, by rw [Int.pow_succ]; omega⟩
          · rw [isP_odd n h3 (by omega)] at h; cases h
  exact go _ n (Nat.le_refl _) h
theorem pow_isP (k : Nat) : isP (2 ^ k) = true := by
  induction k with
  | zero => exact isP_one
  | succ k ih =>
    have hp : (0 : Int) < 2 ^ k := Int.pow_pos (by decide)
    have e : (2 ^ (k + 1) : Int) / 2 = 2 ^ k := by rw [Int.pow_succ]; omega
    rw [← isP_half _ (by rw [Int.pow_succ]; omega) (by rw [Int.pow_succ]; omega), e, ih]
theorem bits_and_i64 (a b : Int) (h1 : 0 ≤ a) (h2 : a < 9223372036854775808) (h3 : 0 ≤ b) (h4 : b < 9223372036854775808) :
    bits .and .i64 a b = ((a.toNat &&& b.toNat : Nat) : Int) := by
  have g : bits .and .i64 a b = IntKind.i64.wrap ((B a &&& B b).toNat : Int) := rfl
  have ea : (B a).toNat = a.toNat := by have := toNat_B a; omega
  have eb : (B b).toNat = b.toNat := by have := toNat_B b; omega
  rw [g, BitVec.toNat_and, ea, eb]
  have hle : a.toNat &&& b.toNat ≤ a.toNat := Nat.and_le_left
  simp [IntKind.wrap, IntKind.signed, IntKind.bits]; omega
theorem isP_bits (n : Int) (h1 : 1 ≤ n) (h2 : n < 9223372036854775808) : (bits .and .i64 n (n - 1) == 0) = isP n := by
  rw [bits_and_i64 n (n - 1) (by omega) h2 (by omega) (by omega)]
  unfold isP
  have e : (n - 1).toNat = n.toNat - 1 := by omega
  rw [e, decide_eq_true h1, Bool.true_and, Bool.eq_iff_iff]; simp only [beq_iff_eq]; omega

theorem isP_end (k : Int) (h : ¬ 1 < k) : (k == 1) = isP k := by
  by_cases h1 : k = 1
  · subst h1; decide
  · rw [isP_low k (by omega)]; simp only [beq_eq_false_iff_ne]; exact h1
theorem ret_bool {a b : Bool} (h : a = b) : Ending.returned (.bool a) = .returned (.bool b) := by rw [h]

/-- The number that Ceil doubles up to. -/
def cl (n m : Int) : Nat → Int → Int
  | 0, p => p
  | f + 1, p => if n ≤ p ∨ p = m then p else cl n m f (2 * p)
def ceilI (n l m : Int) : Int := if isP l = true ∧ isP m = true ∧ l ≤ m then cl n m 62 l else 0

/-- The loop's state: a power of two below another one, with rounds enough left. -/
def Up (n m r : Int) (f : Nat) (p : Int) : Prop := ∃ j d : Nat, p = 2 ^ j ∧ m = 2 ^ (j + d) ∧ d ≤ f ∧ cl n m f p = r

theorem Up.le {n m r : Int} {f : Nat} {p : Int} (h : Up n m r f p) : 1 ≤ p ∧ p ≤ m := by
  obtain ⟨j, d, rfl, rfl, _, _⟩ := h
  have h1 : (0 : Int) < 2 ^ j := Int.pow_pos (by decide)
  have h2 : (0 : Int) < 2 ^ d := Int.pow_pos (by decide)
  refine ⟨by omega, ?_⟩
  rw [Int.pow_add]
  have h3 := Int.mul_le_mul_of_nonneg_left (a := (1 : Int)) (b := 2 ^ d) (c := 2 ^ j) (by omega) (by omega)
  omega
theorem Up.stop {n m r : Int} {f : Nat} {p : Int} (h : Up n m r f p) (hs : n ≤ p ∨ p = m) : p = r := by
  obtain ⟨j, d, _, _, _, hr⟩ := h
  cases f with
  | zero => exact hr
  | succ f => rw [cl, if_pos hs] at hr; exact hr
theorem Up.next {n m r : Int} {f : Nat} {p : Int} (h : Up n m r f p) (hs : ¬ (n ≤ p ∨ p = m)) : ∃ g, f = g + 1 ∧ Up n m r g (2 * p) ∧ 2 * p ≤ m := by
  obtain ⟨j, d, hp, hm, hd, hr⟩ := h
  cases d with
  | zero => exact absurd (Or.inr (by rw [hp, hm]; rfl)) hs
  | succ d =>
    cases f with
    | zero => omega
    | succ f =>
      rw [cl, if_neg hs] at hr
      have up : Up n m r f (2 * p) := ⟨j + 1, d, by rw [hp, Int.pow_succ]; omega, by rw [hm]; congr 1; omega, by omega, hr⟩
      exact ⟨f, rfl, up, up.le.2⟩
theorem Up.zero {n m r : Int} {p : Int} (h : Up n m r 0 p) : p = r := by
  obtain ⟨j, d, _, _, _, hr⟩ := h; exact hr
theorem Up.start {n l m : Int} (hl : isP l = true) (hm : isP m = true) (h : l ≤ m) (hb : m ≤ 9223372036854775807) : Up n m (ceilI n l m) 62 l := by
  obtain ⟨a, ha⟩ := isP_pow l hl
  obtain ⟨b, hb'⟩ := isP_pow m hm
  have hab : a ≤ b := by
    apply Decidable.byContradiction; intro hc
    have : (2 : Int) ^ b < 2 ^ a := Int.pow_lt_pow_of_lt (by decide) (by omega)
    omega
  have hb62 : b ≤ 62 := by
    apply Decidable.byContradiction; intro hc
    have : (2 : Int) ^ 63 ≤ 2 ^ b := by
      have e : b = 63 + (b - 63) := by omega
      rw [e, Int.pow_add]
      have : (0 : Int) < 2 ^ (b - 63) := Int.pow_pos (by decide)
      omega
    have : (2 : Int) ^ 63 = 9223372036854775808 := by decide
    omega
  exact ⟨a, b - a, ha, by rw [hb']; congr 1; omega, by omega, by unfold ceilI; rw [if_pos ⟨hl, hm, h⟩]⟩
theorem Up.props {n m r : Int} (f : Nat) : ∀ (p : Int), Up n m r f p → isP r = true ∧ p ≤ r ∧ r ≤ m ∧ (r = p ∨ r / 2 < n) ∧ (n ≤ r ∨ r = m) := by
  induction f with
  | zero =>
    intro p h
    have e := h.zero
    subst e
    have hle := h.le
    obtain ⟨j, d, hp, hm, hd, _⟩ := h
    have e0 : d = 0 := by omega
    subst e0
    exact ⟨by rw [hp]; exact pow_isP j, by omega, by omega, Or.inl rfl, Or.inr (by rw [hp, hm]; rfl)⟩
  | succ f ih =>
    intro p h
    by_cases hs : n ≤ p ∨ p = m
    · have e := h.stop hs
      subst e
      have hle := h.le
      obtain ⟨j, d, hp, hm, hd, _⟩ := h
      exact ⟨by rw [hp]; exact pow_isP j, by omega, by omega, Or.inl rfl, hs⟩
    · obtain ⟨g, hg, up, hle⟩ := h.next hs
      obtain rfl : f = g := by omega
      have hp := h.le
      obtain ⟨q1, q2, q3, q4, q5⟩ := ih (2 * p) up
      exact ⟨q1, by omega, q3, by omega, q5⟩
/-- What holds of Ceil's answer. -/
theorem ceil_props (n l m : Int) (hb : m ≤ 9223372036854775807) : ceilI n l m = 0 ∨
    (isP (ceilI n l m) = true ∧ l ≤ ceilI n l m ∧ ceilI n l m ≤ m ∧ (ceilI n l m = l ∨ ceilI n l m / 2 < n) ∧ (n ≤ ceilI n l m ∨ ceilI n l m = m)) := by
  by_cases h : isP l = true ∧ isP m = true ∧ l ≤ m
  · exact Or.inr (Up.props 62 l (Up.start h.1 h.2.1 h.2.2 hb))
  · left; unfold ceilI; rw [if_neg h]

theorem isPower_any (n : Int) (w : World) (h : n ≤ 9223372036854775807) :
    Calls Tryd.prog 31 #[.int .i64 n] w fun e w' => e = .returned (.bool (isP n)) ∧ w' = w := by
  by_cases h1 : 1 ≤ n
  · have hb := isP_bits n h1 (by omega)
    go_enter Tryd.func31, Tryd.ntmps31
    go_wp2
    go_ret
    exact ⟨rfl, rfl⟩
  · rw [isP_low n (by omega)]
    go_enter Tryd.func31, Tryd.ntmps31
    go_wp2
    go_ret
    exact ⟨rfl, rfl⟩

theorem power_any (n : Int) (w : World) (h : n ≤ 9223372036854775807) (h' : -9223372036854775808 ≤ n) :
    Calls Tryd.prog 32 #[.int .i64 n] w fun e w' => e = .returned (.bool (isP n)) ∧ w' = w := by
  go_enter Tryd.func32, Tryd.ntmps32
  go_wp2
  go_loop [0] (fun t => ∃ k : Int, k ≤ 9223372036854775807 ∧ -9223372036854775808 ≤ k ∧ isP k = isP n ∧ t = .int .i64 k) (fun t => (intOf t).toNat)
  case atStart => exact ⟨n, h, h', rfl, rfl⟩
  case round =>
    obtain ⟨k, hk, hk', hp, rfl⟩ := hrel
    have HP : Hid (isP k = isP n) := hp
    clear hp
    by_cases h1 : 1 < k
    · by_cases h2 : k % 2 = 0
      · go_wp2
        go_round
        case rel => exact ⟨k / 2, by omega, by omega, by rw [isP_half k h2 h1]; exact HP.out, rfl⟩
        case measure => simp [intOf]; omega
      · go_wp2
        go_ret
        exact ⟨ret_bool (by rw [← HP.out, isP_odd k h2 h1]; first | rfl | (simp only [beq_eq_false_iff_ne]; omega)), rfl⟩
    · go_wp2
      go_ret
      exact ⟨ret_bool (by rw [← HP.out]; exact isP_end k (by omega)), rfl⟩

theorem ceil_any (n l m : Int) (w : World) (hl : l ≤ 9223372036854775807) (hm : m ≤ 9223372036854775807) :
    Calls Tryd.prog 27 #[.int .i64 n, .int .i64 l, .int .i64 m] w fun e w' => e = .returned (.int .i64 (ceilI n l m)) ∧ w' = w := by
  by_cases h : isP l = true ∧ isP m = true ∧ l ≤ m
  · obtain ⟨p1, p2, p3⟩ := h
    have up : Up n m (ceilI n l m) 62 l := Up.start p1 p2 p3 hm
    go_enter Tryd.func27, Tryd.ntmps27
    go_wp2_with (go_at_call 31; refine (isPower_any _ _ (by assumption)).mono ?_; rintro e w' ⟨rfl, rfl⟩)
    go_loop [7, 22] (fun p i => ∃ (k : Nat) (q : Int), k ≤ 62 ∧ i = .int .i64 k ∧ p = .int .i64 q ∧ Up n m (ceilI n l m) (62 - k) q) (fun _ i => 62 - (intOf i).toNat)
    case atStart => exact ⟨0, l, by omega, rfl, rfl, up⟩
    case round =>
      obtain ⟨k, q, hk, rfl, rfl, hup⟩ := hrel
      have hle := hup.le
      by_cases hlt : k < 62
      · by_cases hs : n ≤ q
        · have E : Hid (q = ceilI n l m) := hup.stop (Or.inl hs)
          go_wp2
          go_ret
          exact ⟨ret_int E.out, rfl⟩
        · by_cases hs' : q = m
          · have E : Hid (q = ceilI n l m) := hup.stop (Or.inr hs')
            have hq : (q == m) = true := by rw [hs']; exact beq_self_eq_true m
            clear hs'
            go_wp2
            go_ret
            exact ⟨ret_int E.out, rfl⟩
          · obtain ⟨g, hg, hup', hle'⟩ := hup.next (by omega)
            go_wp2
            go_round
            case rel => exact ⟨k + 1, 2 * q, by omega, by go_num, by go_num, by rw [(by omega : 62 - (k + 1) = g)]; exact hup'⟩
            case measure => simp [intOf]; omega
      · obtain rfl : k = 62 := by omega
        have E : Hid (q = ceilI n l m) := hup.zero
        go_wp2
        go_ret
        exact ⟨ret_int E.out, rfl⟩
  · have hz : ceilI n l m = 0 := by unfold ceilI; rw [if_neg h]
    rw [hz]
    clear hz
    cases p1 : isP l with
    | false =>
      clear h
      go_enter Tryd.func27, Tryd.ntmps27
      go_wp2_with (go_at_call 31; refine (isPower_any _ _ (by assumption)).mono ?_; rintro e w' ⟨rfl, rfl⟩)
      go_ret
      exact ⟨rfl, rfl⟩
    | true =>
      cases p2 : isP m with
      | false =>
        clear h
        go_enter Tryd.func27, Tryd.ntmps27
        go_wp2_with (go_at_call 31; refine (isPower_any _ _ (by assumption)).mono ?_; rintro e w' ⟨rfl, rfl⟩)
        go_ret
        exact ⟨rfl, rfl⟩
      | true =>
        have hgt : m < l := by
          apply Decidable.byContradiction; intro hc
          exact h ⟨p1, p2, by omega⟩
        clear h
        go_enter Tryd.func27, Tryd.ntmps27
        go_wp2_with (go_at_call 31; refine (isPower_any _ _ (by assumption)).mono ?_; rintro e w' ⟨rfl, rfl⟩)
        go_ret
        exact ⟨rfl, rfl⟩

theorem refCeil_any (n l m : Int) (w : World) (hl : l ≤ 9223372036854775807) (hl' : -9223372036854775808 ≤ l) (hm : m ≤ 9223372036854775807) (hm' : -9223372036854775808 ≤ m) :
    Calls Tryd.prog 28 #[.int .i64 n, .int .i64 l, .int .i64 m] w fun e w' => e = .returned (.int .i64 (ceilI n l m)) ∧ w' = w := by
  by_cases h : isP l = true ∧ isP m = true ∧ l ≤ m
  · obtain ⟨p1, p2, p3⟩ := h
    have up : Up n m (ceilI n l m) 62 l := Up.start p1 p2 p3 hm
    go_enter Tryd.func28, Tryd.ntmps28
    go_wp2_with (go_at_call 32; refine (power_any _ _ (by assumption) (by assumption)).mono ?_; rintro e w' ⟨rfl, rfl⟩)
    go_loop [9] (fun p => ∃ (f : Nat) (q : Int), p = .int .i64 q ∧ Up n m (ceilI n l m) f q) (fun p => (m - intOf p).toNat)
    case atStart => exact ⟨62, l, rfl, up⟩
    case round =>
      obtain ⟨f, q, rfl, hup⟩ := hrel
      have hle := hup.le
      by_cases hs : n ≤ q
      · have E : Hid (q = ceilI n l m) := hup.stop (Or.inl hs)
        go_wp2
        go_ret
        exact ⟨ret_int E.out, rfl⟩
      · by_cases hs' : m ≤ q
        · have E : Hid (q = ceilI n l m) := hup.stop (Or.inr (by omega))
          go_wp2
          go_ret
          exact ⟨ret_int E.out, rfl⟩
        · obtain ⟨g, hg, hup', hle'⟩ := hup.next (by omega)
          go_wp2
          go_round
          case rel => exact ⟨g, 2 * q, rfl, hup'⟩
          case measure => simp [intOf]; omega
  · have hz : ceilI n l m = 0 := by unfold ceilI; rw [if_neg h]
    rw [hz]
    clear hz
    cases p1 : isP l with
    | false =>
      clear h
      go_enter Tryd.func28, Tryd.ntmps28
      go_wp2_with (go_at_call 32; refine (power_any _ _ (by assumption) (by assumption)).mono ?_; rintro e w' ⟨rfl, rfl⟩)
      go_ret
      exact ⟨rfl, rfl⟩
    | true =>
      cases p2 : isP m with
      | false =>
        clear h
        go_enter Tryd.func28, Tryd.ntmps28
        go_wp2_with (go_at_call 32; refine (power_any _ _ (by assumption) (by assumption)).mono ?_; rintro e w' ⟨rfl, rfl⟩)
        go_ret
        exact ⟨rfl, rfl⟩
      | true =>
        have hgt : m < l := by
          apply Decidable.byContradiction; intro hc
          exact h ⟨p1, p2, by omega⟩
        clear h
        go_enter Tryd.func28, Tryd.ntmps28
        go_wp2_with (go_at_call 32; refine (power_any _ _ (by assumption) (by assumption)).mono ?_; rintro e w' ⟨rfl, rfl⟩)
        go_ret
        exact ⟨rfl, rfl⟩
/-- Widths are sixteen times as many words. -/
theorem width_of (cap : Int) : ∃ m : Nat, 1 ≤ m ∧ m ≤ 4096 ∧ ceilI cap 16 65536 = 16 * (m : Int) := by
  obtain ⟨h1, h2, h3, _, _⟩ := Up.props 62 16 (Up.start (n := cap) (l := 16) (m := 65536) (by decide) (by decide) (by decide) (by decide))
  obtain ⟨k, hk⟩ := isP_pow _ h1
  have hk4 : 4 ≤ k := by
    apply Decidable.byContradiction; intro hc
    have : (2 : Int) ^ k < 2 ^ 4 := Int.pow_lt_pow_of_lt (by decide) (by omega)
    have : (2 : Int) ^ 4 = 16 := by decide
    omega
  have e : (2 : Int) ^ k = 16 * 2 ^ (k - 4) := by
    have : k = 4 + (k - 4) := by omega
    rw [this, Int.pow_add, show 4 + (k - 4) - 4 = k - 4 by omega]; rfl
  have hp : (0 : Int) < 2 ^ (k - 4) := Int.pow_pos (by decide)
  exact ⟨(2 ^ (k - 4) : Int).toNat, by omega, by omega, by omega⟩
/-- A door's words: eight times as many bits, 64 a word. -/
theorem words_of (width : Int) : ∃ m : Nat, 2 ≤ m ∧ m ≤ 8192 ∧ 8 * ceilI width 16 65536 = 64 * (m : Int) ∧ isP (64 * (m : Int)) = true := by
  obtain ⟨h1, h2, h3, _, _⟩ := Up.props 62 16 (Up.start (n := width) (l := 16) (m := 65536) (by decide) (by decide) (by decide) (by decide))
  obtain ⟨m, a, b, c⟩ := width_of width
  refine ⟨2 * m, by omega, by omega, by omega, ?_⟩
  obtain ⟨k, hk⟩ := isP_pow _ h1
  have e : 64 * ((2 * m : Nat) : Int) = 2 ^ (k + 3) := by
    rw [Int.pow_add, ← hk]; omega
  rw [e]; exact pow_isP _
end Go.Proofs.YtigmjgmkeoineaaDoor
