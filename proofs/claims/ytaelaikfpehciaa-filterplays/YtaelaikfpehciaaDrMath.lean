/-
  How many bits of a word are on: the plain mathematics of the sum of its bits by halves, by digits of one, two, four and eight bits. No condition: all is over bit vectors and natural numbers.
-/
import Derived.Test.YtaelaikfpehciaaMixMath
namespace Go.Proofs.Ytaelaikfpehciaa

/-- The first n of d's digits, s bits each, as one number. -/
def pk (s : Nat) (d : Nat → Nat) : Nat → Nat
  | 0 => 0
  | n + 1 => 2 ^ s * pk s (fun i => d (i + 1)) n + d 0

theorem pk_succ (s : Nat) (d : Nat → Nat) (n : Nat) : pk s d (n + 1) = 2 ^ s * pk s (fun i => d (i + 1)) n + d 0 := by rw [pk]
theorem pk_nil (s : Nat) (d : Nat → Nat) : pk s d 0 = 0 := by rw [pk]
theorem pk_congr {s : Nat} : ∀ {n : Nat} {d e : Nat → Nat}, (∀ i, i < n → d i = e i) → pk s d n = pk s e n
  | 0, _, _, _ => by rw [pk_nil, pk_nil]
  | n + 1, d, e, h => by
    rw [pk_succ, pk_succ, pk_congr (fun i hi => h (i + 1) (by omega)), h 0 (by omega)]
theorem pk_add (s : Nat) : ∀ (n : Nat) (d e : Nat → Nat), pk s d n + pk s e n = pk s (fun i => d i + e i) n
  | 0, _, _ => by simp only [pk_nil]
  | n + 1, d, e => by
    simp only [pk_succ]
    rw [← pk_add s n (fun i => d (i + 1)) (fun i => e (i + 1)), Nat.mul_add]; omega
theorem pk_tail (s : Nat) : ∀ (n : Nat) (d : Nat → Nat), d n = 0 → pk s d (n + 1) = pk s d n
  | 0, d, h => by rw [pk_succ, pk_nil, pk_nil, h]; simp
  | n + 1, d, h => by rw [pk_succ, pk_tail s n _ h, ← pk_succ]
theorem pk_shr (s n : Nat) (d : Nat → Nat) (h0 : d 0 < 2 ^ s) (hn : d n = 0) : pk s d n / 2 ^ s = pk s (fun i => d (i + 1)) n := by
  rw [← pk_tail s n d hn, pk_succ, Nat.mul_add_div (Nat.two_pow_pos s), Nat.div_eq_of_lt h0, Nat.add_zero]
theorem pk_lt (s : Nat) : ∀ (n : Nat) (d : Nat → Nat), (∀ i, d i < 2 ^ s) → pk s d n < 2 ^ (s * n)
  | 0, d, _ => by rw [pk_nil]; exact Nat.two_pow_pos _
  | n + 1, d, h => by
    have h1 := pk_lt s n (fun i => d (i + 1)) (fun i => h (i + 1))
    have h2 := h 0
    rw [pk_succ, Nat.mul_add, Nat.mul_one, Nat.pow_add, Nat.mul_comm (2 ^ (s * n))]
    have h3 : 2 ^ s * (pk s (fun i => d (i + 1)) n + 1) ≤ 2 ^ s * 2 ^ (s * n) := Nat.mul_le_mul_left _ h1
    rw [Nat.mul_add] at h3; omega
theorem and_split (s a b R M : Nat) (ha : a < 2 ^ s) (hb : b < 2 ^ s) : (2 ^ s * R + a) &&& (2 ^ s * M + b) = 2 ^ s * (R &&& M) + (a &&& b) := by
  apply Nat.eq_of_testBit_eq
  intro j
  rw [Nat.testBit_and, Nat.testBit_two_pow_mul_add _ ha, Nat.testBit_two_pow_mul_add _ hb, Nat.testBit_two_pow_mul_add _ (Nat.lt_of_le_of_lt Nat.and_le_left ha)]
  split <;> rw [Nat.testBit_and]
/-- Every second digit. -/
theorem pk_mask (s : Nat) : ∀ (n : Nat) (d : Nat → Nat), (∀ i, d i < 2 ^ s) → pk s d (2 * n) &&& pk (2 * s) (fun _ => 2 ^ s - 1) n = pk (2 * s) (fun i => d (2 * i)) n
  | 0, d, _ => by simp only [pk_nil, Nat.mul_zero]; rfl
  | n + 1, d, h => by
    have ih := pk_mask s n (fun i => d (i + 2)) (fun i => h (i + 2))
    have h0 := h 0
    have h1 := h 1
    have e2 : 2 ^ (2 * s) = 2 ^ s * 2 ^ s := by rw [Nat.two_mul, Nat.pow_add]
    have ha : 2 ^ s * d 1 + d 0 < 2 ^ (2 * s) := by
      have : 2 ^ s * (d 1 + 1) ≤ 2 ^ s * 2 ^ s := Nat.mul_le_mul_left _ h1
      rw [Nat.mul_add] at this; omega
    have hb : 2 ^ s - 1 < 2 ^ (2 * s) := by
      have : 2 ^ s * 1 ≤ 2 ^ s * 2 ^ s := Nat.mul_le_mul_left _ (Nat.two_pow_pos s)
      have := Nat.two_pow_pos s
      omega
    have e : pk s d (2 * (n + 1)) = 2 ^ (2 * s) * pk s (fun i => d (i + 2)) (2 * n) + (2 ^ s * d 1 + d 0) := by
      rw [show 2 * (n + 1) = (2 * n + 1) + 1 by omega, pk_succ, pk_succ, e2, Nat.mul_add, Nat.mul_assoc]; exact Nat.add_assoc _ _ _
    rw [e, pk_succ, and_split _ _ _ _ _ ha hb, ih, pk_succ, Nat.and_two_pow_sub_one_eq_mod, Nat.mul_add_mod, Nat.mod_eq_of_lt h0]
    congr 2
theorem pk_bits : ∀ (k n : Nat), n < 2 ^ k → pk 1 (fun i => (n.testBit i).toNat) k = n
  | 0, n, h => by rw [pk_nil]; simp at h; omega
  | k + 1, n, h => by
    have ih := pk_bits k (n / 2) (by rw [Nat.pow_succ] at h; omega)
    have e : pk 1 (fun i => (n.testBit (i + 1)).toNat) k = pk 1 (fun i => ((n / 2).testBit i).toNat) k := pk_congr fun i _ => by rw [Nat.testBit_succ]
    rw [pk_succ, e, ih, Nat.testBit_zero]
    have : (decide (n % 2 = 1)).toNat = n % 2 := by
      have : n % 2 = 0 ∨ n % 2 = 1 := by omega
      rcases this with h | h <;> rw [h] <;> rfl
    rw [this]; omega

/-- How many of the first n are on. -/
def cn (s : Nat → Bool) : Nat → Nat
  | 0 => 0
  | n + 1 => cn s n + (s n).toNat

def m1 : BitVec 64 := 6148914691236517205#64
def m2 : BitVec 64 := 3689348814741910323#64
def m4 : BitVec 64 := 1085102592571150095#64
def pop1 (x : BitVec 64) : BitVec 64 := (x >>> 1 &&& m1) + (x &&& m1)
def pop2 (x : BitVec 64) : BitVec 64 := (x >>> 2 &&& m2) + (x &&& m2)
def pop4 (x : BitVec 64) : BitVec 64 := (x >>> 4 + x) &&& m4
def popS (x : BitVec 64) (k : Nat) : BitVec 64 := x + x >>> k
def popB (x : BitVec 64) : BitVec 64 := popS (popS (popS (pop4 (pop2 (pop1 x))) 8) 16) 32

theorem mask1 : (m1.toNat : Nat) = pk 2 (fun _ => 2 ^ 1 - 1) 32 := by decide
theorem mask2 : (m2.toNat : Nat) = pk 4 (fun _ => 2 ^ 2 - 1) 16 := by decide
theorem mask4 : (m4.toNat : Nat) = pk 8 (fun _ => 2 ^ 4 - 1) 8 := by decide

theorem add_toNat (x y : BitVec 64) (n : Nat) (h : x.toNat + y.toNat = n) (hn : n < 2 ^ 64) : (x + y).toNat = n := by
  rw [BitVec.toNat_add, h, Nat.mod_eq_of_lt hn]
theorem pop1_pk {x : BitVec 64} {d : Nat → Nat} (hx : x.toNat = pk 1 d 64) (h : ∀ i, d i ≤ 1) (hz : d 64 = 0) : (pop1 x).toNat = pk 2 (fun i => d (2 * i) + d (2 * i + 1)) 32 := by
  have hl : ∀ i, d i < 2 ^ 1 := fun i => by have := h i; omega
  refine add_toNat _ _ _ ?_ (by exact pk_lt 2 32 _ fun i => by have := h (2 * i); have := h (2 * i + 1); omega)
  rw [BitVec.toNat_and, BitVec.toNat_and, BitVec.toNat_ushiftRight, Nat.shiftRight_eq_div_pow, hx, mask1, pk_shr 1 64 d (hl 0) hz, pk_mask 1 32 d hl, pk_mask 1 32 _ (fun i => hl (i + 1)), pk_add]
  exact pk_congr fun i _ => Nat.add_comm _ _
theorem pop2_pk {x : BitVec 64} {d : Nat → Nat} (hx : x.toNat = pk 2 d 32) (h : ∀ i, d i ≤ 2) (hz : d 32 = 0) : (pop2 x).toNat = pk 4 (fun i => d (2 * i) + d (2 * i + 1)) 16 := by
  have hl : ∀ i, d i < 2 ^ 2 := fun i => by have := h i; omega
  refine add_toNat _ _ _ ?_ (by exact pk_lt 4 16 _ fun i => by have := h (2 * i); have := h (2 * i + 1); omega)
  rw [BitVec.toNat_and, BitVec.toNat_and, BitVec.toNat_ushiftRight, Nat.shiftRight_eq_div_pow, hx, mask2, pk_shr 2 32 d (hl 0) hz, pk_mask 2 16 d hl, pk_mask 2 16 _ (fun i => hl (i + 1)), pk_add]
  exact pk_congr fun i _ => Nat.add_comm _ _
theorem pop4_pk {x : BitVec 64} {d : Nat → Nat} (hx : x.toNat = pk 4 d 16) (h : ∀ i, d i ≤ 4) (hz : d 16 = 0) : (pop4 x).toNat = pk 8 (fun i => d (2 * i + 1) + d (2 * i)) 8 := by
  have hl : ∀ i, d i < 2 ^ 4 := fun i => by have := h i; omega
  have e : (x >>> 4 + x).toNat = pk 4 (fun i => d (i + 1) + d i) 16 := by
    refine add_toNat _ _ _ ?_ (by exact pk_lt 4 16 _ fun i => by have := h i; have := h (i + 1); omega)
    rw [BitVec.toNat_ushiftRight, Nat.shiftRight_eq_div_pow, hx, pk_shr 4 16 d (hl 0) hz, pk_add]
  unfold pop4
  rw [BitVec.toNat_and, e, mask4, pk_mask 4 8 _ (fun i => by have := h i; have := h (i + 1); omega)]
/-- Down by k digits of eight bits. -/
theorem pk_down : ∀ (k : Nat) (d : Nat → Nat), (∀ i, d i < 2 ^ 8) → (∀ i, 8 ≤ i → d i = 0) → pk 8 d 8 / 2 ^ (8 * k) = pk 8 (fun i => d (i + k)) 8
  | 0, d, _, _ => by simp
  | k + 1, d, h, hz => by
    have ih := pk_down k (fun i => d (i + 1)) (fun i => h (i + 1)) (fun i hi => hz (i + 1) (by omega))
    rw [show 8 * (k + 1) = 8 + 8 * k by omega, Nat.pow_add, ← Nat.div_div_eq_div_mul, pk_shr 8 8 d (h 0) (hz 8 (by omega)), ih]
    exact pk_congr fun i _ => by rw [show i + k + 1 = i + (k + 1) by omega]
theorem popS_pk {x : BitVec 64} {d : Nat → Nat} (k b : Nat) (hx : x.toNat = pk 8 d 8) (h : ∀ i, d i ≤ b) (hb : b ≤ 32) (hz : ∀ i, 8 ≤ i → d i = 0) : (popS x (8 * k)).toNat = pk 8 (fun i => d i + d (i + k)) 8 := by
  refine add_toNat _ _ _ ?_ (by exact pk_lt 8 8 _ fun i => by have := h i; have := h (i + k); omega)
  rw [BitVec.toNat_ushiftRight, Nat.shiftRight_eq_div_pow, hx, pk_down k d (fun i => by have := h i; omega) hz, pk_add]

theorem popB_cn (x : BitVec 64) : (popB x).toNat % 128 = cn (fun i => x.getLsbD i) 64 := by
  obtain ⟨b, hb⟩ : ∃ b : Nat → Nat, b = fun i => (x.toNat.testBit i).toNat := ⟨_, rfl⟩
  have hb1 : ∀ i, b i ≤ 1 := fun i => by rw [hb]; exact Bool.toNat_le _
  have hbz : ∀ i, 64 ≤ i → b i = 0 := fun i hi => by
    rw [hb]; show (x.toNat.testBit i).toNat = 0
    rw [Nat.testBit_lt_two_pow (Nat.lt_of_lt_of_le x.isLt (Nat.pow_le_pow_right (by decide) hi))]; rfl
  have h0 : x.toNat = pk 1 b 64 := by rw [hb]; exact (pk_bits 64 _ x.isLt).symm
  have hc : cn (fun i => x.getLsbD i) 64 = b 0 + b 1 + b 2 + b 3 + b 4 + b 5 + b 6 + b 7 + b 8 + b 9 + b 10 + b 11 + b 12 + b 13 + b 14 + b 15 + b 16 + b 17 + b 18 + b 19 + b 20 + b 21 + b 22 + b 23 + b 24 + b 25 + b 26 + b 27 + b 28 + b 29 + b 30 + b 31 + b 32 + b 33 + b 34 + b 35 + b 36 + b 37 + b 38 + b 39 + b 40 + b 41 + b 42 + b 43 + b 44 + b 45 + b 46 + b 47 + b 48 + b 49 + b 50 + b 51 + b 52 + b 53 + b 54 + b 55 + b 56 + b 57 + b 58 + b 59 + b 60 + b 61 + b 62 + b 63 := by
    rw [hb]; simp only [cn, Nat.zero_add]; rfl
  rw [hc]
  clear hc hb
  obtain ⟨d1, e1⟩ : ∃ d : Nat → Nat, d = fun i => b (2 * i) + b (2 * i + 1) := ⟨_, rfl⟩
  have g1 : ∀ i, d1 i ≤ 2 := fun i => by rw [e1]; have := hb1 (2 * i); have := hb1 (2 * i + 1); show _ + _ ≤ 2; omega
  have z1 : ∀ i, 32 ≤ i → d1 i = 0 := fun i hi => by rw [e1]; have := hbz (2 * i) (by omega); have := hbz (2 * i + 1) (by omega); show _ + _ = 0; omega
  have h1 : (pop1 x).toNat = pk 2 d1 32 := by rw [e1]; exact pop1_pk h0 hb1 (hbz 64 (by omega))
  obtain ⟨d2, e2⟩ : ∃ d : Nat → Nat, d = fun i => d1 (2 * i) + d1 (2 * i + 1) := ⟨_, rfl⟩
  have g2 : ∀ i, d2 i ≤ 4 := fun i => by rw [e2]; have := g1 (2 * i); have := g1 (2 * i + 1); show _ + _ ≤ 4; omega
  have z2 : ∀ i, 16 ≤ i → d2 i = 0 := fun i hi => by rw [e2]; have := z1 (2 * i) (by omega); have := z1 (2 * i + 1) (by omega); show _ + _ = 0; omega
  have h2 : (pop2 (pop1 x)).toNat = pk 4 d2 16 := by rw [e2]; exact pop2_pk h1 g1 (z1 32 (by omega))
  obtain ⟨d3, e3⟩ : ∃ d : Nat → Nat, d = fun i => d2 (2 * i + 1) + d2 (2 * i) := ⟨_, rfl⟩
  have g3 : ∀ i, d3 i ≤ 8 := fun i => by rw [e3]; have := g2 (2 * i); have := g2 (2 * i + 1); show _ + _ ≤ 8; omega
  have z3 : ∀ i, 8 ≤ i → d3 i = 0 := fun i hi => by rw [e3]; have := z2 (2 * i) (by omega); have := z2 (2 * i + 1) (by omega); show _ + _ = 0; omega
  have h3 : (pop4 (pop2 (pop1 x))).toNat = pk 8 d3 8 := by rw [e3]; exact pop4_pk h2 g2 (z2 16 (by omega))
  obtain ⟨d4, e4⟩ : ∃ d : Nat → Nat, d = fun i => d3 i + d3 (i + 1) := ⟨_, rfl⟩
  have g4 : ∀ i, d4 i ≤ 16 := fun i => by rw [e4]; have := g3 i; have := g3 (i + 1); show _ + _ ≤ 16; omega
  have z4 : ∀ i, 8 ≤ i → d4 i = 0 := fun i hi => by rw [e4]; have := z3 i (by omega); have := z3 (i + 1) (by omega); show _ + _ = 0; omega
  have h4 : (popS (pop4 (pop2 (pop1 x))) 8).toNat = pk 8 d4 8 := by rw [e4]; exact popS_pk 1 8 h3 g3 (by omega) z3
  obtain ⟨d5, e5⟩ : ∃ d : Nat → Nat, d = fun i => d4 i + d4 (i + 2) := ⟨_, rfl⟩
  have g5 : ∀ i, d5 i ≤ 32 := fun i => by rw [e5]; have := g4 i; have := g4 (i + 2); show _ + _ ≤ 32; omega
  have z5 : ∀ i, 8 ≤ i → d5 i = 0 := fun i hi => by rw [e5]; have := z4 i (by omega); have := z4 (i + 2) (by omega); show _ + _ = 0; omega
  have h5 : (popS (popS (pop4 (pop2 (pop1 x))) 8) 16).toNat = pk 8 d5 8 := by rw [e5]; exact popS_pk 2 16 h4 g4 (by omega) z4
  have h6 : (popB x).toNat = pk 8 (fun i => d5 i + d5 (i + 4)) 8 := popS_pk 4 32 h5 g5 (by omega) z5
  rw [h6, pk_succ, show 2 ^ 8 = 128 * 2 by decide, Nat.mul_assoc, Nat.mul_add_mod]
  have q0 := g5 0
  have q1 : d5 (0 + 4) ≤ 32 := g5 4
  have e : d5 0 + d5 (0 + 4) = b 0 + b 1 + b 2 + b 3 + b 4 + b 5 + b 6 + b 7 + b 8 + b 9 + b 10 + b 11 + b 12 + b 13 + b 14 + b 15 + b 16 + b 17 + b 18 + b 19 + b 20 + b 21 + b 22 + b 23 + b 24 + b 25 + b 26 + b 27 + b 28 + b 29 + b 30 + b 31 + b 32 + b 33 + b 34 + b 35 + b 36 + b 37 + b 38 + b 39 + b 40 + b 41 + b 42 + b 43 + b 44 + b 45 + b 46 + b 47 + b 48 + b 49 + b 50 + b 51 + b 52 + b 53 + b 54 + b 55 + b 56 + b 57 + b 58 + b 59 + b 60 + b 61 + b 62 + b 63 := by
    rw [e5, e4, e3, e2, e1]
    simp only [Nat.reduceAdd, Nat.reduceMul, Nat.mul_zero, Nat.zero_add]
    omega
  rw [← e]
  clear e
  exact Nat.mod_eq_of_lt (Nat.lt_of_le_of_lt (Nat.add_le_add q0 q1) (by decide))
end Go.Proofs.Ytaelaikfpehciaa
