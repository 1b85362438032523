/-
  How many bits of a word are on: the plain mathematics of the sum of its bits by halves, by digits of one, two, four and eight bits. No condition: all is over bit vectors and natural numbers.
-/
import Derived.Test.YtlmcopenbeammaaGrMix
import Derived.Lib.SliceRun
import Derived.BigQuiet
import Derived.Deep.RegionWith
namespace Go.Proofs.Ytlmcopenbeammaa

/-- The first n of d's digits, s bits each, as one number. -/
def pk (s : Nat) (d : Nat → Nat) : Nat → Nat
  | 0 => 0
  | n + 1 => 2 ^ s * pk s (fun i => d (i + 1)) n + d 0

theorem pk_succ (s : Nat) (d : Nat → Nat) (n : Nat) : pk s d (n + 1) = 2 ^ s * pk s (fun i => d (i + 1)) n + d 0 := by rw [pk]
theorem pk_nil (s : Nat) (d : Nat → Nat) : pk s d 0 = 0 := by rw [pk]
theorem pk_congr {s : Nat} : ∀ {n : Nat} {d e : Nat → Nat}, (∀ i, i < n → d i = e i) → pk s d n = pk s e n
  | 0, _, _, _ => by rw [pk_nil, pk_nil]
  | n + 1, d, e, h => by
    rw [pk_succ, pk_succ, pk_congr (fun i hi => h (i + 1) (by omega)), h 0 (by omega)]
theorem pk_add (s : Nat) : ∀ (n : Nat) (d e : Nat → Nat), pk s d n + pk s e n = pk s (fun i => d i + e i) n
  | 0, _, _ => by simp only [pk_nil]
  | n + 1, d, e => by
    simp only [pk_succ]
    rw [← pk_add s n (fun i => d (i + 1)) (fun i => e (i + 1)), Nat.mul_add]; omega
theorem pk_tail (s : Nat) : ∀ (n : Nat) (d : Nat → Nat), d n = 0 → pk s d (n + 1) = pk s d n
  | 0, d, h => by rw [pk_succ, pk_nil, pk_nil, h]; simp
  | n + 1, d, h => by rw [pk_succ, pk_tail s n _ h, ← pk_succ]
theorem pk_shr (s n : Nat) (d : Nat → Nat) (h0 : d 0 < 2 ^ s) (hn : d n = 0) : pk s d n / 2 ^ s = pk s (fun i => d (i + 1)) n := by
  rw [← pk_tail s n d hn, pk_succ, Nat.mul_add_div (Nat.two_pow_pos s), Nat.div_eq_of_lt h0, Nat.add_zero]
theorem pk_lt (s : Nat) : ∀ (n : Nat) (d : Nat → Nat), (∀ i, d i < 2 ^ s) → pk s d n < 2 ^ (s * n)
  | 0, d, _ => by rw [pk_nil]; exact Nat.two_pow_pos _
  | n + 1, d, h => by
    have h1 := pk_lt s n (fun i => d (i + 1)) (fun i => h (i + 1))
    have h2 := h 0
    rw [pk_succ, Nat.mul_add, Nat.mul_one, Nat.pow_add, Nat.mul_comm (2 ^ (s * n))]
    have h3 : 2 ^ s * (pk s (fun i => d (i + 1)) n + 1) ≤ 2 ^ s * 2 ^ (s * n) := Nat.mul_le_mul_left _ h1
    rw [Nat.mul_add] at h3; omega
theorem and_split (s a b R M : Nat) (ha : a < 2 ^ s) (hb : b < 2 ^ s) : (2 ^ s * R + a) &&& (2 ^ s * M + b) = 2 ^ s * (R &&& M) + (a &&& b) := by
  apply Nat.eq_of_testBit_eq
  intro j
  rw [Nat.testBit_and, Nat.testBit_two_pow_mul_add _ ha, Nat.testBit_two_pow_mul_add _ hb, Nat.testBit_two_pow_mul_add _ (Nat.lt_of_le_of_lt Nat.and_le_left ha)]
  split <;> rw [Nat.testBit_and]
/-- Every second digit. -/
theorem pk_mask (s : Nat) : ∀ (n : Nat) (d : Nat → Nat), (∀ i, d i < 2 ^ s) → pk s d (2 * n) &&& pk (2 * s) (fun _ => 2 ^ s - 1) n = pk (2 * s) (fun i => d (2 * i)) n
  | 0, d, _ => by simp only [pk_nil, Nat.mul_zero]; rfl
  | n + 1, d, h => by
    have ih := pk_mask s n (fun i => d (i + 2)) (fun i => h (i + 2))
    have h0 := h 0
    have h1 := h 1
    have e2 : 2 ^ (2 * s) = 2 ^ s * 2 ^ s := by rw [Nat.two_mul, Nat.pow_add]
    have ha : 2 ^ s * d 1 + d 0 < 2 ^ (2 * s) := by
      have : 2 ^ s * (d 1 + 1) ≤ 2 ^ s * 2 ^ s := Nat.mul_le_mul_left _ h1
      rw [Nat.mul_add] at this; omega
    have hb : 2 ^ s - 1 < 2 ^ (2 * s) := by
      have : 2 ^ s * 1 ≤ 2 ^ s * 2 ^ s := Nat.mul_le_mul_left _ (Nat.two_pow_pos s)
      have := Nat.two_pow_pos s
      omega
    have e : pk s d (2 * (n + 1)) = 2 ^ (2 * s) * pk s (fun i => d (i + 2)) (2 * n) + (2 ^ s * d 1 + d 0) := by
      rw [show 2 * (n + 1) = (2 * n + 1) + 1 by omega, pk_succ, pk_succ, e2, Nat.mul_add, Nat.mul_assoc]; exact Nat.add_assoc _ _ _
    rw [e, pk_succ, and_split _ _ _ _ _ ha hb, ih, pk_succ, Nat.and_two_pow_sub_one_eq_mod, Nat.mul_add_mod, Nat.mod_eq_of_lt h0]
    congr 2
theorem pk_bits : ∀ (k n : Nat), n < 2 ^ k → pk 1 (fun i => (n.testBit i).toNat) k = n
  | 0, n, h => by rw [pk_nil]; simp at h; omega
  | k + 1, n, h => by
    have ih := pk_bits k (n / 2) (by rw [Nat.pow_succ] at h; omega)
    have e : pk 1 (fun i => (n.testBit (i + 1)).toNat) k = pk 1 (fun i => ((n / 2).testBit i).toNat) k := pk_congr fun i _ => by rw [Nat.testBit_succ]
    rw [pk_succ, e, ih, Nat.testBit_zero]
    have : (decide (n % 2 = 1)).toNat = n % 2 := by
      have : n % 2 = 0 ∨ n % 2 = 1 := by omega
      rcases this with h | h <;> rw [h] <;> rfl
    rw [this]; omega

/-- How many of the first n are on. -/
def cn (s : Nat → Bool) : Nat → Nat
  | 0 => 0
  | n + 1 => cn s n + (s n).toNat

def m1 : BitVec 64 := 6148914691236517205#64
def m2 : BitVec 64 := 3689348814741910323#64
def m4 : BitVec 64 := 1085102592571150095#64
def pop1 (x : BitVec 64) : BitVec 64 := (x >>> 1 &&& m1) + (x &&& m1)
def pop2 (x : BitVec 64) : BitVec 64 := (x >>> 2 &&& m2) + (x &&& m2)
def pop4 (x : BitVec 64) : BitVec 64 := (x >>> 4 + x) &&& m4
def popS (x : BitVec 64) (k : Nat) : BitVec 64 := x + x >>> k
def popB (x : BitVec 64) : BitVec 64 := popS (popS (popS (pop4 (pop2 (pop1 x))) 8) 16) 32

theorem mask1 : (m1.toNat : Nat) = pk 2 (fun _ => 2 ^ 1 - 1) 32 := by decide
theorem mask2 : (m2.toNat : Nat) = pk 4 (fun _ => 2 ^ 2 - 1) 16 := by decide
theorem mask4 : (m4.toNat : Nat) = pk 8 (fun _ => 2 ^ 4 - 1) 8 := by decide

theorem add_toNat (x y : BitVec 64) (n : Nat) (h : x.toNat + y.toNat = n) (hn : n < 2 ^ 64) : (x + y).toNat = n := by
  rw [BitVec.toNat_add, h, Nat.mod_eq_of_lt hn]
theorem pop1_pk {x : BitVec 64} {d : Nat → Nat} (hx : x.toNat = pk 1 d 64) (h : ∀ i, d i ≤ 1) (hz : d 64 = 0) : (pop1 x).toNat = pk 2 (fun i => d (2 * i) + d (2 * i + 1)) 32 := by
  have hl : ∀ i, d i < 2 ^ 1 := fun i => by have := h i; omega
  refine add_toNat _ _ _ ?_ (by exact pk_lt 2 32 _ fun i => by have := h (2 * i); have := h (2 * i + 1); omega)
  rw [BitVec.toNat_and, BitVec.toNat_and, BitVec.toNat_ushiftRight, Nat.shiftRight_eq_div_pow, hx, mask1, pk_shr 1 64 d (hl 0) hz, pk_mask 1 32 d hl, pk_mask 1 32 _ (fun i => hl (i + 1)), pk_add]
  exact pk_congr fun i _ => Nat.add_comm _ _
theorem pop2_pk {x : BitVec 64} {d : Nat → Nat} (hx : x.toNat = pk 2 d 32) (h : ∀ i, d i ≤ 2) (hz : d 32 = 0) : (pop2 x).toNat = pk 4 (fun i => d (2 * i) + d (2 * i + 1)) 16 := by
  have hl : ∀ i, d i < 2 ^ 2 := fun i => by have := h i; omega
  refine add_toNat _ _ _ ?_ (by exact pk_lt 4 16 _ fun i => by have := h (2 * i); have := h (2 * i + 1); omega)
  rw [BitVec.toNat_and, BitVec.toNat_and, BitVec.toNat_ushiftRight, Nat.shiftRight_eq_div_pow, hx, mask2, pk_shr 2 32 d (hl 0) hz, pk_mask 2 16 d hl, pk_mask 2 16 _ (fun i => hl (i + 1)), pk_add]
  exact pk_congr fun i _ => Nat.add_comm _ _
theorem pop4_pk {x : BitVec 64} {d : Nat → Nat} (hx : x.toNat = pk 4 d 16) (h : ∀ i, d i ≤ 4) (hz : d 16 = 0) : (pop4 x).toNat = pk 8 (fun i => d (2 * i + 1) + d (2 * i)) 8 := by
  have hl : ∀ i, d i < 2 ^ 4 := fun i => by have := h i; omega
  have e : (x >>> 4 + x).toNat = pk 4 (fun i => d (i + 1) + d i) 16 := by
    refine add_toNat _ _ _ ?_ (by exact pk_lt 4 16 _ fun i => by have := h i; have := h (i + 1); omega)
    rw [BitVec.toNat_ushiftRight, Nat.shiftRight_eq_div_pow, hx, pk_shr 4 16 d (hl 0) hz, pk_add]
  unfold pop4
  rw [BitVec.toNat_and, e, mask4, pk_mask 4 8 _ (fun i => by have := h i; have := h (i + 1); omega)]
/-- Down by k digits of eight bits. -/
theorem pk_down : ∀ (k : Nat) (d : Nat → Nat), (∀ i, d i < 2 ^ 8) → (∀ i, 8 ≤ i → d i = 0) → pk 8 d 8 / 2 ^ (8 * k) = pk 8 (fun i => d (i + k)) 8
  | 0, d, _, _ => by simp
  | k + 1, d, h, hz => by
    have ih := pk_down k (fun i => d (i + 1)) (fun i => h (i + 1)) (fun i hi => hz (i + 1) (by omega))
    rw [show 8 * (k + 1) = 8 + 8 * k by omega, Nat.pow_add, ← Nat.div_div_eq_div_mul, pk_shr 8 8 d (h 0) (hz 8 (by omega)), ih]
    exact pk_congr fun i _ => by rw [show i + k + 1 = i + (k + 1) by omega]
theorem popS_pk {x : BitVec 64} {d : Nat → Nat} (k b : Nat) (hx : x.toNat = pk 8 d 8) (h : ∀ i, d i ≤ b) (hb : b ≤ 32) (hz : ∀ i, 8 ≤ i → d i = 0) : (popS x (8 * k)).toNat = pk 8 (fun i => d i + d (i + k)) 8 := by
  refine add_toNat _ _ _ ?_ (by exact pk_lt 8 8 _ fun i => by have := h i; have := h (i + k); omega)
  rw [BitVec.toNat_ushiftRight, Nat.shiftRight_eq_div_pow, hx, pk_down k d (fun i => by have := h i; omega) hz, pk_add]

theorem popB_cn (x : BitVec 64) : (popB x).toNat % 128 = cn (fun i => x.getLsbD i) 64 := by
  obtain ⟨b, hb⟩ : ∃ b : Nat → Nat, b = fun i => (x.toNat.testBit i).toNat := ⟨_, rfl⟩
  have hb1 : ∀ i, b i ≤ 1 := fun i => by rw [hb]; exact Bool.toNat_le _
  have hbz : ∀ i, 64 ≤ i → b i = 0 := fun i hi => by
    rw [hb]; show (x.toNat.testBit i).toNat = 0
    rw [Nat.testBit_lt_two_pow (Nat.lt_of_lt_of_le x.isLt (Nat.pow_le_pow_right (by decide) hi))]; rfl
  have h0 : x.toNat = pk 1 b 64 := by rw [hb]; exact (pk_bits 64 _ x.isLt).symm
  have hc : cn (fun i => x.getLsbD i) 64 = b 0 + b 1 + b 2 + b 3 + b 4 + b 5 + b 6 + b 7 + b 8 + b 9 + b 10 + b 11 + b 12 + b 13 + b 14 + b 15 + b 16 + b 17 + b 18 + b 19 + b 20 + b 21 + b 22 + b 23 + b 24 + b 25 + b 26 + b 27 + b 28 + b 29 + b 30 + b 31 + b 32 + b 33 + b 34 + b 35 + b 36 + b 37 + b 38 + b 39 + b 40 + b 41 + b 42 + b 43 + b 44 + b 45 + b 46 + b 47 + b 48 + b 49 + b 50 + b 51 + b 52 + b 53 + b 54 + b 55 + b 56 + b 57 + b 58 + b 59 + b 60 + b 61 + b 62 + b 63 := by
    rw [hb]; simp only [cn, Nat.zero_add]; rfl
  rw [hc]
  clear hc hb
  obtain ⟨d1, e1⟩ : ∃ d : Nat → Nat, d = fun i => b (2 * i) + b (2 * i + 1) := ⟨_, rfl⟩
  have g1 : ∀ i, d1 i ≤ 2 := fun i => by rw [e1]; have := hb1 (2 * i); have := hb1 (2 * i + 1); show _ + _ ≤ 2; omega
  have z1 : ∀ i, 32 ≤ i → d1 i = 0 := fun i hi => by rw [e1]; have := hbz (2 * i) (by omega); have := hbz (2 * i + 1) (by omega); show _ + _ = 0; omega
  have h1 : (pop1 x).toNat = pk 2 d1 32 := by rw [e1]; exact pop1_pk h0 hb1 (hbz 64 (by omega))
  obtain ⟨d2, e2⟩ : ∃ d : Nat → Nat, d = fun i => d1 (2 * i) + d1 (2 * i + 1) := ⟨_, rfl⟩
  have g2 : ∀ i, d2 i ≤ 4 := fun i => by rw [e2]; have := g1 (2 * i); have := g1 (2 * i + 1); show _ + _ ≤ 4; omega
  have z2 : ∀ i, 16 ≤ i → d2 i = 0 := fun i hi => by rw [e2]; have := z1 (2 * i) (by omega); have := z1 (2 * i + 1) (by omega); show _ + _ = 0; omega
  have h2 : (pop2 (pop1 x)).toNat = pk 4 d2 16 := by rw [e2]; exact pop2_pk h1 g1 (z1 32 (by omega))
  obtain ⟨d3, e3⟩ : ∃ d : Nat → Nat, d = fun i => d2 (2 * i + 1) + d2 (2 * i) := ⟨_, rfl⟩
  have g3 : ∀ i, d3 i ≤ 8 := fun i => by rw [e3]; have := g2 (2 * i); have := g2 (2 * i + 1); show _ + _ ≤ 8; omega
  have z3 : ∀ i, 8 ≤ i → d3 i = 0 := fun i hi => by rw [e3]; have := z2 (2 * i) (by omega); have := z2 (2 * i + 1) (by omega); show _ + _ = 0; omega
  have h3 : (pop4 (pop2 (pop1 x))).toNat = pk 8 d3 8 := by rw [e3]; exact pop4_pk h2 g2 (z2 16 (by omega))
  obtain ⟨d4, e4⟩ : ∃ d : Nat → Nat, d = fun i => d3 i + d3 (i + 1) := ⟨_, rfl⟩
  have g4 : ∀ i, d4 i ≤ 16 := fun i => by rw [e4]; have := g3 i; have := g3 (i + 1); show _ + _ ≤ 16; omega
  have z4 : ∀ i, 8 ≤ i → d4 i = 0 := fun i hi => by rw [e4]; have := z3 i (by omega); have := z3 (i + 1) (by omega); show _ + _ = 0; omega
  have h4 : (popS (pop4 (pop2 (pop1 x))) 8).toNat = pk 8 d4 8 := by rw [e4]; exact popS_pk 1 8 h3 g3 (by omega) z3
  obtain ⟨d5, e5⟩ : ∃ d : Nat → Nat, d = fun i => d4 i + d4 (i + 2) := ⟨_, rfl⟩
  have g5 : ∀ i, d5 i ≤ 32 := fun i => by rw [e5]; have := g4 i; have := g4 (i + 2); show _ + _ ≤ 32; omega
  have z5 : ∀ i, 8 ≤ i → d5 i = 0 := fun i hi => by rw [e5]; have := z4 i (by omega); have := z4 (i + 2) (by omega); show _ + _ = 0; omega
  have h5 : (popS (popS (pop4 (pop2 (pop1 x))) 8) 16).toNat = pk 8 d5 8 := by rw [e5]; exact popS_pk 2 16 h4 g4 (by omega) z4
  have h6 : (popB x).toNat = pk 8 (fun i => d5 i + d5 (i + 4)) 8 := popS_pk 4 32 h5 g5 (by omega) z5
  rw [h6, pk_succ, show 2 ^ 8 = 128 * 2 by decide, Nat.mul_assoc, Nat.mul_add_mod]
  have q0 := g5 0
  have q1 : d5 (0 + 4) ≤ 32 := g5 4
  have e : d5 0 + d5 (0 + 4) = b 0 + b 1 + b 2 + b 3 + b 4 + b 5 + b 6 + b 7 + b 8 + b 9 + b 10 + b 11 + b 12 + b 13 + b 14 + b 15 + b 16 + b 17 + b 18 + b 19 + b 20 + b 21 + b 22 + b 23 + b 24 + b 25 + b 26 + b 27 + b 28 + b 29 + b 30 + b 31 + b 32 + b 33 + b 34 + b 35 + b 36 + b 37 + b 38 + b 39 + b 40 + b 41 + b 42 + b 43 + b 44 + b 45 + b 46 + b 47 + b 48 + b 49 + b 50 + b 51 + b 52 + b 53 + b 54 + b 55 + b 56 + b 57 + b 58 + b 59 + b 60 + b 61 + b 62 + b 63 := by
    rw [e5, e4, e3, e2, e1]
    simp only [Nat.reduceAdd, Nat.reduceMul, Nat.mul_zero, Nat.zero_add]
    omega
  rw [← e]
  clear e
  exact Nat.mod_eq_of_lt (Nat.lt_of_le_of_lt (Nat.add_le_add q0 q1) (by decide))
end Go.Proofs.Ytlmcopenbeammaa

/-
  Memory that holds a struct of a seed and a slice, behind the block of the slice's elements; what stores, new blocks and calls that touch other blocks leave of it. No condition but those told at each sentence.
-/
namespace Go.Proofs.Ytlmcopenbeammaa
open Go.RowKit Go.Deep

/-- A struct at block b + 1: a seed, and a slice of all m elements of block b. -/
structure Ow (w : World) (b : Nat) (t e : TypeId) (seed : Int) (m : Nat) (v : Nat → Value) : Prop where
  head : w.heap[b + 1]? = some (.cells #[.int .i64 seed, sl b m] t (0, 0))
  row : w.rowIs b e m v

namespace Ow
variable {w w' : World} {b m : Nat} {t e : TypeId} {seed : Int} {v : Nat → Value}
theorem last (h : Ow w b t e seed m v) : b + 1 < w.heap.size := by
  apply Decidable.byContradiction; intro hc
  have := h.head
  rw [Array.getElem?_eq_none (by omega)] at this
  cases this
theorem cell0 (h : Ow w b t e seed m v) : w.cell? ⟨b + 1, 0, none⟩ = some (.int .i64 seed) := by
  simp only [World.cell?, h.head]; rfl
theorem cell1 (h : Ow w b t e seed m v) : w.cell? ⟨b + 1, 1, none⟩ = some (.slice (some ⟨b, 0, none⟩) m m) := by
  simp only [World.cell?, h.head]; rfl
theorem cellV (h : Ow w b t e seed m v) {k : Nat} (hk : k < m) : w.cell? ⟨b, k, none⟩ = some (v k) := h.row.cell hk
theorem frozenV (h : Ow w b t e seed m v) (k : Nat) : w.frozen? ⟨b, k, none⟩ = false := h.row.frozen k
theorem setV (h : Ow w b t e seed m v) (k : Nat) (u : Value) : Ow (w.setCell ⟨b, k, none⟩ u) b t e seed m (fun l => if l = k then u else v l) :=
  ⟨(blk_setCell_other _ _ _ _ (by show b + 1 ≠ b; omega)).trans h.head, h.row.set k u⟩
theorem congr {v' : Nat → Value} (h : Ow w b t e seed m v) (g : ∀ k, k < m → v k = v' k) : Ow w b t e seed m v' := ⟨h.head, h.row.congr g⟩
theorem off {b' n : Nat} (h : Ow w b t e seed m v) (g : Off b' n w w') (hd : b + 2 ≤ b' ∨ b' + n ≤ b) : Ow w' b t e seed m v :=
  ⟨(g.block (b + 1) h.last (by omega)).trans h.head, h.row.of_block (g.block b (by have := h.last; omega) (by omega))⟩
theorem grown (h : Ow w b t e seed m v) (g : Grown w w') : Ow w' b t e seed m v := h.off (Off.of_grown g 0 0) (by omega)
theorem drewN (h : Ow w b t e seed m v) (n : Nat) : Ow (w.drewN n) b t e seed m v := h.grown (grownDrewN (Grown.refl _) n)
theorem made (w : World) (t e : TypeId) (seed : Int) (m : Nat) (z : Value) :
    Ow ((w.alloc (.cells (madeCells #[z] m) e)).alloc (.cells #[.int .i64 seed, sl w.heap.size m] t)) w.heap.size t e seed m (fun _ => z) := by
  refine ⟨?_, (World.rowIs_made w z m e).alloc _⟩
  have := blk_alloc_new (w.alloc (.cells (madeCells #[z] m) e)) (.cells #[.int .i64 seed, sl w.heap.size m] t)
  rw [nblk_alloc] at this
  exact this
end Ow
theorem off_cell {w w1 : World} {b : Nat} (h : Off b 2 w w1) (k : Nat) (u : Value) : Off b 2 w (w1.setCell ⟨b, k, none⟩ u) :=
  h.setCell (a := ⟨b, k, none⟩) (Nat.le_refl _) (by show b < b + 2; omega) u

/-! ### clear -/
theorem rowIs_wipe {b : Nat} {t : TypeId} {n : Nat} (z : Value) : ∀ (k o : Nat) (w : World) (f : Nat → Value), w.rowIs b t n f → (w.setCells b o (List.replicate k z)).rowIs b t n (fun j => if o ≤ j ∧ j < o + k then z else f j)
  | 0, o, w, f, h => h.congr (fun j _ => by rw [if_neg (by omega)])
  | k + 1, o, w, f, h => by
    have ih := rowIs_wipe z k (o + 1) _ _ (h.set o z)
    refine ih.congr (fun j _ => ?_)
    by_cases h1 : j = o
    · subst h1
      rw [if_neg (by omega), if_pos rfl, if_pos (by omega)]
    · by_cases h2 : o + 1 ≤ j ∧ j < o + 1 + k
      · rw [if_pos h2, if_pos (by omega)]
      · rw [if_neg h2, if_neg h1, if_neg (by omega)]
theorem off_wipe {b : Nat} (z : Value) : ∀ (k o : Nat) (w w1 : World), Off b 2 w w1 → Off b 2 w (w1.setCells b o (List.replicate k z))
  | 0, _, _, _, h => h
  | k + 1, o, w, _, h => off_wipe z k (o + 1) w _ (off_cell h o z)
theorem head_wipe {b : Nat} (z : Value) : ∀ (k o : Nat) (w : World), (w.setCells b o (List.replicate k z)).heap[b + 1]? = w.heap[b + 1]?
  | 0, _, _ => rfl
  | k + 1, o, w => (head_wipe z k (o + 1) (w.setCell ⟨b, o, none⟩ z)).trans (blk_setCell_other _ _ _ _ (by show b + 1 ≠ b; omega))
theorem Ow.wipe {w : World} {b m : Nat} {t e : TypeId} {seed : Int} {v : Nat → Value} (h : Ow w b t e seed m v) (z : Value) : Ow (w.setCells b 0 (List.replicate m z)) b t e seed m (fun _ => z) :=
  ⟨(head_wipe z m 0 w).trans h.head, (rowIs_wipe z m 0 w v h.row).congr fun j hj => if_pos (by omega)⟩

/-! ### bits -/
/-- Is the bit of that place on? -/
def on (f : Nat → BitVec 64) (p : Nat) : Bool := (f (p / 64)).getLsbD (p % 64)
/-- The words behind that bit is on. -/
def turn (f : Nat → BitVec 64) (p q : Nat) : BitVec 64 := if q = p / 64 then f q ||| 1#64 <<< (p % 64) else f q
theorem bit_one (r i : Nat) (hr : r < 64) (hi : i < 64) : (1#64 <<< r).getLsbD i = decide (i = r) := by
  rw [BitVec.getLsbD_shiftLeft]
  by_cases e : i = r
  · subst e; simp [hi]
  · by_cases h : i < r
    · simp [h, e]
    · have : i - r ≠ 0 := by omega
      simp [h, hi, e, this]
theorem on_turn (f : Nat → BitVec 64) (p j : Nat) : on (turn f p) j = (on f j || decide (j = p)) := by
  unfold on turn
  by_cases e : j / 64 = p / 64
  · rw [if_pos e, BitVec.getLsbD_or, bit_one _ _ (Nat.mod_lt _ (by decide)) (Nat.mod_lt _ (by decide))]
    congr 1
    rw [decide_eq_decide]; omega
  · rw [if_neg e, decide_eq_false (by intro h; exact e (by rw [h])), Bool.or_false]
theorem and_bit (y : BitVec 64) (r : Nat) (hr : r < 64) : (bits .and .u64 (U y) (U (1#64 <<< r)) == 0) = !(y.getLsbD r) := by
  rw [bits_and_U, B_U, B_U]
  have e : (U (y &&& 1#64 <<< r) == 0) = (U (y &&& 1#64 <<< r) == U 0#64) := rfl
  rw [e, U_beq, Bool.eq_iff_iff, beq_iff_eq]
  constructor
  · intro h
    have := congrArg (fun z => z.getLsbD r) h
    simp only [BitVec.getLsbD_and, bit_one r r hr hr, BitVec.getLsbD_zero, decide_true, Bool.and_true] at this
    rw [this]; rfl
  · intro h
    apply BitVec.eq_of_getLsbD_eq
    intro i hi
    rw [BitVec.getLsbD_and, bit_one r i hr hi, BitVec.getLsbD_zero]
    by_cases e : i = r
    · subst e
      cases hy : y.getLsbD i with
      | true => rw [hy] at h; cases h
      | false => rfl
    · rw [decide_eq_false e, Bool.and_false]
theorem or_bit (y : BitVec 64) (r : Nat) : bits .or .u64 (U y) (U (1#64 <<< r)) = U (y ||| 1#64 <<< r) := by rw [bits_or_U, B_U, B_U]

/-! ### counts -/
/-- How many bits of the first k words are on. -/
def onesW (f : Nat → BitVec 64) : Nat → Nat
  | 0 => 0
  | k + 1 => onesW f k + cn (fun i => (f k).getLsbD i) 64
theorem cn_congr {s t : Nat → Bool} (n : Nat) (h : ∀ i, i < n → s i = t i) : cn s n = cn t n := by
  induction n with
  | zero => rfl
  | succ n ih => rw [cn, cn, ih (fun i hi => h i (by omega)), h n (by omega)]
theorem cn_words (f : Nat → BitVec 64) (k : Nat) : onesW f k = cn (on f) (64 * k) := by
  induction k with
  | zero => rfl
  | succ k ih =>
    have go : ∀ t, t ≤ 64 → cn (on f) (64 * k + t) = cn (on f) (64 * k) + cn (fun i => (f k).getLsbD i) t := by
      intro t ht
      induction t with
      | zero => rfl
      | succ t iht =>
        rw [← Nat.add_assoc, cn, iht (by omega), cn]
        have e : on f (64 * k + t) = (f k).getLsbD t := by
          unfold on; rw [show (64 * k + t) / 64 = k by omega, show (64 * k + t) % 64 = t by omega]
        rw [e]; omega
    rw [onesW, ih, show 64 * (k + 1) = 64 * k + 64 by omega, go 64 (by omega)]
theorem cn_le (s : Nat → Bool) (n : Nat) : cn s n ≤ n := by
  induction n with
  | zero => exact Nat.le_refl _
  | succ n ih => rw [cn]; have := Bool.toNat_le (s n); omega
theorem cn_off (n : Nat) : cn (fun _ => false) n = 0 := by
  induction n with
  | zero => rfl
  | succ n ih => rw [cn, ih]; rfl
/-- One bit more, if it was off. -/
theorem cn_or (s : Nat → Bool) (p n : Nat) : cn (fun j => s j || decide (j = p)) n = cn s n + if p < n ∧ s p = false then 1 else 0 := by
  induction n with
  | zero => rfl
  | succ n ih =>
    rw [cn, cn, ih]
    by_cases e : n = p
    · subst e
      rw [if_neg (by omega), decide_eq_true rfl, Bool.or_true]
      cases h : s n with
      | true => rw [if_neg (fun x => by cases x.2)]; rfl
      | false => rw [if_pos ⟨by omega, rfl⟩]; rfl
    · rw [decide_eq_false e, Bool.or_false]
      by_cases g : p < n ∧ s p = false
      · rw [if_pos g, if_pos ⟨by omega, g.2⟩]; omega
      · rw [if_neg g, if_neg (fun x => g ⟨by omega, x.2⟩)]; omega
end Go.Proofs.Ytlmcopenbeammaa

/-
  What New, Size, Clear, Ones, bitAt, bitsOf, areOn and turnOn of package door do when they are called.
-/
namespace Go.Proofs.Ytlmcopenbeammaa
open Go.RowKit Go.Deep

/-- A door at the blocks b (its words) and b + 1. -/
def Dr (w : World) (b : Nat) (seed : Int) (m : Nat) (f : Nat → BitVec 64) : Prop :=
  Ow w b 101 114 seed m (fun k => .int .u64 (U (f k)))
/-- A key's place. -/
def Q (x : BitVec 64) (i m : Nat) : Nat := (indexI x i (64 * (m : Int))).toNat
theorem Q_eq (x : BitVec 64) (i m : Nat) (h : 1 ≤ m) : indexI x i (64 * (m : Int)) = (Q x i m : Int) := by
  have := index_bd x i (64 * (m : Int)) (by omega)
  unfold Q; omega
theorem Q_lt (x : BitVec 64) (i m : Nat) (h : 1 ≤ m) : Q x i m < 64 * m := by
  have := index_bd x i (64 * (m : Int)) (by omega)
  unfold Q; omega

variable {w : World} {b m : Nat} {seed : Int} {f : Nat → BitVec 64}

theorem dSize_any (h : Dr w b seed m f) (hm : m ≤ 8192) :
    Calls Try.prog 95 #[ptr (b + 1)] w fun e w' => e = .returned (.int .i64 (64 * (m : Int))) ∧ w' = w := by
  have c1 := Ow.cell1 h
  unfold ptr
  go_enter Try.func95, Try.ntmps95
  go_wp2
  go_ret
  exact ⟨rfl, rfl⟩

theorem Try.infoW : (Try.prog.info? 114).map (fun i => (i.zero, i.size, i.bytes)) = some (some (.int .u64 0), 1, 8) := by kernel_rfl
theorem dNew_any (width seed : Int) (w : World) (m : Nat) (h1 : m ≤ 8192) (hm : 8 * ceilI width 16 65536 = 64 * (m : Int)) :
    Calls Try.prog 32 #[.int .i64 width, .int .i64 seed] w fun e w' => e = .returned (ptr (w.heap.size + 1)) ∧ Dr w' w.heap.size seed m (fun _ => 0#64) ∧ Grown w w' := by
  obtain ⟨c, hc⟩ : ∃ c, c = ceilI width 16 65536 := ⟨_, rfl⟩
  have ce := fun w => ceil_any width 16 65536 w (by decide) (by decide)
  rw [← hc] at hm
  simp only [← hc] at ce
  have hdiv : 8 * c / 64 = (m : Int) := by omega
  have hb1 : 0 ≤ 8 * c := by omega
  have hb2 : 8 * c ≤ 524288 := by omega
  have hmk := run_make_row' (P := Try.prog) 96 114 (.int .u64 0) 8 Try.underlying96 Try.infoW rfl .i64 .i64 m (by omega) (by omega)
  clear hc hm
  go_enter Try.func32, Try.ntmps32
  go_wp2_with (go_at_call 58; refine (ce _).mono ?_; rintro e w' ⟨rfl, rfl⟩)
  go_ret
  exact ⟨rfl, Ow.made _ _ _ seed m (.int .u64 0), ((Grown.refl _).alloc _ _).alloc _ _⟩

theorem U_shr1 (x : BitVec 64) : U x / (2 : Int) = U (x >>> 1) := U_shr x 1
theorem U_shr2 (x : BitVec 64) : U x / (4 : Int) = U (x >>> 2) := U_shr x 2
theorem U_shr4 (x : BitVec 64) : U x / (16 : Int) = U (x >>> 4) := U_shr x 4
theorem U_shr8 (x : BitVec 64) : U x / (256 : Int) = U (x >>> 8) := U_shr x 8
theorem U_shr16 (x : BitVec 64) : U x / (65536 : Int) = U (x >>> 16) := U_shr x 16
theorem U_shr32 (x : BitVec 64) : U x / (4294967296 : Int) = U (x >>> 32) := U_shr x 32
theorem and127 (y : BitVec 64) : bits .and .i64 (wrap64 (U y)) 127 = ((y.toNat % 128 : Nat) : Int) := by
  have g : bits .and .i64 (wrap64 (U y)) 127 = IntKind.i64.wrap ((B (wrap64 (U y)) &&& 127#64).toNat : Int) := rfl
  rw [g, wrap64_toInt, B_toInt, B_U]
  have h : (y &&& 127#64).toNat = y.toNat % 128 := by
    rw [BitVec.toNat_and]; exact Nat.and_two_pow_sub_one_eq_mod y.toNat 7
  rw [h]; simp [IntKind.wrap, IntKind.signed, IntKind.bits]; omega
theorem zeroW (w : World) : (zeroValue 114).run Try.prog w = .ok (.int .u64 0) w := by kernel_rfl
theorem dClear_any (h : Dr w b seed m f) (h1 : 1 ≤ m) :
    Calls Try.prog 86 #[ptr (b + 1)] w fun e w' => e = .returned (.tuple #[]) ∧ Dr w' b seed m (fun _ => 0#64) ∧ Off b 2 w w' := by
  have c1 := Ow.cell1 h
  have hcl : ∀ ty, (Builtin.clear_ #[96] ty #[.slice (some ⟨b, 0, none⟩) m m]).run Try.prog w = .ok (.tuple #[]) (w.setCells b 0 (List.replicate m (.int .u64 0))) :=
    fun ty => Lib.run_clear_slice w 96 114 ty (.int .u64 0) Try.underlying96 zeroW rfl rfl b 0 m m (by omega) (fun j hj => by rw [Nat.zero_add, Ow.cellV h hj]; rfl) (fun j _ => Ow.frozenV h _)
  unfold ptr
  go_enter Try.func86, Try.ntmps86
  go_wp2_with (simp only [hcl])
  go_end0
  exact ⟨rfl, Ow.wipe h _, off_wipe _ _ _ _ _ (Off.refl _ _ _)⟩

theorem onesW_bd (f : Nat → BitVec 64) (k : Nat) : onesW f k ≤ 64 * k := by rw [cn_words]; exact cn_le _ _
theorem bitAt_any (p : Nat) (w : World) :
    Calls Try.prog 96 #[.int .i64 p] w fun e w' => e = .returned (.int .u64 (U (1#64 <<< (p % 64)))) ∧ w' = w := by
  have hr : p % 64 < 64 := Nat.mod_lt _ (by decide)
  have he : IntKind.u64.wrap (1 * 2 ^ (p % 64)) = U (1#64 <<< (p % 64)) := U_shl 1#64 (p % 64)
  obtain ⟨r, hre⟩ : ∃ r, r = p % 64 := ⟨_, rfl⟩
  have hi : (p : Int) % 64 = r := by omega
  rw [← hre] at hr he ⊢
  clear hre
  go_enter Try.func96, Try.ntmps96
  go_wp2
  go_ret
  exact ⟨ret_int (by first | exact he | (rw [← he]; congr 1; omega)), rfl⟩
end Go.Proofs.Ytlmcopenbeammaa

/-
  What bitsOf, areOn and turnOn of package door do when they are called, and Put and Has.
-/
namespace Go.Proofs.Ytlmcopenbeammaa
open Go.RowKit Go.Deep

variable {w : World} {b m : Nat} {seed : Int} {f : Nat → BitVec 64}

theorem infoTwo (p q : Value) : (Try.prog.info? 117).map (·.size) = some (#[p, q] : Array Value).size := by kernel_rfl
theorem wrap_nat64 (q : Nat) (h : q ≤ 1000000) : IntKind.i64.wrap (q : Int) = q := by
  simp [IntKind.wrap, IntKind.signed, IntKind.bits]; omega
/-- Two numbers, as an array's cells. -/
def two (p q : Int) : Array Value := #[.int .i64 p, .int .i64 q]
theorem infoTwoC (p q : Int) : (Try.prog.info? 117).map (·.size) = some (two p q).size := by kernel_rfl
theorem twoOne (p q : Int) : (two p q).all (·.oneCell') = true := by kernel_rfl
theorem bitsOf_any (h : Dr w b seed m f) (h1 : 1 ≤ m) (hm : m ≤ 8192) (key : Int) :
    Calls Try.prog 79 #[ptr (b + 1), .int .i64 key] w fun e w' => e = .returned (.agg (two (Q (mixB seed key) 0 m) (Q (mixB seed key) 1 m))) ∧ Grown w w' := by
  have c0a : ∀ o, (w.alloc o).cell? ⟨b + 1, 0, none⟩ = some (.int .i64 seed) := fun o => (World.cell?_of_block (blk_alloc_lt w o (b + 1) (Ow.last h))).trans (Ow.cell0 h)
  obtain ⟨x, hx⟩ : ∃ x, x = mixB seed key := ⟨_, rfl⟩
  have mx := fun w => mix_any seed key w
  simp only [← hx] at mx
  rw [← hx]
  have ix : ∀ (i : Nat) (w : World), Calls Try.prog 94 #[.int .u64 (U x), .int .i64 i, .int .i64 (64 * (m : Int))] w fun e w' => e = .returned (.int .i64 (Q x i m)) ∧ w' = w := fun i w => by
    have := index_any x i (64 * (m : Int)) w (by omega)
    rw [Q_eq x i m h1] at this
    exact this
  have i0 := ix 0
  have i1 := ix 1
  have sz : ∀ W, Grown w W → Calls Try.prog 95 #[ptr (b + 1)] W fun e w' => e = .returned (.int .i64 (64 * (m : Int))) ∧ w' = W := fun W g => dSize_any (Ow.grown h g) hm
  obtain ⟨p, hp⟩ : ∃ p : Int, p = (Q x 0 m : Nat) := ⟨_, rfl⟩
  obtain ⟨q, hq⟩ : ∃ q : Int, q = (Q x 1 m : Nat) := ⟨_, rfl⟩
  simp only [← hp] at i0
  simp only [← hq] at i1
  rw [← hp, ← hq]
  clear hx hp hq ix h
  unfold ptr at *
  go_enter Try.func79, Try.ntmps79
  go_wp2_with (go_at_call 77; refine (mx _).mono ?_; rintro e w' ⟨rfl, hw⟩; have hw := hw.symm; subst hw)
  go_loopw [14] (fun i wr => (i = .int .i64 0 ∧ wr = (w.alloc (.cells (two 0 0) 117)).alloc (.cells (two 0 0) 117)) ∨ (i = .int .i64 1 ∧ wr = (w.alloc (.cells (two 0 0) 117)).alloc (.cells (two p 0) 117)) ∨ (i = .int .i64 2 ∧ wr = (w.alloc (.cells (two 0 0) 117)).alloc (.cells (two p q) 117))) (fun i _ => 2 - (intOf i).toNat)
  case atStart => exact Or.inl ⟨rfl, rfl⟩
  case round =>
    clear mx c0a
    rcases hrel with ⟨rfl, rfl⟩ | ⟨rfl, rfl⟩ | ⟨rfl, rfl⟩
    · clear i1
      unfold two
      go_wp2_with (first | (go_at_call 95; refine (sz _ (by exact ((Grown.refl _).alloc _ _).alloc _ _)).mono ?_; rintro e w' ⟨rfl, hw⟩; have hw := hw.symm; subst hw) | (go_at_call 94; refine (i0 _).mono ?_; rintro e w' ⟨rfl, hw⟩; have hw := hw.symm; subst hw))
      go_roundw
      case rel => exact Or.inr (Or.inl ⟨rfl, by first | rfl | trivial⟩)
      case measure => decide
    · clear i0
      unfold two
      go_wp2_with (first | (go_at_call 95; refine (sz _ (by exact ((Grown.refl _).alloc _ _).alloc _ _)).mono ?_; rintro e w' ⟨rfl, hw⟩; have hw := hw.symm; subst hw) | (go_at_call 94; refine (i1 _).mono ?_; rintro e w' ⟨rfl, hw⟩; have hw := hw.symm; subst hw))
      go_roundw
      case rel => exact Or.inr (Or.inr ⟨rfl, by first | rfl | trivial⟩)
      case measure => decide
    · clear i0 i1
      unfold two
      go_wp2_with (first | (refine wpList_load_row rfl 117 _ rfl (w.heap.size + 1) rfl 117 _ (0, 0) _ (heap2_new _ _ _) Try.underlying117 rfl (infoTwo _ _) ?_) | (refine wpList_store_row rfl 117 _ _ rfl w.heap.size _ rfl rfl 117 _ (heap2_old _ _ _) (infoTwo _ _) rfl rfl ?_; rw [setRow_alloc2]))
      exact bodyPost_ret (v := .agg #[.int .i64 p, .int .i64 q]) (results_cell_row Try.results79 _ _ w.heap.size 117 _ (0, 0) _ rfl (heap2_old _ _ _) Try.underlying117 rfl (infoTwo _ _)) rfl ⟨rfl, ((Grown.refl _).alloc _ _).alloc _ _⟩

theorem areOn_any (h : Dr w b seed m f) (g : Nat) (pl : Nat → Nat) (hc : ∀ k, k < 2 → w.cell? ⟨g, k, none⟩ = some (.int .i64 (pl k))) (hp : ∀ k, k < 2 → pl k < 64 * m) (hm : m ≤ 8192) :
    Calls Try.prog 80 #[ptr (b + 1), .slice (some ⟨g, 0, none⟩) 2 2] w fun e w' => e = .returned (.bool (on f (pl 0) && on f (pl 1))) ∧ ∃ d, w' = w.drewN d := by
  have c1 := Ow.cell1 h
  unfold ptr
  go_enter Try.func80, Try.ntmps80
  go_wp2
  go_loopw [9] (fun i wr => ∃ k d : Nat, k ≤ 2 ∧ i = .int .i64 k ∧ (∀ j, j < k → on f (pl j) = true) ∧ wr = w.drewN d) (fun i _ => 2 - (intOf i).toNat)
  case atStart => exact ⟨0, 0, by omega, rfl, fun j hj => by omega, rfl⟩
  case round =>
    obtain ⟨k, d, hk, rfl, hon, rfl⟩ := hrel
    by_cases hlt : k < 2
    · have ck := hc k hlt
      have hpk := hp k hlt
      obtain ⟨p, hpe⟩ : ∃ p, p = pl k := ⟨_, rfl⟩
      rw [← hpe] at ck hpk
      have ba := fun W => bitAt_any p W
      have hq : p / 64 < m := by omega
      have c2 : w.cell? ⟨b, p / 64, none⟩ = some (.int .u64 (U (f (p / 64)))) := Ow.cellV h hq
      have hab := and_bit (f (p / 64)) (p % 64) (Nat.mod_lt _ (by decide))
      have hone : on f (pl k) = (f (p / 64)).getLsbD (p % 64) := by rw [← hpe]; rfl
      obtain ⟨q, hqe⟩ : ∃ q, q = p / 64 := ⟨_, rfl⟩
      obtain ⟨r, hre⟩ : ∃ r, r = p % 64 := ⟨_, rfl⟩
      have hqi : (p : Int) / 64 = (q : Int) := by omega
      have hwq := wrap_nat64 q (by omega)
      obtain ⟨y, hy⟩ : ∃ y, y = f q := ⟨_, rfl⟩
      rw [← hqe] at hq c2
      simp only [← hre] at ba
      rw [← hqe, ← hre, ← hy] at hab hone
      rw [← hy] at c2
      clear hqe hre hy hpe hc hp
      cases hb : y.getLsbD r with
      | true =>
        rw [hb] at hab hone
        have hab' : (bits .and .u64 (U y) (U (1#64 <<< r)) == 0) = false := hab
        have HON : Hid (on f (pl k) = true) := hone
        clear hab hone
        go_wp2
        go_quiet (first | (go_at_call 96; exact quiet_here ba))
        go_wp2
        go_roundw
        case rel => exact ⟨k + 1, _, by omega, by go_num, fun j hj => by
          by_cases e : j = k
          · subst e; exact HON.out
          · exact hon j (by omega), rfl⟩
        case measure => simp [intOf]; omega
      | false =>
        rw [hb] at hab hone
        have hab' : (bits .and .u64 (U y) (U (1#64 <<< r)) == 0) = true := hab
        have HON : Hid (on f (pl k) = false) := hone
        clear hab hone
        go_wp2
        go_quiet (first | (go_at_call 96; exact quiet_here ba))
        go_wp2
        go_ret
        refine ⟨ret_bool ?_, d + nq, by rw [World.drewN_drewN]⟩
        have hk' : k = 0 ∨ k = 1 := by omega
        rcases hk' with rfl | rfl
        · rw [HON.out]; rfl
        · rw [HON.out, Bool.and_false]
    · obtain rfl : k = 2 := by omega
      go_wp2
      go_ret
      exact ⟨ret_bool (by rw [hon 0 (by omega), hon 1 (by omega)]; rfl), _, rfl⟩

/-- The words behind the first k of those bits are on. -/
def turns (f : Nat → BitVec 64) (pl : Nat → Nat) : Nat → Nat → BitVec 64
  | 0 => f
  | k + 1 => turn (turns f pl k) (pl k)
theorem turn_step {wr : World} {y : BitVec 64} {p q r : Nat} (h : Dr wr b seed m f) (hq : q = p / 64) (hr : r = p % 64) (hy : y = f q) :
    Dr (wr.setCell ⟨b, q, none⟩ (.int .u64 (U (y ||| 1#64 <<< r)))) b seed m (turn f p) := by
  refine Ow.congr (Ow.setV h q _) fun l hl => ?_
  show (if l = q then _ else _) = _
  unfold turn
  by_cases e : l = q
  · subst e; rw [if_pos rfl, if_pos hq, hy, hr]
  · rw [if_neg e, if_neg (by rw [← hq]; exact e)]
theorem turnOn_any (h : Dr w b seed m f) (g : Nat) (pl : Nat → Nat) (hg : g < w.heap.size) (hgb : g ≠ b ∧ g ≠ b + 1) (hc : ∀ k, k < 2 → w.cell? ⟨g, k, none⟩ = some (.int .i64 (pl k))) (hp : ∀ k, k < 2 → pl k < 64 * m) (hm : m ≤ 8192) :
    Calls Try.prog 83 #[ptr (b + 1), .slice (some ⟨g, 0, none⟩) 2 2] w fun e w' => e = .returned (.tuple #[]) ∧ Dr w' b seed m (turns f pl 2) ∧ Off b 2 w w' := by
  unfold ptr
  go_enter Try.func83, Try.ntmps83
  go_wp2
  go_loopw [8] (fun i wr => ∃ k : Nat, k ≤ 2 ∧ i = .int .i64 k ∧ Dr wr b seed m (turns f pl k) ∧ Off b 2 w wr) (fun i _ => 2 - (intOf i).toNat)
  case atStart => exact ⟨0, by omega, rfl, h, Off.refl _ _ _⟩
  case round =>
    obtain ⟨k, hk, rfl, hs, ho⟩ := hrel
    by_cases hlt : k < 2
    · have ck : wr.cell? ⟨g, k, none⟩ = some (.int .i64 (pl k)) := (World.cell?_of_block (w := w) (ho.block g hg (by omega))).trans (hc k hlt)
      have c1 := Ow.cell1 hs
      have hpk := hp k hlt
      have ts : turns f pl (k + 1) = turn (turns f pl k) (pl k) := rfl
      obtain ⟨F, hF⟩ : ∃ F, F = turns f pl k := ⟨_, rfl⟩
      obtain ⟨p, hpe⟩ : ∃ p, p = pl k := ⟨_, rfl⟩
      rw [← hpe] at ck hpk
      rw [← hF] at hs
      rw [← hF, ← hpe] at ts
      have ba := fun W => bitAt_any p W
      have hq : p / 64 < m := by omega
      have c2 : wr.cell? ⟨b, p / 64, none⟩ = some (.int .u64 (U (F (p / 64)))) := Ow.cellV hs hq
      have c3 := Ow.frozenV hs (p / 64)
      obtain ⟨q, hqe⟩ : ∃ q, q = p / 64 := ⟨_, rfl⟩
      obtain ⟨r, hre⟩ : ∃ r, r = p % 64 := ⟨_, rfl⟩
      have hqi : (p : Int) / 64 = (q : Int) := by omega
      have hwq := wrap_nat64 q (by omega)
      obtain ⟨y, hy⟩ : ∃ y, y = F q := ⟨_, rfl⟩
      rw [← hqe] at hq c2 c3
      simp only [← hre] at ba
      rw [← hy] at c2
      have hob := or_bit y r
      have HS := turn_step hs hqe hre hy
      have HO := off_cell ho q (.int .u64 (U (y ||| 1#64 <<< r)))
      rw [← ts] at HS
      have HS' : Hid (Dr (wr.setCell ⟨b, q, none⟩ (.int .u64 (U (y ||| 1#64 <<< r)))) b seed m (turns f pl (k + 1))) := HS
      have HO' : Hid (Off b 2 w (wr.setCell ⟨b, q, none⟩ (.int .u64 (U (y ||| 1#64 <<< r))))) := HO
      clear hqe hre hy hpe hc hp hF ts HS HO hs ho h hg hgb
      go_wp2
      go_region_with (first | (go_at_call 96; refine (ba _).mono ?_; rintro e w' ⟨rfl, hw⟩; have hw := hw.symm; subst hw))
      all_goals (try go_wp2)
      all_goals go_roundw
      all_goals first | exact ⟨k + 1, by omega, by go_num, Ow.drewN HS'.out 1, HO'.out.drewN 1⟩ | (simp [intOf]; omega)
    · obtain rfl : k = 2 := by omega
      go_wp2
      go_end0
      exact ⟨rfl, hs, ho⟩

theorem two_cell (w1 : World) (p q k : Nat) (hk : k < 2) : (w1.alloc (.cells (two p q) 117)).cell? ⟨w1.heap.size, k, none⟩ = some (.int .i64 ((if k = 0 then p else q : Nat) : Int)) := by
  have h : k = 0 ∨ k = 1 := by omega
  simp only [World.cell?, blk_alloc_new]
  rcases h with rfl | rfl <;> rfl

theorem dHas_any (h : Dr w b seed m f) (h1 : 1 ≤ m) (hm : m ≤ 8192) (key : Int) :
    Calls Try.prog 57 #[ptr (b + 1), .int .i64 key] w fun e w' => e = .returned (.bool (on f (Q (mixB seed key) 0 m) && on f (Q (mixB seed key) 1 m))) ∧ Grown w w' := by
  obtain ⟨x, hx⟩ : ∃ x, x = mixB seed key := ⟨_, rfl⟩
  have bo := bitsOf_any h h1 hm key
  rw [← hx] at bo ⊢
  have q0 := Q_lt x 0 m h1
  have q1 := Q_lt x 1 m h1
  obtain ⟨p, hp⟩ : ∃ p, p = Q x 0 m := ⟨_, rfl⟩
  obtain ⟨q, hq⟩ : ∃ q, q = Q x 1 m := ⟨_, rfl⟩
  rw [← hp] at q0
  rw [← hq] at q1
  rw [← hp, ← hq] at bo ⊢
  have ar : ∀ w1, Grown w w1 → Calls Try.prog 80 #[ptr (b + 1), .slice (some ⟨w1.heap.size, 0, none⟩) 2 2] (w1.alloc (.cells (two p q) 117)) fun e w' => e = .returned (.bool (on f p && on f q)) ∧ ∃ d, w' = (w1.alloc (.cells (two p q) 117)).drewN d := fun w1 g =>
    areOn_any (Ow.grown h (g.alloc _ _)) w1.heap.size (fun k => if k = 0 then p else q) (two_cell w1 p q) (fun k hk => by show (if k = 0 then p else q) < _; split <;> assumption) hm
  clear hx hp hq h
  unfold ptr at *
  go_enter Try.func57, Try.ntmps57
  go_wp2_with (first | (go_at_call 79; refine bo.mono ?_; rintro e w1 ⟨rfl, hg1⟩) | (refine wpList_store_row rfl 117 _ _ rfl w1.heap.size _ rfl rfl 117 _ (heap_alloc_last _ _) (infoTwoC _ _) rfl (twoOne _ _) ?_; rw [World.setRow_alloc_new]) | (go_at_call 80; refine (ar _ hg1).mono ?_; rintro e w2 ⟨rfl, d, rfl⟩))
  go_ret
  exact ⟨rfl, grownDrewN (hg1.alloc _ _) d⟩

theorem dPut_any (h : Dr w b seed m f) (h1 : 1 ≤ m) (hm : m ≤ 8192) (key : Int) :
    Calls Try.prog 61 #[ptr (b + 1), .int .i64 key] w fun e w' => e = .returned (.bool (on f (Q (mixB seed key) 0 m) && on f (Q (mixB seed key) 1 m))) ∧ Dr w' b seed m (turn (turn f (Q (mixB seed key) 0 m)) (Q (mixB seed key) 1 m)) ∧ Off b 2 w w' := by
  obtain ⟨x, hx⟩ : ∃ x, x = mixB seed key := ⟨_, rfl⟩
  have bo := bitsOf_any h h1 hm key
  rw [← hx] at bo ⊢
  have q0 := Q_lt x 0 m h1
  have q1 := Q_lt x 1 m h1
  obtain ⟨p, hp⟩ : ∃ p, p = Q x 0 m := ⟨_, rfl⟩
  obtain ⟨q, hq⟩ : ∃ q, q = Q x 1 m := ⟨_, rfl⟩
  rw [← hp] at q0
  rw [← hq] at q1
  rw [← hp, ← hq] at bo ⊢
  have ar : ∀ w1, Grown w w1 → Calls Try.prog 80 #[ptr (b + 1), .slice (some ⟨w1.heap.size, 0, none⟩) 2 2] (w1.alloc (.cells (two p q) 117)) fun e w' => e = .returned (.bool (on f p && on f q)) ∧ ∃ d, w' = (w1.alloc (.cells (two p q) 117)).drewN d := fun w1 g =>
    areOn_any (Ow.grown h (g.alloc _ _)) w1.heap.size (fun k => if k = 0 then p else q) (two_cell w1 p q) (fun k hk => by show (if k = 0 then p else q) < _; split <;> assumption) hm
  have tu : ∀ w1, Grown w w1 → ∀ d, Calls Try.prog 83 #[ptr (b + 1), .slice (some ⟨w1.heap.size, 0, none⟩) 2 2] ((w1.alloc (.cells (two p q) 117)).drewN d) fun e w' => e = .returned (.tuple #[]) ∧ Dr w' b seed m (turn (turn f p) q) ∧ Off b 2 ((w1.alloc (.cells (two p q) 117)).drewN d) w' := fun w1 g d =>
    turnOn_any (Ow.grown h (grownDrewN (g.alloc _ _) d)) w1.heap.size (fun k => if k = 0 then p else q) (by show _ < (w1.alloc _).heap.size; rw [nblk_alloc]; omega) (by have := Ow.last h; have := g.2.2; omega) (two_cell w1 p q) (fun k hk => by show (if k = 0 then p else q) < _; split <;> assumption) hm
  clear hx hp hq h
  unfold ptr at *
  go_enter Try.func61, Try.ntmps61
  go_wp2_with (first | (go_at_call 79; refine bo.mono ?_; rintro e w1 ⟨rfl, hg1⟩) | (refine wpList_store_row rfl 117 _ _ rfl w1.heap.size _ rfl rfl 117 _ (heap_alloc_last _ _) (infoTwoC _ _) rfl (twoOne _ _) ?_; rw [World.setRow_alloc_new]) | (go_at_call 80; refine (ar _ hg1).mono ?_; rintro e w2 ⟨rfl, d, hw⟩; have hw := hw.symm; subst hw) | (go_at_call 83; refine (tu _ hg1 _).mono ?_; rintro e w3 ⟨rfl, hs3, ho3⟩))
  go_ret
  exact ⟨rfl, hs3, (Off.of_grown (grownDrewN (hg1.alloc _ _) d) b 2).trans ho3⟩
end Go.Proofs.Ytlmcopenbeammaa

/-
  A door by its bits: what its methods do to them when they are called; a small case.
-/
namespace Go.Proofs.Ytlmcopenbeammaa
open Go.RowKit Go.Deep

/-- A door whose bits are s. -/
def Drb (w : World) (b : Nat) (seed : Int) (m : Nat) (s : Nat → Bool) : Prop := ∃ f, Dr w b seed m f ∧ ∀ j, j < 64 * m → on f j = s j
/-- Are the key's bits on? -/
def hasS (s : Nat → Bool) (x : BitVec 64) (m : Nat) : Bool := s (Q x 0 m) && s (Q x 1 m)
/-- The bits behind a Put. -/
def putS (s : Nat → Bool) (x : BitVec 64) (m j : Nat) : Bool := (s j || decide (j = Q x 0 m)) || decide (j = Q x 1 m)
/-- No bit. -/
def noS (_ : Nat) : Bool := false

theorem hasS_no (x : BitVec 64) (m : Nat) : hasS noS x m = false := rfl
theorem putS_self (s : Nat → Bool) (x : BitVec 64) (m : Nat) : hasS (putS s x m) x m = true := by
  unfold hasS putS; simp
theorem putS_le (s : Nat → Bool) (x : BitVec 64) (m j : Nat) (h : s j = true) : putS s x m j = true := by unfold putS; rw [h]; rfl
theorem putS_keep (s : Nat → Bool) (x y : BitVec 64) (m : Nat) (h : hasS s y m = true) : hasS (putS s x m) y m = true := by
  unfold hasS at h ⊢
  rw [Bool.and_eq_true] at h ⊢
  exact ⟨putS_le _ _ _ _ h.1, putS_le _ _ _ _ h.2⟩
/-- How many bits are on behind a Put. -/
theorem cn_put (s : Nat → Bool) (x : BitVec 64) (m : Nat) (h1 : 1 ≤ m) :
    (hasS s x m = true → cn (putS s x m) (64 * m) = cn s (64 * m)) ∧ (hasS s x m = false → cn s (64 * m) < cn (putS s x m) (64 * m)) ∧ cn s (64 * m) ≤ cn (putS s x m) (64 * m) ∧ cn (putS s x m) (64 * m) ≤ cn s (64 * m) + 2 := by
  have q0 := Q_lt x 0 m h1
  have q1 := Q_lt x 1 m h1
  have e : cn (putS s x m) (64 * m) = cn s (64 * m) + (if Q x 0 m < 64 * m ∧ s (Q x 0 m) = false then 1 else 0) + (if Q x 1 m < 64 * m ∧ (s (Q x 1 m) || decide (Q x 1 m = Q x 0 m)) = false then 1 else 0) := by
    rw [← cn_or, ← cn_or]; rfl
  rw [e]
  unfold hasS
  cases h0 : s (Q x 0 m) with
  | true =>
    cases h2 : s (Q x 1 m) with
    | true => simp
    | false =>
      have hne : Q x 1 m ≠ Q x 0 m := fun h => by rw [h, h0] at h2; cases h2
      simp [q1, hne]
  | false =>
    by_cases h2 : (s (Q x 1 m) || decide (Q x 1 m = Q x 0 m)) = false
    · rw [if_pos ⟨q0, rfl⟩, if_pos ⟨q1, h2⟩]; simp; omega
    · rw [if_pos ⟨q0, rfl⟩, if_neg (fun x => h2 x.2)]; simp

namespace Drb
variable {w w' : World} {b m : Nat} {seed : Int} {s : Nat → Bool}
theorem off {b' k : Nat} (h : Drb w b seed m s) (g : Off b' k w w') (hd : b + 2 ≤ b' ∨ b' + k ≤ b) : Drb w' b seed m s := by
  obtain ⟨f, hs, he⟩ := h
  exact ⟨f, Ow.off hs g hd, he⟩
theorem grown (h : Drb w b seed m s) (g : Grown w w') : Drb w' b seed m s := h.off (Off.of_grown g 0 0) (by omega)
theorem drewN (h : Drb w b seed m s) (n : Nat) : Drb (w.drewN n) b seed m s := h.grown (grownDrewN (Grown.refl _) n)
theorem last (h : Drb w b seed m s) : b + 1 < w.heap.size := by
  obtain ⟨f, hs, he⟩ := h
  exact Ow.last hs
end Drb

variable {w : World} {b m : Nat} {seed : Int} {s : Nat → Bool}
theorem size_b (h : Drb w b seed m s) (hm : m ≤ 8192) :
    Calls Try.prog 95 #[ptr (b + 1)] w fun e w' => e = .returned (.int .i64 (64 * (m : Int))) ∧ w' = w := by
  obtain ⟨f, hs, he⟩ := h
  exact dSize_any hs hm
theorem new_b (width seed : Int) (w : World) (m : Nat) (h1 : m ≤ 8192) (hm : 8 * ceilI width 16 65536 = 64 * (m : Int)) :
    Calls Try.prog 32 #[.int .i64 width, .int .i64 seed] w fun e w' => e = .returned (ptr (w.heap.size + 1)) ∧ Drb w' w.heap.size seed m noS ∧ Grown w w' := by
  refine (dNew_any width seed w m h1 hm).mono ?_
  rintro e w' ⟨rfl, hs, hg⟩
  exact ⟨rfl, ⟨_, hs, fun j _ => by unfold on noS; simp⟩, hg⟩
theorem clear_b (h : Drb w b seed m s) (h1 : 1 ≤ m) :
    Calls Try.prog 86 #[ptr (b + 1)] w fun e w' => e = .returned (.tuple #[]) ∧ Drb w' b seed m noS ∧ Off b 2 w w' := by
  obtain ⟨f, hs, he⟩ := h
  refine (dClear_any hs h1).mono ?_
  rintro e w' ⟨rfl, hs, ho⟩
  exact ⟨rfl, ⟨_, hs, fun j _ => by unfold on noS; simp⟩, ho⟩
theorem has_b (h : Drb w b seed m s) (h1 : 1 ≤ m) (hm : m ≤ 8192) (key : Int) :
    Calls Try.prog 57 #[ptr (b + 1), .int .i64 key] w fun e w' => e = .returned (.bool (hasS s (mixB seed key) m)) ∧ Grown w w' := by
  obtain ⟨f, hs, he⟩ := h
  unfold hasS
  rw [← he _ (Q_lt _ 0 m h1), ← he _ (Q_lt _ 1 m h1)]
  exact dHas_any hs h1 hm key
theorem put_b (h : Drb w b seed m s) (h1 : 1 ≤ m) (hm : m ≤ 8192) (key : Int) :
    Calls Try.prog 61 #[ptr (b + 1), .int .i64 key] w fun e w' => e = .returned (.bool (hasS s (mixB seed key) m)) ∧ Drb w' b seed m (putS s (mixB seed key) m) ∧ Off b 2 w w' := by
  obtain ⟨f, hs, he⟩ := h
  unfold hasS
  rw [← he _ (Q_lt _ 0 m h1), ← he _ (Q_lt _ 1 m h1)]
  refine (dPut_any hs h1 hm key).mono ?_
  rintro e w' ⟨rfl, hs, ho⟩
  exact ⟨rfl, ⟨_, hs, fun j hj => by rw [on_turn, on_turn, he j hj]; rfl⟩, ho⟩

end Go.Proofs.Ytlmcopenbeammaa

/-
  Laws over a door's keys: counts of bits, bits of many keys, two doors in memory.
-/
namespace Go.Proofs.Ytlmcopenbeammaa
open Go.RowKit Go.Deep

theorem cn_pos (s : Nat → Bool) (p n : Nat) (hp : p < n) (h : s p = true) : 1 ≤ cn s n := by
  induction n with
  | zero => omega
  | succ n ih =>
    rw [cn]
    by_cases e : p = n
    · subst e; rw [h]; show 1 ≤ _ + 1; omega
    · have := ih (by omega); omega
theorem cn_put_pos (s : Nat → Bool) (x : BitVec 64) (m : Nat) (h1 : 1 ≤ m) : 1 ≤ cn (putS s x m) (64 * m) :=
  cn_pos _ (Q x 0 m) _ (Q_lt x 0 m h1) (by unfold putS; simp)
/-- Sizes are powers of two. -/
theorem size_pow (m : Nat) (h1 : 2 ≤ m) (h2 : m ≤ 8192) (hp : isP (64 * (m : Int)) = true) : (bits .and .i64 (64 * (m : Int)) (64 * (m : Int) - 1) == 0) = true := by
  rw [isP_bits _ (by omega) (by omega)]; exact hp

/-! ### bits of many keys -/
/-- Is the place a bit of that key? -/
def kb2 (seed : Int) (m : Nat) (key : Int) (j : Nat) : Prop := j = Q (mixB seed key) 0 m ∨ j = Q (mixB seed key) 1 m
theorem putS_iff (s : Nat → Bool) (seed key : Int) (m j : Nat) : putS s (mixB seed key) m j = true ↔ s j = true ∨ kb2 seed m key j := by
  unfold putS kb2; simp [or_assoc]
/-- The bits are those of the first k keys. -/
def UpTo (z : List Int) (seed : Int) (m : Nat) (s : Nat → Bool) (k : Nat) : Prop := ∀ j, s j = true ↔ ∃ i, i < k ∧ kb2 seed m (z.getD i 0) j
/-- The bits are those of the keys from k on, and of the first, if there are any. -/
def From (z : List Int) (seed : Int) (m len : Nat) (s : Nat → Bool) (k : Nat) : Prop := ∀ j, s j = true ↔ (∃ i, k ≤ i ∧ i < len ∧ kb2 seed m (z.getD i 0) j) ∨ (k < len ∧ kb2 seed m (z.getD 0 0) j)
theorem upTo_zero (z : List Int) (seed : Int) (m : Nat) : UpTo z seed m noS 0 := fun j => ⟨fun h => (by cases h), fun ⟨i, hi, _⟩ => by omega⟩
theorem upTo_next {z : List Int} {seed : Int} {m : Nat} {s : Nat → Bool} {k : Nat} (h : UpTo z seed m s k) : UpTo z seed m (putS s (mixB seed (z.getD k 0)) m) (k + 1) := fun j => by
  rw [putS_iff, h j]
  constructor
  · rintro (⟨i, hi, hb⟩ | hb)
    · exact ⟨i, by omega, hb⟩
    · exact ⟨k, by omega, hb⟩
  · rintro ⟨i, hi, hb⟩
    by_cases e : i = k
    · subst e; exact Or.inr hb
    · exact Or.inl ⟨i, by omega, hb⟩
theorem from_none (z : List Int) (seed : Int) (m len : Nat) : From z seed m len noS len := fun j => ⟨fun h => (by cases h), fun h => by rcases h with ⟨i, h1, h2, _⟩ | ⟨h, _⟩ <;> omega⟩
theorem from_next {z : List Int} {seed : Int} {m len : Nat} {s : Nat → Bool} {k : Nat} (hk : k < len) (h : From z seed m len s (k + 1)) : From z seed m len (putS (putS s (mixB seed (z.getD k 0)) m) (mixB seed (z.getD 0 0)) m) k := fun j => by
  rw [putS_iff, putS_iff, h j]
  constructor
  · rintro (((⟨i, h1, h2, hb⟩ | ⟨_, hb⟩) | hb) | hb)
    · exact Or.inl ⟨i, by omega, h2, hb⟩
    · exact Or.inr ⟨hk, hb⟩
    · exact Or.inl ⟨k, by omega, hk, hb⟩
    · exact Or.inr ⟨hk, hb⟩
  · rintro (⟨i, h1, h2, hb⟩ | ⟨_, hb⟩)
    · by_cases e : i = k
      · subst e; exact Or.inl (Or.inr hb)
      · exact Or.inl (Or.inl (Or.inl ⟨i, by omega, h2, hb⟩))
    · exact Or.inr hb
theorem same_bits {z : List Int} {seed : Int} {m len : Nat} {s t : Nat → Bool} (h : UpTo z seed m s len) (g : From z seed m len t 0) : s = t := by
  funext j
  rw [Bool.eq_iff_iff, h j, g j]
  constructor
  · rintro ⟨i, hi, hb⟩; exact Or.inl ⟨i, by omega, hi, hb⟩
  · rintro (⟨i, _, hi, hb⟩ | ⟨hi, hb⟩)
    · exact ⟨i, hi, hb⟩
    · exact ⟨0, hi, hb⟩

/-- Two doors, one behind the other. -/
structure Twin (w : World) (bx by_ : Nat) (seed : Int) (m : Nat) (s t : Nat → Bool) : Prop where
  x : Drb w bx seed m s
  y : Drb w by_ seed m t
  apart : bx + 2 ≤ by_
namespace Twin
variable {w w' : World} {bx by_ m : Nat} {seed : Int} {s t s' t' : Nat → Bool}
theorem setX (h : Twin w bx by_ seed m s t) (hx : Drb w' bx seed m s') (o : Off bx 2 w w') : Twin w' bx by_ seed m s' t := ⟨hx, h.y.off o (by have := h.apart; omega), h.apart⟩
theorem setY (h : Twin w bx by_ seed m s t) (hy : Drb w' by_ seed m t') (o : Off by_ 2 w w') : Twin w' bx by_ seed m s t' := ⟨h.x.off o (by have := h.apart; omega), hy, h.apart⟩
theorem grown (h : Twin w bx by_ seed m s t) (g : Grown w w') : Twin w' bx by_ seed m s t := ⟨h.x.grown g, h.y.grown g, h.apart⟩
end Twin
/-- The first k keys are there. -/
def There (z : List Int) (seed : Int) (m : Nat) (s : Nat → Bool) (k : Nat) : Prop := ∀ i, i < k → hasS s (mixB seed (z.getD i 0)) m = true
theorem there_next {z : List Int} {seed : Int} {m : Nat} {s : Nat → Bool} {k : Nat} (h : There z seed m s k) : There z seed m (putS s (mixB seed (z.getD k 0)) m) (k + 1) := fun i hi => by
  by_cases e : i = k
  · subst e; exact putS_self _ _ _
  · exact putS_keep _ _ _ _ (h i (by omega))
end Go.Proofs.Ytlmcopenbeammaa
