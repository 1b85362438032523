/-
  Memory that holds a struct of a seed and a slice, behind the block of the slice's elements; what stores, new blocks and calls that touch other blocks leave of it. No condition but those told at each sentence.
-/
import Derived.Test.YtaelaikfpehciaaGenMem
import Derived.Test.YtaelaikfpehciaaMixWalks
import Derived.Test.YtaelaikfpehciaaMixCeil
import Derived.Test.YtaelaikfpehciaaDrMath
import Derived.Lib.SliceRun
import Derived.BigQuiet
import Derived.Deep.RegionWith
namespace Go.Proofs.Ytaelaikfpehciaa
open Go.RowKit Go.Deep

/-- A struct at block b + 1: a seed, and a slice of all m elements of block b. -/
structure Ow (w : World) (b : Nat) (t e : TypeId) (seed : Int) (m : Nat) (v : Nat → Value) : Prop where
  head : w.heap[b + 1]? = some (.cells #[.int .i64 seed, sl b m] t (0, 0))
  row : w.rowIs b e m v

namespace Ow
variable {w w' : World} {b m : Nat} {t e : TypeId} {seed : Int} {v : Nat → Value}
theorem last (h : Ow w b t e seed m v) : b + 1 < w.heap.size := by
  apply Decidable.byContradiction; intro hc
  have := h.head
  rw [Array.getElem?_eq_none (by omega)] at this
  cases this
theorem cell0 (h : Ow w b t e seed m v) : w.cell? ⟨b + 1, 0, none⟩ = some (.int .i64 seed) := by
  simp only [World.cell?, h.head]; rfl
theorem cell1 (h : Ow w b t e seed m v) : w.cell? ⟨b + 1, 1, none⟩ = some (.slice (some ⟨b, 0, none⟩) m m) := by
  simp only [World.cell?, h.head]; rfl
theorem cellV (h : Ow w b t e seed m v) {k : Nat} (hk : k < m) : w.cell? ⟨b, k, none⟩ = some (v k) := h.row.cell hk
theorem frozenV (h : Ow w b t e seed m v) (k : Nat) : w.frozen? ⟨b, k, none⟩ = false := h.row.frozen k
theorem setV (h : Ow w b t e seed m v) (k : Nat) (u : Value) : Ow (w.setCell ⟨b, k, none⟩ u) b t e seed m (fun l => if l = k then u else v l) :=
  ⟨(blk_setCell_other _ _ _ _ (by show b + 1 ≠ b; omega)).trans h.head, h.row.set k u⟩
theorem congr {v' : Nat → Value} (h : Ow w b t e seed m v) (g : ∀ k, k < m → v k = v' k) : Ow w b t e seed m v' := ⟨h.head, h.row.congr g⟩
theorem off {b' n : Nat} (h : Ow w b t e seed m v) (g : Off b' n w w') (hd : b + 2 ≤ b' ∨ b' + n ≤ b) : Ow w' b t e seed m v :=
  ⟨(g.block (b + 1) h.last (by omega)).trans h.head, h.row.of_block (g.block b (by have := h.last; omega) (by omega))⟩
theorem grown (h : Ow w b t e seed m v) (g : Grown w w') : Ow w' b t e seed m v := h.off (Off.of_grown g 0 0) (by omega)
theorem drewN (h : Ow w b t e seed m v) (n : Nat) : Ow (w.drewN n) b t e seed m v := h.grown (grownDrewN (Grown.refl _) n)
theorem made (w : World) (t e : TypeId) (seed : Int) (m : Nat) (z : Value) :
    Ow ((w.alloc (.cells (madeCells #[z] m) e)).alloc (.cells #[.int .i64 seed, sl w.heap.size m] t)) w.heap.size t e seed m (fun _ => z) := by
  refine ⟨?_, (World.rowIs_made w z m e).alloc _⟩
  have := blk_alloc_new (w.alloc (.cells (madeCells #[z] m) e)) (.cells #[.int .i64 seed, sl w.heap.size m] t)
  rw [nblk_alloc] at this
  exact this
end Ow
theorem off_cell {w w1 : World} {b : Nat} (h : Off b 2 w w1) (k : Nat) (u : Value) : Off b 2 w (w1.setCell ⟨b, k, none⟩ u) :=
  h.setCell (a := ⟨b, k, none⟩) (Nat.le_refl _) (by show b < b + 2; omega) u

/-! ### clear -/
theorem rowIs_wipe {b : Nat} {t : TypeId} {n : Nat} (z : Value) : ∀ (k o : Nat) (w : World) (f : Nat → Value), w.rowIs b t n f → (w.setCells b o (List.replicate k z)).rowIs b t n (fun j => if o ≤ j ∧ j < o + k then z else f j)
  | 0, o, w, f, h => h.congr (fun j _ => by rw [if_neg (by omega)])
  | k + 1, o, w, f, h => by
    have ih := rowIs_wipe z k (o + 1) _ _ (h.set o z)
    refine ih.congr (fun j _ => ?_)
    by_cases h1 : j = o
    · subst h1
      rw [if_neg (by omega), if_pos rfl, if_pos (by omega)]
    · by_cases h2 : o + 1 ≤ j ∧ j < o + 1 + k
      · rw [if_pos h2, if_pos (by omega)]
      · rw [if_neg h2, if_neg h1, if_neg (by omega)]
theorem off_wipe {b : Nat} (z : Value) : ∀ (k o : Nat) (w w1 : World), Off b 2 w w1 → Off b 2 w (w1.setCells b o (List.replicate k z))
  | 0, _, _, _, h => h
  | k + 1, o, w, _, h => off_wipe z k (o + 1) w _ (off_cell h o z)
theorem head_wipe {b : Nat} (z : Value) : ∀ (k o : Nat) (w : World), (w.setCells b o (List.replicate k z)).heap[b + 1]? = w.heap[b + 1]?
  | 0, _, _ => rfl
  | k + 1, o, w => (head_wipe z k (o + 1) (w.setCell ⟨b, o, none⟩ z)).trans (blk_setCell_other _ _ _ _ (by show b + 1 ≠ b; omega))
theorem Ow.wipe {w : World} {b m : Nat} {t e : TypeId} {seed : Int} {v : Nat → Value} (h : Ow w b t e seed m v) (z : Value) : Ow (w.setCells b 0 (List.replicate m z)) b t e seed m (fun _ => z) :=
  ⟨(head_wipe z m 0 w).trans h.head, (rowIs_wipe z m 0 w v h.row).congr fun j hj => if_pos (by omega)⟩

/-! ### bits -/
/-- Is the bit of that place on? -/
def on (f : Nat → BitVec 64) (p : Nat) : Bool := (f (p / 64)).getLsbD (p % 64)
/-- The words behind that bit is on. -/
def turn (f : Nat → BitVec 64) (p q : Nat) : BitVec 64 := if q = p / 64 then f q ||| 1#64 <<< (p % 64) else f q
theorem bit_one (r i : Nat) (hr : r < 64) (hi : i < 64) : (1#64 <<< r).getLsbD i = decide (i = r) := by
  rw [BitVec.getLsbD_shiftLeft]
  by_cases e : i = r
  · subst e; simp [hi]
  · by_cases h : i < r
    · simp [h, e]
    · have : i - r ≠ 0 := by omega
      simp [h, hi, e, this]
theorem on_turn (f : Nat → BitVec 64) (p j : Nat) : on (turn f p) j = (on f j || decide (j = p)) := by
  unfold on turn
  by_cases e : j / 64 = p / 64
  · rw [if_pos e, BitVec.getLsbD_or, bit_one _ _ (Nat.mod_lt _ (by decide)) (Nat.mod_lt _ (by decide))]
    congr 1
    rw [decide_eq_decide]; omega
  · rw [if_neg e, decide_eq_false (by intro h; exact e (by rw [h])), Bool.or_false]
theorem and_bit (y : BitVec 64) (r : Nat) (hr : r < 64) : (bits .and .u64 (U y) (U (1#64 <<< r)) == 0) = !(y.getLsbD r) := by
  rw [bits_and_U, B_U, B_U]
  have e : (U (y &&& 1#64 <<< r) == 0) = (U (y &&& 1#64 <<< r) == U 0#64) := rfl
  rw [e, U_beq, Bool.eq_iff_iff, beq_iff_eq]
  constructor
  · intro h
    have := congrArg (fun z => z.getLsbD r) h
    simp only [BitVec.getLsbD_and, bit_one r r hr hr, BitVec.getLsbD_zero, decide_true, Bool.and_true] at this
    rw [this]; rfl
  · intro h
    apply BitVec.eq_of_getLsbD_eq
    intro i hi
    rw [BitVec.getLsbD_and, bit_one r i hr hi, BitVec.getLsbD_zero]
    by_cases e : i = r
    · subst e
      cases hy : y.getLsbD i with
      | true => rw [hy] at h; cases h
      | false => rfl
    · rw [decide_eq_false e, Bool.and_false]
theorem or_bit (y : BitVec 64) (r : Nat) : bits .or .u64 (U y) (U (1#64 <<< r)) = U (y ||| 1#64 <<< r) := by rw [bits_or_U, B_U, B_U]

/-! ### counts -/
/-- How many bits of the first k words are on. -/
def onesW (f : Nat → BitVec 64) : Nat → Nat
  | 0 => 0
  | k + 1 => onesW f k + cn (fun i => (f k).getLsbD i) 64
theorem cn_congr {s t : Nat → Bool} (n : Nat) (h : ∀ i, i < n → s i = t i) : cn s n = cn t n := by
  induction n with
  | zero => rfl
  | succ n ih => rw [cn, cn, ih (fun i hi => h i (by omega)), h n (by omega)]
theorem cn_words (f : Nat → BitVec 64) (k : Nat) : onesW f k = cn (on f) (64 * k) := by
  induction k with
  | zero => rfl
  | succ k ih =>
    have go : ∀ t, t ≤ 64 → cn (on f) (64 * k + t) = cn (on f) (64 * k) + cn (fun i => (f k).getLsbD i) t := by
      intro t ht
      induction t with
      | zero => rfl
      | succ t iht =>
        rw [← Nat.add_assoc, cn, iht (by omega), cn]
        have e : on f (64 * k + t) = (f k).getLsbD t := by
          unfold on; rw [show (64 * k + t) / 64 = k by omega, show (64 * k + t) % 64 = t by omega]
        rw [e]; omega
    rw [onesW, ih, show 64 * (k + 1) = 64 * k + 64 by omega, go 64 (by omega)]
theorem cn_le (s : Nat → Bool) (n : Nat) : cn s n ≤ n := by
  induction n with
  | zero => exact Nat.le_refl _
  | succ n ih => rw [cn]; have := Bool.toNat_le (s n); omega
theorem cn_off (n : Nat) : cn (fun _ => false) n = 0 := by
  induction n with
  | zero => rfl
  | succ n ih => rw [cn, ih]; rfl
/-- One bit more, if it was off. -/
theorem cn_or (s : Nat → Bool) (p n : Nat) : cn (fun j => s j || decide (j = p)) n = cn s n + if p < n ∧ s p = false then 1 else 0 := by
  induction n with
  | zero => rfl
  | succ n ih =>
    rw [cn, cn, ih]
    by_cases e : n = p
    · subst e
      rw [if_neg (by omega), decide_eq_true rfl, Bool.or_true]
      cases h : s n with
      | true => rw [if_neg (fun x => by cases x.2)]; rfl
      | false => rw [if_pos ⟨by omega, rfl⟩]; rfl
    · rw [decide_eq_false e, Bool.or_false]
      by_cases g : p < n ∧ s p = false
      · rw [if_pos g, if_pos ⟨by omega, g.2⟩]; omega
      · rw [if_neg g, if_neg (fun x => g ⟨by omega, x.2⟩)]; omega
end Go.Proofs.Ytaelaikfpehciaa
