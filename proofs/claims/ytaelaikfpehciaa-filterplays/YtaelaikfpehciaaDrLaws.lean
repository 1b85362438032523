/-
  Laws over a door's keys: counts of bits, bits of many keys, two doors in memory.
-/
import Derived.Test.YtaelaikfpehciaaDrAbs
namespace Go.Proofs.Ytaelaikfpehciaa
open Go.RowKit Go.Deep

theorem cn_pos (s : Nat → Bool) (p n : Nat) (hp : p < n) (h : s p = true) : 1 ≤ cn s n := by
  induction n with
  | zero => omega
  | succ n ih =>
    rw [cn]
    by_cases e : p = n
    · subst e; rw [h]; show 1 ≤ _ + 1; omega
    · have := ih (by omega); omega
theorem cn_put_pos (s : Nat → Bool) (x : BitVec 64) (m : Nat) (h1 : 1 ≤ m) : 1 ≤ cn (putS s x m) (64 * m) :=
  cn_pos _ (Q x 0 m) _ (Q_lt x 0 m h1) (by unfold putS; simp)
/-- Sizes are powers of two. -/
theorem size_pow (m : Nat) (h1 : 2 ≤ m) (h2 : m ≤ 8192) (hp : isP (64 * (m : Int)) = true) : (bits .and .i64 (64 * (m : Int)) (64 * (m : Int) - 1) == 0) = true := by
  rw [isP_bits _ (by omega) (by omega)]; exact hp

/-! ### bits of many keys -/
/-- Is the place a bit of that key? -/
def kb2 (seed : Int) (m : Nat) (key : Int) (j : Nat) : Prop := j = Q (mixB seed key) 0 m ∨ j = Q (mixB seed key) 1 m
theorem putS_iff (s : Nat → Bool) (seed key : Int) (m j : Nat) : putS s (mixB seed key) m j = true ↔ s j = true ∨ kb2 seed m key j := by
  unfold putS kb2; simp [or_assoc]
/-- The bits are those of the first k keys. -/
def UpTo (z : List Int) (seed : Int) (m : Nat) (s : Nat → Bool) (k : Nat) : Prop := ∀ j, s j = true ↔ ∃ i, i < k ∧ kb2 seed m (z.getD i 0) j
/-- The bits are those of the keys from k on, and of the first, if there are any. -/
def From (z : List Int) (seed : Int) (m len : Nat) (s : Nat → Bool) (k : Nat) : Prop := ∀ j, s j = true ↔ (∃ i, k ≤ i ∧ i < len ∧ kb2 seed m (z.getD i 0) j) ∨ (k < len ∧ kb2 seed m (z.getD 0 0) j)
theorem upTo_zero (z : List Int) (seed : Int) (m : Nat) : UpTo z seed m noS 0 := fun j => ⟨fun h => (by cases h), fun ⟨i, hi, _⟩ => by omega⟩
theorem upTo_next {z : List Int} {seed : Int} {m : Nat} {s : Nat → Bool} {k : Nat} (h : UpTo z seed m s k) : UpTo z seed m (putS s (mixB seed (z.getD k 0)) m) (k + 1) := fun j => by
  rw [putS_iff, h j]
  constructor
  · rintro (⟨i, hi, hb⟩ | hb)
    · exact ⟨i, by omega, hb⟩
    · exact ⟨k, by omega, hb⟩
  · rintro ⟨i, hi, hb⟩
    by_cases e : i = k
    · subst e; exact Or.inr hb
    · exact Or.inl ⟨i, by omega, hb⟩
theorem from_none (z : List Int) (seed : Int) (m len : Nat) : From z seed m len noS len := fun j => ⟨fun h => (by cases h), fun h => by rcases h with ⟨i, h1, h2, _⟩ | ⟨h, _⟩ <;> omega⟩
theorem from_next {z : List Int} {seed : Int} {m len : Nat} {s : Nat → Bool} {k : Nat} (hk : k < len) (h : From z seed m len s (k + 1)) : From z seed m len (putS (putS s (mixB seed (z.getD k 0)) m) (mixB seed (z.getD 0 0)) m) k := fun j => by
  rw [putS_iff, putS_iff, h j]
  constructor
  · rintro (((⟨i, h1, h2, hb⟩ | ⟨_, hb⟩) | hb) | hb)
    · exact Or.inl ⟨i, by omega, h2, hb⟩
    · exact Or.inr ⟨hk, hb⟩
    · exact Or.inl ⟨k, by omega, hk, hb⟩
    · exact Or.inr ⟨hk, hb⟩
  · rintro (⟨i, h1, h2, hb⟩ | ⟨_, hb⟩)
    · by_cases e : i = k
      · subst e; exact Or.inl (Or.inr hb)
      · exact Or.inl (Or.inl (Or.inl ⟨i, by omega, h2, hb⟩))
    · exact Or.inr hb
theorem same_bits {z : List Int} {seed : Int} {m len : Nat} {s t : Nat → Bool} (h : UpTo z seed m s len) (g : From z seed m len t 0) : s = t := by
  funext j
  rw [Bool.eq_iff_iff, h j, g j]
  constructor
  · rintro ⟨i, hi, hb⟩; exact Or.inl ⟨i, by omega, hi, hb⟩
  · rintro (⟨i, _, hi, hb⟩ | ⟨hi, hb⟩)
    · exact ⟨i, hi, hb⟩
    · exact ⟨0, hi, hb⟩

/-- Two doors, one behind the other. -/
structure Twin (w : World) (bx by_ : Nat) (seed : Int) (m : Nat) (s t : Nat → Bool) : Prop where
  x : Drb w bx seed m s
  y : Drb w by_ seed m t
  apart : bx + 2 ≤ by_
namespace Twin
variable {w w' : World} {bx by_ m : Nat} {seed : Int} {s t s' t' : Nat → Bool}
theorem setX (h : Twin w bx by_ seed m s t) (hx : Drb w' bx seed m s') (o : Off bx 2 w w') : Twin w' bx by_ seed m s' t := ⟨hx, h.y.off o (by have := h.apart; omega), h.apart⟩
theorem setY (h : Twin w bx by_ seed m s t) (hy : Drb w' by_ seed m t') (o : Off by_ 2 w w') : Twin w' bx by_ seed m s t' := ⟨h.x.off o (by have := h.apart; omega), hy, h.apart⟩
theorem grown (h : Twin w bx by_ seed m s t) (g : Grown w w') : Twin w' bx by_ seed m s t := ⟨h.x.grown g, h.y.grown g, h.apart⟩
end Twin
/-- The first k keys are there. -/
def There (z : List Int) (seed : Int) (m : Nat) (s : Nat → Bool) (k : Nat) : Prop := ∀ i, i < k → hasS s (mixB seed (z.getD i 0)) m = true
theorem there_next {z : List Int} {seed : Int} {m : Nat} {s : Nat → Bool} {k : Nat} (h : There z seed m s k) : There z seed m (putS s (mixB seed (z.getD k 0)) m) (k + 1) := fun i hi => by
  by_cases e : i = k
  · subst e; exact putS_self _ _ _
  · exact putS_keep _ _ _ _ (h i (by omega))
end Go.Proofs.Ytaelaikfpehciaa
