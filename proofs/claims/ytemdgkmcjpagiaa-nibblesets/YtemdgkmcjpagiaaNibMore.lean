/-
  More mathematics of layer 2's counters: what Inc leaves, a word put together again from its counters, a counter that is filled. No condition.
-/
import Derived.Test.YtemdgkmcjpagiaaNibMath
namespace Go.Proofs.Ytemdgkmcjpagiaa

theorem inc_get (x : BitVec 64) (i k : Int) (hk : inC k = true) : getI (incI x i) k = if k = i ∧ incOk x i = true then getI x k + 1 else getI x k := by
  unfold incI
  by_cases ho : incOk x i = true
  · have hl : getI x i < 15 := by unfold incOk at ho; simp at ho; exact ho.2
    have hb := getI_bd x i
    rw [if_pos ho, getI_set _ _ _ _ hk]
    by_cases e : k = i
    · subst e; rw [if_pos rfl, if_pos ⟨rfl, ho⟩, clamp_in _ (by omega) (by omega)]
    · rw [if_neg e, if_neg (fun h => e h.1)]
  · rw [if_neg ho, if_neg (fun h => ho h.2)]
theorem incOk_yes (x : BitVec 64) (i : Int) (h0 : 0 ≤ i) (h1 : i < 16) (h : getI x i < 15) : incOk x i = true := by
  unfold incOk; rw [inC_mk h0 h1, decide_eq_true h]; rfl
theorem incOk_full (x : BitVec 64) (i : Int) (h : 15 ≤ getI x i) : incOk x i = false := by
  unfold incOk; rw [decide_eq_false (by omega), Bool.and_false]
theorem incOk_none (x : BitVec 64) (i : Int) (h : inC i = false) : incOk x i = false := by unfold incOk; rw [h]; rfl
theorem incI_no (x : BitVec 64) (i : Int) (h : incOk x i = false) : incI x i = x := by unfold incI; rw [h]; rfl

/-- The word put together from the first k counters. -/
def upB (x : BitVec 64) : Nat → BitVec 64
  | 0 => 0#64
  | k + 1 => setI (upB x k) k (getI x k)
theorem up_get (x : BitVec 64) (k : Nat) (j : Int) (hj : inC j = true) : getI (upB x k) j = if j < k then getI x j else 0 := by
  have bj := inC_true hj
  induction k with
  | zero => rw [if_neg (by omega)]; unfold getI; rw [if_pos hj]; show ((G 0#64 j.toNat : Nat) : Int) = 0; unfold G; simp
  | succ k ih =>
    have b := getI_bd x k
    rw [upB, getI_set _ _ _ _ hj, ih]
    by_cases e : j = k
    · subst e; rw [if_pos rfl, if_pos (by omega), clamp_in _ (by omega) (by omega)]
    · rw [if_neg e]
      by_cases h : j < k
      · rw [if_pos h, if_pos (by omega)]
      · rw [if_neg h, if_neg (by omega)]
theorem up_full (x : BitVec 64) : upB x 16 = x := by
  apply word_ext; intro j hj
  have bj := inC_true hj
  rw [up_get x 16 j hj, if_pos (by omega)]
end Go.Proofs.Ytemdgkmcjpagiaa
