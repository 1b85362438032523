/-
  Rows of the statements' own events. No condition.
-/
import Derived.Test.YtigmjgmkeoineaaDoorWbSep
namespace Go.Proofs.YtigmjgmkeoineaaDoor.Wb
open Go.RowKit Go.Deep Us

/-- The events of the first k numbers. -/
def evs (k : Nat) : List Ev := (List.range k).map fun i : Nat => ev (i : Int)
theorem evs_len (k : Nat) : (evs k).length = k := by simp [evs]
theorem evs_succ (k : Nat) : evs (k + 1) = evs k ++ [ev (k : Int)] := by simp [evs, List.range_succ]
/-- The events of the first k weights. -/
def wv (z : List Int) (k : Nat) : List Ev := (List.range k).map fun i : Nat => ⟨1, (i : Int) + 1, 0, z.getD i 0⟩
theorem wv_len (z : List Int) (k : Nat) : (wv z k).length = k := by simp [wv]
theorem wv_succ (z : List Int) (k : Nat) : wv z (k + 1) = wv z k ++ [⟨1, (k : Int) + 1, 0, z.getD k 0⟩] := by simp [wv, List.range_succ]
theorem wv_get (z : List Int) {k n : Nat} (h : k < n) : (wv z n).getD k e0 = ⟨1, (k : Int) + 1, 0, z.getD k 0⟩ := by simp [wv, List.getD_eq_getElem?_getD, h]
theorem drop_first {α : Type} (l : List α) (k : Nat) (d : α) : (l.drop k).getD 0 d = l.getD k d := by simp [List.getD_eq_getElem?_getD, List.getElem?_drop]
theorem wv_take (z : List Int) {k n : Nat} (h : k < n) : ((wv z n).drop k).getD 0 e0 = ⟨1, (k : Int) + 1, 0, z.getD k 0⟩ := by rw [drop_first, wv_get z h]
/-- What the events from m on count for. -/
def sumF (z : List Int) (m k : Nat) : Int := wsum ((wv z k).drop m)
theorem sumF_zero (z : List Int) (m : Nat) : sumF z m m = 0 := by
  unfold sumF
  rw [List.drop_eq_nil_of_le (by rw [wv_len]; exact Nat.le_refl _)]
  rfl
theorem sumF_succ (z : List Int) {m k : Nat} (h : m ≤ k) : sumF z m (k + 1) = sumF z m k + min (max (z.getD k 0) 0) 2147483648 := by
  unfold sumF
  rw [wv_succ, List.drop_append_of_le_length (by rw [wv_len]; exact h), wsum_push]
  rfl
theorem sumF_bd (z : List Int) (m k : Nat) : 0 ≤ sumF z m k ∧ sumF z m k ≤ 2147483648 * (k : Int) := by
  have h1 := wsum_bd ((wv z k).drop m)
  rw [List.length_drop, wv_len] at h1
  unfold sumF
  omega
/-- What a number's last two bits are. -/
theorem and3_mod (n : Int) : bits .and .i64 n 3 = n % 4 := by
  have g : bits .and .i64 n 3 = IntKind.i64.wrap ((BitVec.ofInt 64 n &&& 3#64).toNat : Int) := rfl
  have h1 : (BitVec.ofInt 64 n &&& 3#64).toNat = (n % 4).toNat := by
    rw [BitVec.toNat_and, show (3#64).toNat = 2 ^ 2 - 1 from rfl, Nat.and_two_pow_sub_one_eq_mod, BitVec.toNat_ofInt]
    omega
  rw [g, h1, IntKind.wrap_i64]
  omega
theorem and3 (n : Int) : bits .and .i64 n 3 = 0 ∨ bits .and .i64 n 3 = 1 ∨ bits .and .i64 n 3 = 2 ∨ bits .and .i64 n 3 = 3 := by rw [and3_mod]; omega
end Go.Proofs.YtigmjgmkeoineaaDoor.Wb
