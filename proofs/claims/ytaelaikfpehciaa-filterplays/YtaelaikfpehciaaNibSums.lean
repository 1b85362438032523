/-
  What Sum, Odd and Halve of package nibble, and the document's own answers, do when they are called: they return what is told here; memory has at most new blocks. No condition but that the numbers are of their Go types.
-/
import Derived.Test.YtaelaikfpehciaaNibRows
namespace Go.Proofs.Ytaelaikfpehciaa
open Go.RowKit

theorem all_grown (x : BitVec 64) (w : World) :
    Calls Try.prog 60 #[.int .u64 (U x)] w fun e w' => e = .returned (.agg (row (gI x))) ∧ Grown w w' :=
  (all_any x w).mono fun _ _ ⟨he, hw⟩ => ⟨he, by rw [hw]; exact ((Grown.refl _).alloc _ _).alloc _ _⟩
theorem halve_any (x : BitVec 64) (w : World) :
    Calls Try.prog 51 #[.int .u64 (U x)] w fun e w' => e = .returned (.int .u64 (U (halveB x))) ∧ Grown w w' := by
  go_enter Try.func51, Try.ntmps51
  go_wp2_with (first | (go_at_call 60; refine (all_grown _ _).mono ?_; rintro e w1 ⟨rfl, hg1⟩) | (refine wpList_store_row rfl 83 _ _ rfl w1.heap.size _ rfl rfl 83 _ (heap_alloc_last _ _) (infoRow _) rfl (rowOne _) ?_; rw [World.setRow_alloc_new]))
  go_loopw [0, 7] (fun s i wr => ∃ k m : Nat, k ≤ 16 ∧ i = .int .i64 k ∧ s = .int .u64 (U (hvB x k)) ∧ wr = (w1.alloc (.cells (row (gI x)) 83)).drewN m) (fun _ i _ => 16 - (intOf i).toNat)
  case atStart => exact ⟨0, 0, by omega, rfl, rfl, rfl⟩
  case round =>
    obtain ⟨k, m, hk, rfl, rfl, rfl⟩ := hrel
    have hv := gI_bd x k
    by_cases hlt : k < 16
    · have hg := row_get (gI x) k hlt
      go_wp2_with (go_at_call 59; refine (set_any _ _ _ _).mono ?_; rintro e w' ⟨rfl, m', hw⟩; have hw := hw.symm; subst hw)
      go_roundw
      case rel => exact ⟨k + 1, m + m', by omega, by go_num, rfl, by simp⟩
      case measure => simp [intOf]; omega
    · obtain rfl : k = 16 := by omega
      go_wp2
      go_ret
      exact ⟨rfl, grownDrewN (hg1.alloc _ _) _⟩

theorem pack_step (l : Nat → Nat) (j : Nat) (hj : j < 16) : (packN l (15 - j) : Int) * 16 + (l j : Int) = (packN l (16 - j) : Int) := by
  have e : 16 - j = (15 - j) + 1 := by omega
  rw [e, packN, show 15 - (15 - j) = j by omega]; push_cast; rfl
theorem pack_bd (l : Nat → Nat) (hl : ∀ i, i < 16 → l i < 16) (j : Nat) : (packN l (15 - j) : Int) < 1152921504606846976 := by
  have h := packN_lt l hl (15 - j) (by omega)
  have h2 : 16 ^ (15 - j) ≤ 16 ^ 15 := Nat.pow_le_pow_right (by decide) (by omega)
  have h3 : (16 : Nat) ^ 15 = 1152921504606846976 := by decide
  omega
theorem hK_step (x : BitVec 64) (k j : Nat) : hK x (k + 1) j = if j = k then gI x k / 2 else hK x k j := by
  unfold hK
  by_cases e : j = k
  · subst e; rw [if_pos (by omega), if_pos rfl]
  · rw [if_neg e]
    by_cases h : j < k
    · rw [if_pos h, if_pos (by omega)]
    · rw [if_neg h, if_neg (by omega)]
theorem hK_here (x : BitVec 64) (k : Nat) : hK x k k = gI x k := by unfold hK; rw [if_neg (by omega)]

end Go.Proofs.Ytaelaikfpehciaa
