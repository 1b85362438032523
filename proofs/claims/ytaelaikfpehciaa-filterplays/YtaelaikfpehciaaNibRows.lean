/-
  What All, Halve, Sum and Odd of package nibble, and the document's own answers, do when they are called. No condition but that the numbers are of their Go types.
-/
import Derived.Test.YtaelaikfpehciaaNibWalks
import Derived.Test.YtaelaikfpehciaaGenMem
import Derived.Deep.WholeRow
namespace Go.Proofs.Ytaelaikfpehciaa
open Go.RowKit

/-- Sixteen numbers, as an array's cells. -/
def row (f : Nat → Int) : Array Value := #[.int .i64 (f 0), .int .i64 (f 1), .int .i64 (f 2), .int .i64 (f 3), .int .i64 (f 4), .int .i64 (f 5), .int .i64 (f 6), .int .i64 (f 7), .int .i64 (f 8), .int .i64 (f 9), .int .i64 (f 10), .int .i64 (f 11), .int .i64 (f 12), .int .i64 (f 13), .int .i64 (f 14), .int .i64 (f 15)]
theorem row_size (f : Nat → Int) : (row f).size = 16 := rfl
theorem row_get (f : Nat → Int) (k : Nat) (h : k < 16) : (row f)[k]? = some (.int .i64 (f k)) := by
  have hk : k = 0 ∨ k = 1 ∨ k = 2 ∨ k = 3 ∨ k = 4 ∨ k = 5 ∨ k = 6 ∨ k = 7 ∨ k = 8 ∨ k = 9 ∨ k = 10 ∨ k = 11 ∨ k = 12 ∨ k = 13 ∨ k = 14 ∨ k = 15 := by omega
  rcases hk with rfl | rfl | rfl | rfl | rfl | rfl | rfl | rfl | rfl | rfl | rfl | rfl | rfl | rfl | rfl | rfl <;> rfl
theorem row_congr {f g : Nat → Int} (h : ∀ k, k < 16 → f k = g k) : row f = row g := by
  unfold row
  rw [h 0 (by decide), h 1 (by decide), h 2 (by decide), h 3 (by decide), h 4 (by decide), h 5 (by decide), h 6 (by decide), h 7 (by decide), h 8 (by decide), h 9 (by decide), h 10 (by decide), h 11 (by decide), h 12 (by decide), h 13 (by decide), h 14 (by decide), h 15 (by decide)]
theorem row_set (f g : Nat → Int) (k : Nat) (n : Int) (hk : k < 16) (h : ∀ j, j < 16 → g j = if j = k then n else f j) : (row f).setIfInBounds k (.int .i64 n) = row g := by
  apply Array.ext_getElem?
  intro j
  rw [Array.getElem?_setIfInBounds]
  by_cases hj : j < 16
  · rw [row_get g j hj, h j hj]
    by_cases e : k = j
    · subst e; rw [if_pos rfl, if_pos (by rw [row_size]; exact hj), if_pos rfl]
    · rw [if_neg e, row_get f j hj, if_neg (by omega)]
  · have e1 : (row g)[j]? = none := Array.getElem?_eq_none (by rw [row_size]; omega)
    have e2 : (row f)[j]? = none := Array.getElem?_eq_none (by rw [row_size]; omega)
    rw [if_neg (by omega), e1, e2]
/-- The first k counters, and zeros. -/
def gK (x : BitVec 64) (k j : Nat) : Int := if j < k then gI x j else 0

theorem gK_step (x : BitVec 64) (k : Nat) (hk : k < 16) (j : Nat) (_hj : j < 16) : gK x (k + 1) j = if j = k then getI x k else gK x k j := by
  unfold gK gI; rw [getI_nat x k hk]
  by_cases e : j = k
  · subst e; rw [if_pos (by omega), if_pos rfl]
  · rw [if_neg e]; by_cases h : j < k
    · rw [if_pos (by omega), if_pos h]
    · rw [if_neg (by omega), if_neg h]
theorem gK_full (x : BitVec 64) : row (gK x 16) = row (gI x) := row_congr fun j hj => by unfold gK; rw [if_pos hj]

theorem infoRow (f : Nat → Int) : (Try.prog.info? 83).map (·.size) = some (row f).size := by rw [row_size]; kernel_rfl
theorem rowOne (f : Nat → Int) : (row f).all (·.oneCell') = true := by kernel_rfl
theorem all_any (x : BitVec 64) (w : World) :
    Calls Try.prog 60 #[.int .u64 (U x)] w fun e w' => e = .returned (.agg (row (gI x))) ∧ w' = (w.alloc (.cells (row (gI x)) 83)).alloc (.cells (row (gI x)) 83) := by
  go_enter Try.func60, Try.ntmps60
  go_wp2
  go_loopw [5] (fun i wr => ∃ k : Nat, k ≤ 16 ∧ i = .int .i64 k ∧ wr = (w.alloc (.cells (row (gK x 0)) 83)).alloc (.cells (row (gK x k)) 83)) (fun i _ => 16 - (intOf i).toNat)
  case atStart => exact ⟨0, by omega, rfl, rfl⟩
  case round =>
    obtain ⟨k, hk, rfl, rfl⟩ := hrel
    by_cases hlt : k < 16
    · have hg := row_get (gK x k) k hlt
      have hs := row_set (gK x k) (gK x (k + 1)) k (getI x k) hlt (gK_step x k hlt)
      go_wp2_with (go_at_call 56; refine (get_any _ _ _).mono ?_; rintro e w' ⟨rfl, hw⟩; have hw := hw.symm; subst hw)
      go_roundw
      case rel => exact ⟨k + 1, by omega, by go_num, rfl⟩
      case measure => simp [intOf]; omega
    · obtain rfl : k = 16 := by omega
      rw [gK_full x]
      go_wp2_with (first | (refine wpList_load_row rfl 83 _ rfl (w.heap.size + 1) rfl 83 _ (0, 0) _ (heap2_new _ _ _) Try.underlying83 rfl (infoRow _) ?_) | (refine wpList_store_row rfl 83 _ _ rfl w.heap.size _ rfl rfl 83 _ (heap2_old _ _ _) (infoRow _) rfl (rowOne _) ?_; rw [setRow_alloc2]))
      exact bodyPost_ret (v := .agg (row (gI x))) (results_cell_row Try.results60 _ _ w.heap.size 83 _ (0, 0) _ rfl (heap2_old _ _ _) Try.underlying83 rfl (infoRow _)) rfl ⟨rfl, rfl⟩

end Go.Proofs.Ytaelaikfpehciaa
