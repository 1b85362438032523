/-
  Memory that holds a struct with four rows behind it, block by block: the struct's block and its rows' blocks lie one behind the other; what stores, new blocks and calls that touch other blocks leave of it. No condition but those told at each sentence.
-/
import Derived.Test.YtaelaikfpehciaaNibSums
import Derived.Test.YtaelaikfpehciaaMixWalks
import Derived.Test.YtaelaikfpehciaaMixCeil
import Derived.Deep.OwnRows
namespace Go.Proofs.Ytaelaikfpehciaa
open Go.RowKit Go.Deep

/-- A struct at block b whose last field is an array of four slices, all of the blocks behind it. -/
structure Tb (w : World) (b : Nat) (t e : TypeId) (hd : Array Value) (m : Nat) (v : Nat → Nat → Value) : Prop where
  head : w.heap[b]? = some (.cells (hd ++ #[sl (b + 1) m, sl (b + 2) m, sl (b + 3) m, sl (b + 4) m]) t (0, 0))
  row : ∀ i, i < 4 → w.rowIs (b + 1 + i) e m (v i)

namespace Tb
variable {w w' : World} {b m : Nat} {t e : TypeId} {hd : Array Value} {v : Nat → Nat → Value}
theorem last (h : Tb w b t e hd m v) : b + 4 < w.heap.size := by have := (h.row 3 (by omega)).lt; omega
theorem cellH (h : Tb w b t e hd m v) {k : Nat} {u : Value} (hk : hd[k]? = some u) : w.cell? ⟨b, k, none⟩ = some u := by
  obtain ⟨hlt, _⟩ := Array.getElem?_eq_some_iff.1 hk
  simp only [World.cell?, h.head]
  simp only [Option.isSome_none, Bool.false_eq_true, if_false]
  rw [Array.getElem?_append_left hlt]; exact hk
theorem cellR (h : Tb w b t e hd m v) {i : Nat} (hi : i < 4) : w.cell? ⟨b, hd.size + i, none⟩ = some (sl (b + 1 + i) m) := by
  simp only [World.cell?, h.head]
  simp only [Option.isSome_none, Bool.false_eq_true, if_false]
  rw [Array.getElem?_append_right (by omega), Nat.add_sub_cancel_left]
  have hk : i = 0 ∨ i = 1 ∨ i = 2 ∨ i = 3 := by omega
  rcases hk with rfl | rfl | rfl | rfl <;> rfl
theorem frozenH (h : Tb w b t e hd m v) (k : Nat) : w.frozen? ⟨b, k, none⟩ = false := by simp [World.frozen?, h.head]
theorem frozenV (h : Tb w b t e hd m v) {i : Nat} (hi : i < 4) (k : Nat) : w.frozen? ⟨b + 1 + i, k, none⟩ = false := (h.row i hi).frozen k
theorem cellV (h : Tb w b t e hd m v) {i k : Nat} (hi : i < 4) (hk : k < m) : w.cell? ⟨b + 1 + i, k, none⟩ = some (v i k) := (h.row i hi).cell hk
theorem setH (h : Tb w b t e hd m v) {k : Nat} (hk : k < hd.size) (u : Value) : Tb (w.setCell ⟨b, k, none⟩ u) b t e (hd.setIfInBounds k u) m v := by
  refine ⟨?_, fun i hi => (h.row i hi).setOther (by show b + 1 + i ≠ b; omega) u⟩
  simp [World.setCell, Array.getElem?_modify, h.head]
  rw [Array.setIfInBounds_append_left hk]
theorem setV (h : Tb w b t e hd m v) {i k : Nat} (_hi : i < 4) (u : Value) : Tb (w.setCell ⟨b + 1 + i, k, none⟩ u) b t e hd m (fun j l => if j = i ∧ l = k then u else v j l) := by
  refine ⟨(blk_setCell_other _ _ _ _ (by show b ≠ b + 1 + i; omega)).trans h.head, fun j hj => ?_⟩
  by_cases e : j = i
  · subst e
    exact ((h.row j hj).set k u).congr fun l _ => by simp
  · exact ((h.row j hj).setOther (by show b + 1 + j ≠ b + 1 + i; omega) u).congr fun l _ => by simp [e]
theorem congr {v' : Nat → Nat → Value} (h : Tb w b t e hd m v) (g : ∀ i, i < 4 → ∀ k, k < m → v i k = v' i k) : Tb w b t e hd m v' := ⟨h.head, fun i hi => (h.row i hi).congr (g i hi)⟩
theorem off {b' n : Nat} (h : Tb w b t e hd m v) (g : Off b' n w w') (hd' : b + 5 ≤ b' ∨ b' + n ≤ b) : Tb w' b t e hd m v :=
  ⟨(g.block b (by have := h.last; omega) (by omega)).trans h.head, fun i hi => (h.row i hi).of_block (g.block _ (by have := h.last; omega) (by omega))⟩
theorem grown (h : Tb w b t e hd m v) (g : Grown w w') : Tb w' b t e hd m v := h.off (Off.of_grown g 0 0) (by omega)
theorem drewN (h : Tb w b t e hd m v) (n : Nat) : Tb (w.drewN n) b t e hd m v := h.grown (grownDrewN (Grown.refl _) n)
end Tb

/-- The slices of the array's first k places; the others are nil. -/
def slK (b m k i : Nat) : Value := if i < k then sl (b + 1 + i) m else .slice none 0 0
/-- A struct as above that is being made: k of its rows are there. -/
structure TbK (w : World) (b : Nat) (t e : TypeId) (hd : Array Value) (m : Nat) (z : Value) (k : Nat) : Prop where
  head : w.heap[b]? = some (.cells (hd ++ #[slK b m k 0, slK b m k 1, slK b m k 2, slK b m k 3]) t (0, 0))
  row : ∀ i, i < k → w.rowIs (b + 1 + i) e m (fun _ => z)
  size : w.heap.size = b + 1 + k
namespace TbK
variable {w : World} {b m k : Nat} {t e : TypeId} {hd : Array Value} {z : Value}
theorem start (w : World) (t e : TypeId) (hd : Array Value) (m : Nat) (z : Value) :
    TbK (w.alloc (.cells (hd ++ #[.slice none 0 0, .slice none 0 0, .slice none 0 0, .slice none 0 0]) t)) w.heap.size t e hd m z 0 :=
  ⟨blk_alloc_new _ _, fun i hi => by omega, nblk_alloc _ _⟩
theorem frozen (h : TbK w b t e hd m z k) (j : Nat) (o : Obj) : (w.alloc o).frozen? ⟨b, j, none⟩ = false := by
  have : (w.alloc o).heap[b]? = w.heap[b]? := blk_alloc_lt _ _ _ (by have := h.size; omega)
  simp [World.frozen?, this, h.head]
theorem cell (h : TbK w b t e hd m z k) (hk : k < 4) (o : Obj) : (w.alloc o).cell? ⟨b, hd.size + k, none⟩ = some (.slice none 0 0) := by
  have : (w.alloc o).heap[b]? = w.heap[b]? := blk_alloc_lt _ _ _ (by have := h.size; omega)
  simp only [World.cell?, this, h.head]
  simp only [Option.isSome_none, Bool.false_eq_true, if_false]
  rw [Array.getElem?_append_right (by omega), Nat.add_sub_cancel_left]
  have hk : k = 0 ∨ k = 1 ∨ k = 2 ∨ k = 3 := by omega
  rcases hk with rfl | rfl | rfl | rfl <;> rfl
theorem next (h : TbK w b t e hd m z k) (hk : k < 4) : TbK ((w.alloc (.cells (madeCells #[z] m) e)).setCell ⟨b, hd.size + k, none⟩ (sl w.heap.size m)) b t e hd m z (k + 1) := by
  have hs := h.size
  refine ⟨?_, fun i hi => ?_, by rw [nblk_setCell, nblk_alloc]; omega⟩
  · have : (w.alloc (.cells (madeCells #[z] m) e)).heap[b]? = w.heap[b]? := blk_alloc_lt _ _ _ (by omega)
    simp [World.setCell, Array.getElem?_modify, this, h.head]
    rw [hs]
    have hk : k = 0 ∨ k = 1 ∨ k = 2 ∨ k = 3 := by omega
    rcases hk with rfl | rfl | rfl | rfl <;> rfl
  · by_cases e' : i = k
    · subst e'
      have := World.rowIs_made w z m e
      rw [hs] at this
      exact this.setOther (by show b + 1 + i ≠ b; omega) _
    · exact ((h.row i (by omega)).alloc _).setOther (by show b + 1 + i ≠ b; omega) _
theorem full (h : TbK w b t e hd m z 4) : Tb w b t e hd m (fun _ _ => z) := ⟨h.head, fun i hi => h.row i hi⟩
theorem draw (h : TbK w b t e hd m z k) : TbK w.drew b t e hd m z k := ⟨h.head, h.row, h.size⟩
end TbK
end Go.Proofs.Ytaelaikfpehciaa
