/-
  What Right and Main of package quota, and the statements' own small case, do when they are called: memory has at most new blocks. Condition: the numbers are of the Go type int.
-/
import Derived.Test.YtimklnecjmklhaaQtWalks
import Derived.Deep.RegionWith
namespace Go.Proofs.Ytimklnecjmklhaa
open Go.RowKit

theorem guardQ : Try.prog.eqGuardType Try.prog.depth 34 = false := by kernel_rfl
/-- Is that quota parted as Of and Shift part? -/
def ri (c x p : Int) : Bool := c == wh c && x == ws c x 0 && p == pr (wh c) (ws c x 0)

/-- Block b holds that quota. -/
def Qb (w : World) (b : Nat) (c x p : Int) : Prop := w.heap[b]? = some (.cells #[.int .i64 c, .int .i64 x, .int .i64 p] 34 (0, 0))
theorem Qb.lt {w : World} {b : Nat} {c x p : Int} (h : Qb w b c x p) : b < w.heap.size := by
  unfold Qb at h
  apply Decidable.byContradiction; intro hb
  rw [Array.getElem?_eq_none (by omega)] at h; cases h
theorem Qb.grown {w w' : World} {b : Nat} {c x p : Int} (h : Qb w b c x p) (g : Grown w w') : Qb w' b c x p := (grown_block g h.lt).trans h
theorem Qb.new (w : World) (c x p : Int) : Qb (w.alloc (.cells #[.int .i64 c, .int .i64 x, .int .i64 p] 34)) w.heap.size c x p := heap_alloc_new _ _
theorem Qb.cells {w : World} {b : Nat} {c x p : Int} (h : Qb w b c x p) : w.cell? ⟨b, 0, none⟩ = some (.int .i64 c) ∧ w.cell? ⟨b, 1, none⟩ = some (.int .i64 x) ∧ w.cell? ⟨b, 2, none⟩ = some (.int .i64 p) := by
  unfold Qb at h
  simp [World.cell?, h]

theorem right_c (c x p : Int) (w : World) :
    Calls Try.prog 21 #[.agg #[.int .i64 c, .int .i64 x, .int .i64 p]] w fun e w' => e = .returned (.bool (ri c x p)) ∧ Grown w w' := by
  have SH := fun w => shift_c c x p 0 w
  have he := eqQ c x p (wh c) (ws c x 0) (pr (wh c) (ws c x 0))
  have gq := guardQ
  obtain ⟨C, hC⟩ : ∃ C, C = wh c := ⟨_, rfl⟩
  obtain ⟨X, hX⟩ : ∃ X, X = ws c x 0 := ⟨_, rfl⟩
  obtain ⟨R, hR⟩ : ∃ R, R = pr C X := ⟨_, rfl⟩
  unfold ri
  rw [← hC, ← hX, ← hR] at he ⊢
  simp only [← hC, ← hX, ← hR] at SH
  obtain ⟨b, hb⟩ : ∃ b, b = (c == C && x == X && p == R) := ⟨_, rfl⟩
  rw [← hb] at he ⊢
  clear hC hX hR hb
  have CE : ∀ w', Grown (w.alloc (.cells #[.int .i64 c, .int .i64 x, .int .i64 p] 34)) w' → w'.cell? ⟨w.heap.size, 0, none⟩ = some (.int .i64 c) ∧ w'.cell? ⟨w.heap.size, 1, none⟩ = some (.int .i64 x) ∧ w'.cell? ⟨w.heap.size, 2, none⟩ = some (.int .i64 p) := fun w' g => ((Qb.new w c x p).grown g).cells
  go_enter Try.func21, Try.ntmps21
  go_wp2
  go_region_with (go_at_call 29; refine (SH _).mono ?_; rintro e w' ⟨rfl, g1⟩; obtain ⟨c0, c1, c2⟩ := CE _ g1)
  all_goals (go_wp2; go_ret; exact ⟨rfl, grownTrans ((Grown.refl _).alloc _ _) g1⟩)

/-- What all but the window may weigh. -/
def ma (c x p : Int) : Int := if ri c x p = true then c - x else 0
end Go.Proofs.Ytimklnecjmklhaa
