/-
  What Right and Main of package quota, and the statements' own small case, do when they are called: memory has at most new blocks. Condition: the numbers are of the Go type int.
-/
import Derived.Test.YteblhnpijjddcaaQtWalks
import Derived.Deep.RegionWith
namespace Go.Proofs.Yteblhnpijjddcaa
open Go.RowKit

theorem guardQ : Try.prog.eqGuardType Try.prog.depth 23 = false := by kernel_rfl
/-- Is that quota parted as Of and Shift part? -/
def ri (c x p : Int) : Bool := c == wh c && x == ws c x 0 && p == pr (wh c) (ws c x 0)

/-- Block b holds that quota. -/
def Qb (w : World) (b : Nat) (c x p : Int) : Prop := w.heap[b]? = some (.cells #[.int .i64 c, .int .i64 x, .int .i64 p] 23 (0, 0))
theorem Qb.lt {w : World} {b : Nat} {c x p : Int} (h : Qb w b c x p) : b < w.heap.size := by
  unfold Qb at h
  apply Decidable.byContradiction; intro hb
  rw [Array.getElem?_eq_none (by omega)] at h; cases h
theorem Qb.grown {w w' : World} {b : Nat} {c x p : Int} (h : Qb w b c x p) (g : Grown w w') : Qb w' b c x p := (grown_block g h.lt).trans h
theorem Qb.new (w : World) (c x p : Int) : Qb (w.alloc (.cells #[.int .i64 c, .int .i64 x, .int .i64 p] 23)) w.heap.size c x p := heap_alloc_new _ _
theorem Qb.cells {w : World} {b : Nat} {c x p : Int} (h : Qb w b c x p) : w.cell? ⟨b, 0, none⟩ = some (.int .i64 c) ∧ w.cell? ⟨b, 1, none⟩ = some (.int .i64 x) ∧ w.cell? ⟨b, 2, none⟩ = some (.int .i64 p) := by
  unfold Qb at h
  simp [World.cell?, h]

theorem right_c (c x p : Int) (w : World) :
    Calls Try.prog 12 #[.agg #[.int .i64 c, .int .i64 x, .int .i64 p]] w fun e w' => e = .returned (.bool (ri c x p)) ∧ Grown w w' := by
  have SH := fun w => shift_c c x p 0 w
  have he := eqQ c x p (wh c) (ws c x 0) (pr (wh c) (ws c x 0))
  have gq := guardQ
  obtain ⟨C, hC⟩ : ∃ C, C = wh c := ⟨_, rfl⟩
  obtain ⟨X, hX⟩ : ∃ X, X = ws c x 0 := ⟨_, rfl⟩
  obtain ⟨R, hR⟩ : ∃ R, R = pr C X := ⟨_, rfl⟩
  unfold ri
  rw [← hC, ← hX, ← hR] at he ⊢
  simp only [← hC, ← hX, ← hR] at SH
  obtain ⟨b, hb⟩ : ∃ b, b = (c == C && x == X && p == R) := ⟨_, rfl⟩
  rw [← hb] at he ⊢
  clear hC hX hR hb
  have CE : ∀ w', Grown (w.alloc (.cells #[.int .i64 c, .int .i64 x, .int .i64 p] 23)) w' → w'.cell? ⟨w.heap.size, 0, none⟩ = some (.int .i64 c) ∧ w'.cell? ⟨w.heap.size, 1, none⟩ = some (.int .i64 x) ∧ w'.cell? ⟨w.heap.size, 2, none⟩ = some (.int .i64 p) := fun w' g => ((Qb.new w c x p).grown g).cells
  go_enter Try.func12, Try.ntmps12
  go_wp2
  go_region_with (go_at_call 11; refine (SH _).mono ?_; rintro e w' ⟨rfl, g1⟩; obtain ⟨c0, c1, c2⟩ := CE _ g1)
  all_goals (go_wp2; go_ret; exact ⟨rfl, grownTrans ((Grown.refl _).alloc _ _) g1⟩)

/-- What all but the window may weigh. -/
def ma (c x p : Int) : Int := if ri c x p = true then c - x else 0
theorem main_c (c x p : Int) (w : World) :
    Calls Try.prog 13 #[.agg #[.int .i64 c, .int .i64 x, .int .i64 p]] w fun e w' => e = .returned (.int .i64 (ma c x p)) ∧ Grown w w' := by
  have RI := fun w => right_c c x p w
  have CE : ∀ w', Grown (w.alloc (.cells #[.int .i64 c, .int .i64 x, .int .i64 p] 23)) w' → w'.cell? ⟨w.heap.size, 0, none⟩ = some (.int .i64 c) ∧ w'.cell? ⟨w.heap.size, 1, none⟩ = some (.int .i64 x) ∧ w'.cell? ⟨w.heap.size, 2, none⟩ = some (.int .i64 p) := fun w' g => ((Qb.new w c x p).grown g).cells
  unfold ma
  cases hr : ri c x p with
  | true =>
    rw [if_pos rfl]
    rw [hr] at RI
    have hb : 0 ≤ c - x ∧ c - x ≤ 4611686018427387903 ∧ 0 ≤ c ∧ 0 ≤ x := by
      unfold ri at hr
      simp only [Bool.and_eq_true, beq_iff_eq] at hr
      have h1 := hr.1.1; have h2 := hr.1.2
      have h3 := wh_le c
      unfold ws at h2
      rw [← h1] at h2 h3
      unfold mid at h2
      omega
    obtain ⟨b0, b1, b2, b3⟩ := hb
    clear hr
    go_enter Try.func13, Try.ntmps13
    go_wp2_with (go_at_call 12; refine (RI _).mono ?_; rintro e w' ⟨rfl, g1⟩; obtain ⟨c0, c1, c2⟩ := CE _ g1)
    go_ret
    exact ⟨rfl, grownTrans ((Grown.refl _).alloc _ _) g1⟩
  | false =>
    rw [if_neg (by decide)]
    rw [hr] at RI
    clear hr
    go_enter Try.func13, Try.ntmps13
    go_wp2_with (go_at_call 12; refine (RI _).mono ?_; rintro e w' ⟨rfl, g1⟩; obtain ⟨c0, c1, c2⟩ := CE _ g1)
    go_ret
    exact ⟨rfl, grownTrans ((Grown.refl _).alloc _ _) g1⟩
end Go.Proofs.Yteblhnpijjddcaa
