/-
  What each function of package quota, and each of the document's own answers for it, does when it is called: the quota or number told here; memory has at most new blocks. Condition: the numbers are of the Go type int.
-/
import Derived.Test.YtlmcopenbeammaaRows
import Derived.Test.YtlmcopenbeammaaGenVec
import Derived.WalkSpells
import Derived.WalkLawsBesides
import Derived.BigQuiet
import Derived.Deep.RegionWith
namespace Go.Proofs.Ytlmcopenbeammaa
open Go.RowKit

/-- A number of the Go type int. -/
def I (a : Int) : Prop := -9223372036854775808 ≤ a ∧ a ≤ 9223372036854775807
theorem ret_2 {a b x y : Int} (h : a = x) (k : b = y) : Ending.returned (.tuple #[.int .i64 a, .int .i64 b]) = .returned (.tuple #[.int .i64 x, .int .i64 y]) := by rw [h, k]
theorem ret_q {a b c x y z : Int} (h : a = x) (k : b = y) (l : c = z) : Ending.returned (.agg #[.int .i64 a, .int .i64 b, .int .i64 c]) = .returned (.agg #[.int .i64 x, .int .i64 y, .int .i64 z]) := by rw [h, k, l]
def mid (n l m : Int) : Int := max l (min n m)

theorem clamp_c (n l m : Int) (w : World) :
    Calls Try.prog 38 #[.int .i64 n, .int .i64 l, .int .i64 m] w fun e w' => e = .returned (.int .i64 (mid n l m)) ∧ w' = w := by
  go_enter Try.func38, Try.ntmps38
  go_wp2
  all_goals (go_ret; exact ⟨ret_i (by unfold mid; omega), rfl⟩)
theorem fifth_c (n : Int) (w : World) (h0 : 0 ≤ n) (h1 : n ≤ 9223372036854775807) :
    Calls Try.prog 59 #[.int .i64 n] w fun e w' => e = .returned (.int .i64 (n - n / 5)) ∧ w' = w := by
  go_enter Try.func59, Try.ntmps59
  go_wp2
  go_ret
  exact ⟨ret_i (by omega), rfl⟩

def wh (c : Int) : Int := mid c 0 4611686018427387903
theorem wh_le (c : Int) : 0 ≤ wh c ∧ wh c ≤ 4611686018427387903 := by unfold wh mid; omega

theorem whole_c (c : Int) (w : World) :
    Calls Try.prog 35 #[.int .i64 c] w fun e w' => e = .returned (.int .i64 (wh c)) ∧ w' = w := by
  go_enter Try.func35, Try.ntmps35
  go_wp2_with (go_at_call 38; refine (clamp_c _ _ _ _).mono ?_; rintro e w' ⟨rfl, rfl⟩)
  go_ret
  exact ⟨rfl, rfl⟩

theorem ends_c (c : Int) (w : World) (h0 : 0 ≤ c) (h1 : c ≤ 9223372036854775807) :
    Calls Try.prog 36 #[.int .i64 c] w fun e w' => e = .returned (.tuple #[.int .i64 (min 1 c), .int .i64 (c - c / 5)]) ∧ w' = w := by
  go_enter Try.func36, Try.ntmps36
  go_wp2_with (go_at_call 59; refine (fifth_c _ _ h0 h1).mono ?_; rintro e w' ⟨rfl, rfl⟩)
  all_goals (go_ret2; exact ⟨ret_2 (by omega) rfl, rfl⟩)
theorem infoQ (a b c : Int) : (Try.prog.info? 49).map (·.size) = some (#[Value.int .i64 a, .int .i64 b, .int .i64 c]).size := by kernel_rfl
theorem parted_c (c x : Int) (w : World) (h0 : 0 ≤ c - x) (h1 : c - x ≤ 9223372036854775807) :
    Calls Try.prog 37 #[.int .i64 c, .int .i64 x] w fun e w' => e = .returned (.agg #[.int .i64 c, .int .i64 x, .int .i64 (c - x - (c - x) / 5)]) ∧ w' = w.alloc (.cells #[.int .i64 c, .int .i64 x, .int .i64 (c - x - (c - x) / 5)] 49) := by
  go_enter Try.func37, Try.ntmps37
  go_wp2_with (go_at_call 59; refine (fifth_c _ _ h0 h1).mono ?_; rintro e w' ⟨rfl, rfl⟩)
  exact bodyPost_ret (v := .agg #[.int .i64 c, .int .i64 x, .int .i64 (c - x - (c - x) / 5)]) (results_cell_row Try.results37 _ _ w.heap.size 49 _ (0, 0) _ rfl (heap_alloc_new _ _) Try.underlying49 rfl (infoQ _ _ _)) rfl ⟨rfl, rfl⟩
/-- The window of a capacity, and the window that may weigh by more; the protected row's quota. -/
def wo (c : Int) : Int := mid (wh c / 100) (min 1 (wh c)) (wh c - wh c / 5)
def ws (c x y : Int) : Int := mid (mid x (min 1 (wh c)) (wh c - wh c / 5) + y) (min 1 (wh c)) (wh c - wh c / 5)
def pr (c x : Int) : Int := c - x - (c - x) / 5

theorem of_c (c : Int) (w : World) :
    Calls Try.prog 19 #[.int .i64 c] w fun e w' => e = .returned (.agg #[.int .i64 (wh c), .int .i64 (wo c), .int .i64 (pr (wh c) (wo c))]) ∧ Grown w w' := by
  have hc := wh_le c
  obtain ⟨C, hC⟩ : ∃ C, C = wh c := ⟨_, rfl⟩
  obtain ⟨X, hX⟩ : ∃ X, X = mid (C / 100) (min 1 C) (C - C / 5) := ⟨_, rfl⟩
  have hx : wo c = X := by rw [hX, hC]; rfl
  have h0 : 0 ≤ C - X := by rw [hX]; unfold mid; omega
  have h1 : C - X ≤ 9223372036854775807 := by rw [hX]; unfold mid; omega
  have WH := whole_c c (w.alloc (.cells #[.int .i64 0, .int .i64 0, .int .i64 0] 49))
  rw [hx]
  rw [← hC] at hc WH ⊢
  have EN := fun w => ends_c C w (by omega) (by omega)
  have CL := fun w => clamp_c (C / 100) (min 1 C) (C - C / 5) w
  rw [← hX] at CL
  have PA := fun w => parted_c C X w h0 h1
  unfold pr
  obtain ⟨hc0, hc1⟩ := hc
  clear hC hX hx
  go_enter Try.func19, Try.ntmps19
  go_wp2_with (first | (go_at_call 35; refine WH.mono ?_; rintro e w' ⟨rfl, rfl⟩) | (go_at_call 36; refine (EN _).mono ?_; rintro e w' ⟨rfl, rfl⟩) | (go_at_call 38; refine (CL _).mono ?_; rintro e w' ⟨rfl, rfl⟩) | (go_at_call 37; refine (PA _).mono ?_; rintro e w' ⟨rfl, rfl⟩))
  exact bodyPost_ret (v := .agg #[.int .i64 C, .int .i64 X, .int .i64 (C - X - (C - X) / 5)]) (results_cell_row Try.results19 _ _ w.heap.size 49 _ (0, 0) _ rfl (heap2_old _ _ _) Try.underlying49 rfl (infoQ _ _ _)) rfl ⟨rfl, ((Grown.refl _).alloc _ _).alloc _ _⟩

theorem shift_c (c x p y : Int) (w : World) :
    Calls Try.prog 67 #[.agg #[.int .i64 c, .int .i64 x, .int .i64 p], .int .i64 y] w fun e w' => e = .returned (.agg #[.int .i64 (wh c), .int .i64 (ws c x y), .int .i64 (pr (wh c) (ws c x y))]) ∧ Grown w w' := by
  have hc := wh_le c
  obtain ⟨C, hC⟩ : ∃ C, C = wh c := ⟨_, rfl⟩
  obtain ⟨X, hX⟩ : ∃ X, X = mid x (min 1 C) (C - C / 5) := ⟨_, rfl⟩
  obtain ⟨Y, hY⟩ : ∃ Y, Y = mid y (min 1 C - X) (C - C / 5 - X) := ⟨_, rfl⟩
  rw [← hC] at hc
  have hx : ws c x y = X + Y := by rw [hY, hX, hC]; unfold ws mid; omega
  have hX0 : min 1 C ≤ X := by rw [hX]; unfold mid; omega
  have hX1 : X ≤ C - C / 5 := by rw [hX]; unfold mid; omega
  have h0 : 0 ≤ C - (X + Y) := by rw [hY]; unfold mid; omega
  have h1 : C - (X + Y) ≤ 9223372036854775807 := by rw [hY]; unfold mid; omega
  have h2 : 0 ≤ X + Y := by rw [hY]; unfold mid; omega
  have WH := fun w => whole_c c w
  rw [hx]
  rw [← hC] at WH ⊢
  have EN := fun w => ends_c C w (by omega) (by omega)
  have e1 := hX.symm
  have e2 := hY.symm
  have PA := fun w => parted_c C (X + Y) w h0 h1
  unfold pr
  obtain ⟨hc0, hc1⟩ := hc
  clear hC hX hx hY
  go_enter Try.func67, Try.ntmps67
  go_wp2_with (first | (go_at_call 35; refine (WH _).mono ?_; rintro e w' ⟨rfl, rfl⟩) | (go_at_call 36; refine (EN _).mono ?_; rintro e w' ⟨rfl, rfl⟩) | (go_at_call 38; refine (clamp_c _ _ _ _).mono ?_; rintro e w' ⟨rfl, rfl⟩; first | rw [e1] | rw [e2]) | (go_at_call 37; refine (PA _).mono ?_; rintro e w' ⟨rfl, rfl⟩))
  exact bodyPost_ret (v := .agg #[.int .i64 C, .int .i64 (X + Y), .int .i64 (C - (X + Y) - (C - (X + Y)) / 5)]) (results_cell_row Try.results67 _ _ (w.heap.size + 1) 49 _ (0, 0) _ rfl (by have h := heap2_old (w.alloc (.cells #[.int .i64 c, .int .i64 x, .int .i64 p] 49)) (.cells #[.int .i64 C, .int .i64 (X + Y), .int .i64 (C - (X + Y) - (C - (X + Y)) / 5)] 49) (.cells #[.int .i64 C, .int .i64 (X + Y), .int .i64 (C - (X + Y) - (C - (X + Y)) / 5)] 49); simpa using h) Try.underlying49 rfl (infoQ _ _ _)) rfl ⟨rfl, (((Grown.refl _).alloc _ _).alloc _ _).alloc _ _⟩

theorem eqQ (a b c x y z : Int) (w : World) : (Op.equalIn 10000 49 (.agg #[.int .i64 a, .int .i64 b, .int .i64 c]) (.agg #[.int .i64 x, .int .i64 y, .int .i64 z])).run Try.prog w = .ok (a == x && b == y && c == z) w := by
  have u3 := Try.underlying3
  have a3 := Try.isAgg3
  have z3 := Try.sizeOf3
  rw [show (10000 : Nat) = 9999 + 1 from rfl, Op.equalIn]
  simp only [Sem.run_bind, run_underlying Try.underlying49, Result.andThen_ok]
  go_simp
  by_cases h : a = x <;> by_cases k : b = y <;> by_cases l : c = z <;> simp [h, k, l]

end Go.Proofs.Ytlmcopenbeammaa

/-
  What Right and Main of package quota, and the statements' own small case, do when they are called: memory has at most new blocks. Condition: the numbers are of the Go type int.
-/
namespace Go.Proofs.Ytlmcopenbeammaa
open Go.RowKit

theorem guardQ : Try.prog.eqGuardType Try.prog.depth 49 = false := by kernel_rfl
/-- Is that quota parted as Of and Shift part? -/
def ri (c x p : Int) : Bool := c == wh c && x == ws c x 0 && p == pr (wh c) (ws c x 0)

/-- Block b holds that quota. -/
def Qb (w : World) (b : Nat) (c x p : Int) : Prop := w.heap[b]? = some (.cells #[.int .i64 c, .int .i64 x, .int .i64 p] 49 (0, 0))
theorem Qb.lt {w : World} {b : Nat} {c x p : Int} (h : Qb w b c x p) : b < w.heap.size := by
  unfold Qb at h
  apply Decidable.byContradiction; intro hb
  rw [Array.getElem?_eq_none (by omega)] at h; cases h
theorem Qb.grown {w w' : World} {b : Nat} {c x p : Int} (h : Qb w b c x p) (g : Grown w w') : Qb w' b c x p := (grown_block g h.lt).trans h
theorem Qb.new (w : World) (c x p : Int) : Qb (w.alloc (.cells #[.int .i64 c, .int .i64 x, .int .i64 p] 49)) w.heap.size c x p := heap_alloc_new _ _
theorem Qb.cells {w : World} {b : Nat} {c x p : Int} (h : Qb w b c x p) : w.cell? ⟨b, 0, none⟩ = some (.int .i64 c) ∧ w.cell? ⟨b, 1, none⟩ = some (.int .i64 x) ∧ w.cell? ⟨b, 2, none⟩ = some (.int .i64 p) := by
  unfold Qb at h
  simp [World.cell?, h]

/-- What all but the window may weigh. -/
def ma (c x p : Int) : Int := if ri c x p = true then c - x else 0
end Go.Proofs.Ytlmcopenbeammaa

/-
  What follows of windows and of the protected row's quotas (mathematics alone), and of quotas that Of and Shift tell. Condition: the numbers are of the Go type int.
-/
namespace Go.Proofs.Ytlmcopenbeammaa
open Go.RowKit

theorem wh_wh (c : Int) : wh (wh c) = wh c := by unfold wh mid; omega
theorem ws_le (c x y : Int) : min 1 (wh c) ≤ ws c x y ∧ ws c x y ≤ wh c - wh c / 5 := by
  have h := wh_le c
  unfold ws mid; omega
theorem wo_le (c : Int) : min 1 (wh c) ≤ wo c ∧ wo c ≤ wh c - wh c / 5 := by
  have h := wh_le c
  unfold wo mid; omega
/-- A window within the ends, and by more. -/
theorem ws_in {C x : Int} (y : Int) (h : wh C = C) (h0 : min 1 C ≤ x) (h1 : x ≤ C - C / 5) : ws C x y = mid (x + y) (min 1 C) (C - C / 5) := by
  unfold ws; rw [h]; unfold mid; omega
/-- Such a quota is right. -/
theorem ri_in {C x : Int} (h : wh C = C) (h0 : min 1 C ≤ x) (h1 : x ≤ C - C / 5) : ri C x (pr C x) = true := by
  have e : ws C x 0 = x := by rw [ws_in 0 h h0 h1]; unfold mid; omega
  unfold ri
  rw [e, h]; simp
/-- Shift of a quota whose capacity is clamped. -/
theorem shift_in {C : Int} (h : wh C = C) (x p y : Int) (w : World) :
    Calls Try.prog 67 #[.agg #[.int .i64 C, .int .i64 x, .int .i64 p], .int .i64 y] w fun e w' => e = .returned (.agg #[.int .i64 C, .int .i64 (ws C x y), .int .i64 (pr C (ws C x y))]) ∧ Grown w w' := by
  have k := shift_c C x p y w
  rw [h] at k
  exact k
/-- A right quota's numbers. -/
theorem ri_le {c x p : Int} (h : ri c x p = true) : 0 ≤ c - x ∧ c - x ≤ 4611686018427387903 ∧ 0 ≤ c ∧ 0 ≤ x := by
  unfold ri at h
  simp only [Bool.and_eq_true, beq_iff_eq] at h
  have h1 := h.1.1; have h2 := h.1.2
  have h3 := wh_le c
  unfold ws at h2
  rw [← h1] at h2 h3
  unfold mid at h2
  omega
end Go.Proofs.Ytlmcopenbeammaa
