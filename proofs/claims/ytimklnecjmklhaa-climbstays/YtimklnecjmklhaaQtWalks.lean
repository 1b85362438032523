/-
  What each function of package quota, and each of the document's own answers for it, does when it is called: the quota or number told here; memory has at most new blocks. Condition: the numbers are of the Go type int.
-/
import Derived.Test.YtimklnecjmklhaaRows
import Derived.Test.YtimklnecjmklhaaGenVec
import Derived.WalkSpells
import Derived.WalkLawsBesides
import Derived.BigQuiet
namespace Go.Proofs.Ytimklnecjmklhaa
open Go.RowKit

/-- A number of the Go type int. -/
def I (a : Int) : Prop := -9223372036854775808 ≤ a ∧ a ≤ 9223372036854775807
theorem ret_2 {a b x y : Int} (h : a = x) (k : b = y) : Ending.returned (.tuple #[.int .i64 a, .int .i64 b]) = .returned (.tuple #[.int .i64 x, .int .i64 y]) := by rw [h, k]
theorem ret_q {a b c x y z : Int} (h : a = x) (k : b = y) (l : c = z) : Ending.returned (.agg #[.int .i64 a, .int .i64 b, .int .i64 c]) = .returned (.agg #[.int .i64 x, .int .i64 y, .int .i64 z]) := by rw [h, k, l]
def mid (n l m : Int) : Int := max l (min n m)

theorem clamp_c (n l m : Int) (w : World) :
    Calls Try.prog 37 #[.int .i64 n, .int .i64 l, .int .i64 m] w fun e w' => e = .returned (.int .i64 (mid n l m)) ∧ w' = w := by
  go_enter Try.func37, Try.ntmps37
  go_wp2
  all_goals (go_ret; exact ⟨ret_i (by unfold mid; omega), rfl⟩)
theorem rclamp_c (n l m : Int) (w : World) :
    Calls Try.prog 38 #[.int .i64 n, .int .i64 l, .int .i64 m] w fun e w' => e = .returned (.int .i64 (min (max n l) m)) ∧ w' = w := by
  go_enter Try.func38, Try.ntmps38
  go_wp2
  all_goals (go_ret; exact ⟨ret_i (by omega), rfl⟩)

theorem fifth_c (n : Int) (w : World) (h0 : 0 ≤ n) (h1 : n ≤ 9223372036854775807) :
    Calls Try.prog 42 #[.int .i64 n] w fun e w' => e = .returned (.int .i64 (n - n / 5)) ∧ w' = w := by
  go_enter Try.func42, Try.ntmps42
  go_wp2
  go_ret
  exact ⟨ret_i (by omega), rfl⟩

def wh (c : Int) : Int := mid c 0 4611686018427387903
theorem wh_le (c : Int) : 0 ≤ wh c ∧ wh c ≤ 4611686018427387903 := by unfold wh mid; omega

theorem whole_c (c : Int) (w : World) :
    Calls Try.prog 34 #[.int .i64 c] w fun e w' => e = .returned (.int .i64 (wh c)) ∧ w' = w := by
  go_enter Try.func34, Try.ntmps34
  go_wp2_with (go_at_call 37; refine (clamp_c _ _ _ _).mono ?_; rintro e w' ⟨rfl, rfl⟩)
  go_ret
  exact ⟨rfl, rfl⟩

theorem ends_c (c : Int) (w : World) (h0 : 0 ≤ c) (h1 : c ≤ 9223372036854775807) :
    Calls Try.prog 35 #[.int .i64 c] w fun e w' => e = .returned (.tuple #[.int .i64 (min 1 c), .int .i64 (c - c / 5)]) ∧ w' = w := by
  go_enter Try.func35, Try.ntmps35
  go_wp2_with (go_at_call 42; refine (fifth_c _ _ h0 h1).mono ?_; rintro e w' ⟨rfl, rfl⟩)
  all_goals (go_ret2; exact ⟨ret_2 (by omega) rfl, rfl⟩)
theorem rends_c (c : Int) (w : World) (h0 : 0 ≤ c) (h1 : c ≤ 9223372036854775807) :
    Calls Try.prog 39 #[.int .i64 c] w fun e w' => e = .returned (.tuple #[.int .i64 (min 1 c), .int .i64 (c - c / 5)]) ∧ w' = w := by
  by_cases hc : c = 0
  · subst hc
    go_enter Try.func39, Try.ntmps39
    go_wp2
    go_ret2
    exact ⟨rfl, rfl⟩
  · have h2 : min 1 c = 1 := by omega
    rw [h2]
    go_enter Try.func39, Try.ntmps39
    go_wp2
    go_ret2
    exact ⟨rfl, rfl⟩

theorem infoQ (a b c : Int) : (Try.prog.info? 34).map (·.size) = some (#[Value.int .i64 a, .int .i64 b, .int .i64 c]).size := by kernel_rfl
theorem parted_c (c x : Int) (w : World) (h0 : 0 ≤ c - x) (h1 : c - x ≤ 9223372036854775807) :
    Calls Try.prog 36 #[.int .i64 c, .int .i64 x] w fun e w' => e = .returned (.agg #[.int .i64 c, .int .i64 x, .int .i64 (c - x - (c - x) / 5)]) ∧ w' = w.alloc (.cells #[.int .i64 c, .int .i64 x, .int .i64 (c - x - (c - x) / 5)] 34) := by
  go_enter Try.func36, Try.ntmps36
  go_wp2_with (go_at_call 42; refine (fifth_c _ _ h0 h1).mono ?_; rintro e w' ⟨rfl, rfl⟩)
  exact bodyPost_ret (v := .agg #[.int .i64 c, .int .i64 x, .int .i64 (c - x - (c - x) / 5)]) (results_cell_row Try.results36 _ _ w.heap.size 34 _ (0, 0) _ rfl (heap_alloc_new _ _) Try.underlying34 rfl (infoQ _ _ _)) rfl ⟨rfl, rfl⟩
theorem rwhole_c (c x : Int) (w : World) (h0 : 0 ≤ c - x) (h1 : c - x ≤ 9223372036854775807) :
    Calls Try.prog 40 #[.int .i64 c, .int .i64 x] w fun e w' => e = .returned (.agg #[.int .i64 c, .int .i64 x, .int .i64 (c - x - (c - x) / 5)]) ∧ w' = w.alloc (.cells #[.int .i64 c, .int .i64 x, .int .i64 (c - x - (c - x) / 5)] 34) := by
  go_enter Try.func40, Try.ntmps40
  go_wp2
  exact bodyPost_ret (v := .agg #[.int .i64 c, .int .i64 x, .int .i64 (c - x - (c - x) / 5)]) (results_cell_row Try.results40 _ _ w.heap.size 34 _ (0, 0) _ rfl (heap_alloc_new _ _) Try.underlying34 rfl (infoQ _ _ _)) rfl ⟨rfl, rfl⟩

/-- The window of a capacity, and the window that may weigh by more; the protected row's quota. -/
def wo (c : Int) : Int := mid (wh c / 100) (min 1 (wh c)) (wh c - wh c / 5)
def ws (c x y : Int) : Int := mid (mid x (min 1 (wh c)) (wh c - wh c / 5) + y) (min 1 (wh c)) (wh c - wh c / 5)
def pr (c x : Int) : Int := c - x - (c - x) / 5

theorem of_c (c : Int) (w : World) :
    Calls Try.prog 28 #[.int .i64 c] w fun e w' => e = .returned (.agg #[.int .i64 (wh c), .int .i64 (wo c), .int .i64 (pr (wh c) (wo c))]) ∧ Grown w w' := by
  have hc := wh_le c
  obtain ⟨C, hC⟩ : ∃ C, C = wh c := ⟨_, rfl⟩
  obtain ⟨X, hX⟩ : ∃ X, X = mid (C / 100) (min 1 C) (C - C / 5) := ⟨_, rfl⟩
  have hx : wo c = X := by rw [hX, hC]; rfl
  have h0 : 0 ≤ C - X := by rw [hX]; unfold mid; omega
  have h1 : C - X ≤ 9223372036854775807 := by rw [hX]; unfold mid; omega
  have WH := whole_c c (w.alloc (.cells #[.int .i64 0, .int .i64 0, .int .i64 0] 34))
  rw [hx]
  rw [← hC] at hc WH ⊢
  have EN := fun w => ends_c C w (by omega) (by omega)
  have CL := fun w => clamp_c (C / 100) (min 1 C) (C - C / 5) w
  rw [← hX] at CL
  have PA := fun w => parted_c C X w h0 h1
  unfold pr
  obtain ⟨hc0, hc1⟩ := hc
  clear hC hX hx
  go_enter Try.func28, Try.ntmps28
  go_wp2_with (first | (go_at_call 34; refine WH.mono ?_; rintro e w' ⟨rfl, rfl⟩) | (go_at_call 35; refine (EN _).mono ?_; rintro e w' ⟨rfl, rfl⟩) | (go_at_call 37; refine (CL _).mono ?_; rintro e w' ⟨rfl, rfl⟩) | (go_at_call 36; refine (PA _).mono ?_; rintro e w' ⟨rfl, rfl⟩))
  exact bodyPost_ret (v := .agg #[.int .i64 C, .int .i64 X, .int .i64 (C - X - (C - X) / 5)]) (results_cell_row Try.results28 _ _ w.heap.size 34 _ (0, 0) _ rfl (heap2_old _ _ _) Try.underlying34 rfl (infoQ _ _ _)) rfl ⟨rfl, ((Grown.refl _).alloc _ _).alloc _ _⟩

theorem rof_c (c : Int) (w : World) :
    Calls Try.prog 30 #[.int .i64 c] w fun e w' => e = .returned (.agg #[.int .i64 (wh c), .int .i64 (wo c), .int .i64 (pr (wh c) (wo c))]) ∧ Grown w w' := by
  have hc := wh_le c
  obtain ⟨C, hC⟩ : ∃ C, C = wh c := ⟨_, rfl⟩
  obtain ⟨X, hX⟩ : ∃ X, X = mid (C / 100) (min 1 C) (C - C / 5) := ⟨_, rfl⟩
  have hx : wo c = X := by rw [hX, hC]; rfl
  have h0 : 0 ≤ C - X := by rw [hX]; unfold mid; omega
  have h1 : C - X ≤ 9223372036854775807 := by rw [hX]; unfold mid; omega
  have e1 : min (max c 0) 4611686018427387903 = C := by rw [hC]; unfold wh mid; omega
  rw [hx]
  rw [← hC] at hc ⊢
  have EN := fun w => rends_c C w (by omega) (by omega)
  have e2 : min (max (C / 100) (min 1 C)) (C - C / 5) = X := by rw [hX]; unfold mid; omega
  have PA := fun w => rwhole_c C X w h0 h1
  unfold pr
  obtain ⟨hc0, hc1⟩ := hc
  clear hC hX hx
  go_enter Try.func30, Try.ntmps30
  go_wp2_with (first | (go_at_call 38; refine (rclamp_c _ _ _ _).mono ?_; rintro e w' ⟨rfl, rfl⟩; first | rw [e1] | rw [e2]) | (go_at_call 39; refine (EN _).mono ?_; rintro e w' ⟨rfl, rfl⟩) | (go_at_call 40; refine (PA _).mono ?_; rintro e w' ⟨rfl, rfl⟩))
  exact bodyPost_ret (v := .agg #[.int .i64 C, .int .i64 X, .int .i64 (C - X - (C - X) / 5)]) (results_cell_row Try.results30 _ _ w.heap.size 34 _ (0, 0) _ rfl (heap2_old _ _ _) Try.underlying34 rfl (infoQ _ _ _)) rfl ⟨rfl, ((Grown.refl _).alloc _ _).alloc _ _⟩

theorem shift_c (c x p y : Int) (w : World) :
    Calls Try.prog 29 #[.agg #[.int .i64 c, .int .i64 x, .int .i64 p], .int .i64 y] w fun e w' => e = .returned (.agg #[.int .i64 (wh c), .int .i64 (ws c x y), .int .i64 (pr (wh c) (ws c x y))]) ∧ Grown w w' := by
  have hc := wh_le c
  obtain ⟨C, hC⟩ : ∃ C, C = wh c := ⟨_, rfl⟩
  obtain ⟨X, hX⟩ : ∃ X, X = mid x (min 1 C) (C - C / 5) := ⟨_, rfl⟩
  obtain ⟨Y, hY⟩ : ∃ Y, Y = mid y (min 1 C - X) (C - C / 5 - X) := ⟨_, rfl⟩
  rw [← hC] at hc
  have hx : ws c x y = X + Y := by rw [hY, hX, hC]; unfold ws mid; omega
  have hX0 : min 1 C ≤ X := by rw [hX]; unfold mid; omega
  have hX1 : X ≤ C - C / 5 := by rw [hX]; unfold mid; omega
  have h0 : 0 ≤ C - (X + Y) := by rw [hY]; unfold mid; omega
  have h1 : C - (X + Y) ≤ 9223372036854775807 := by rw [hY]; unfold mid; omega
  have h2 : 0 ≤ X + Y := by rw [hY]; unfold mid; omega
  have WH := fun w => whole_c c w
  rw [hx]
  rw [← hC] at WH ⊢
  have EN := fun w => ends_c C w (by omega) (by omega)
  have e1 := hX.symm
  have e2 := hY.symm
  have PA := fun w => parted_c C (X + Y) w h0 h1
  unfold pr
  obtain ⟨hc0, hc1⟩ := hc
  clear hC hX hx hY
  go_enter Try.func29, Try.ntmps29
  go_wp2_with (first | (go_at_call 34; refine (WH _).mono ?_; rintro e w' ⟨rfl, rfl⟩) | (go_at_call 35; refine (EN _).mono ?_; rintro e w' ⟨rfl, rfl⟩) | (go_at_call 37; refine (clamp_c _ _ _ _).mono ?_; rintro e w' ⟨rfl, rfl⟩; first | rw [e1] | rw [e2]) | (go_at_call 36; refine (PA _).mono ?_; rintro e w' ⟨rfl, rfl⟩))
  exact bodyPost_ret (v := .agg #[.int .i64 C, .int .i64 (X + Y), .int .i64 (C - (X + Y) - (C - (X + Y)) / 5)]) (results_cell_row Try.results29 _ _ (w.heap.size + 1) 34 _ (0, 0) _ rfl (by have h := heap2_old (w.alloc (.cells #[.int .i64 c, .int .i64 x, .int .i64 p] 34)) (.cells #[.int .i64 C, .int .i64 (X + Y), .int .i64 (C - (X + Y) - (C - (X + Y)) / 5)] 34) (.cells #[.int .i64 C, .int .i64 (X + Y), .int .i64 (C - (X + Y) - (C - (X + Y)) / 5)] 34); simpa using h) Try.underlying34 rfl (infoQ _ _ _)) rfl ⟨rfl, (((Grown.refl _).alloc _ _).alloc _ _).alloc _ _⟩

theorem eqQ (a b c x y z : Int) (w : World) : (Op.equalIn 10000 34 (.agg #[.int .i64 a, .int .i64 b, .int .i64 c]) (.agg #[.int .i64 x, .int .i64 y, .int .i64 z])).run Try.prog w = .ok (a == x && b == y && c == z) w := by
  have u3 := Try.underlying3
  have a3 := Try.isAgg3
  have z3 := Try.sizeOf3
  rw [show (10000 : Nat) = 9999 + 1 from rfl, Op.equalIn]
  simp only [Sem.run_bind, run_underlying Try.underlying34, Result.andThen_ok]
  go_simp
  by_cases h : a = x <;> by_cases k : b = y <;> by_cases l : c = z <;> simp [h, k, l]

theorem rshift_hi (c x p y C X : Int) (w : World) (hc0 : 0 ≤ C) (hc1 : C ≤ 4611686018427387903) (hC : min (max c 0) 4611686018427387903 = C) (hX : min (max x (min 1 C)) (C - C / 5) = X) (hX0 : min 1 C ≤ X) (hX1 : X ≤ C - C / 5) (h : C - C / 5 - X < y) :
    Calls Try.prog 31 #[.agg #[.int .i64 c, .int .i64 x, .int .i64 p], .int .i64 y] w fun e w' => e = .returned (.agg #[.int .i64 C, .int .i64 (C - C / 5), .int .i64 (C - (C - C / 5) - (C - (C - C / 5)) / 5)]) ∧ Grown w w' := by
  have EN := fun w => rends_c C w (by omega) (by omega)
  have PA := fun w => rwhole_c C (C - C / 5) w (by omega) (by omega)
  go_enter Try.func31, Try.ntmps31
  go_wp2_with (first | (go_at_call 38; refine (rclamp_c _ _ _ _).mono ?_; rintro e w' ⟨rfl, rfl⟩; first | rw [hC] | rw [hX]) | (go_at_call 39; refine (EN _).mono ?_; rintro e w' ⟨rfl, rfl⟩) | (go_at_call 40; refine (PA _).mono ?_; rintro e w' ⟨rfl, rfl⟩))
  exact bodyPost_ret (v := .agg #[.int .i64 C, .int .i64 (C - C / 5), .int .i64 (C - (C - C / 5) - (C - (C - C / 5)) / 5)]) (results_cell_row Try.results31 _ _ (w.heap.size + 1) 34 _ (0, 0) _ rfl (by have h := heap2_old (w.alloc (.cells #[.int .i64 c, .int .i64 x, .int .i64 p] 34)) (.cells #[.int .i64 C, .int .i64 (C - C / 5), .int .i64 (C - (C - C / 5) - (C - (C - C / 5)) / 5)] 34) (.cells #[.int .i64 C, .int .i64 (C - C / 5), .int .i64 (C - (C - C / 5) - (C - (C - C / 5)) / 5)] 34); simpa using h) Try.underlying34 rfl (infoQ _ _ _)) rfl ⟨rfl, (((Grown.refl _).alloc _ _).alloc _ _).alloc _ _⟩

theorem rshift_lo (c x p y C X : Int) (w : World) (hc0 : 0 ≤ C) (hc1 : C ≤ 4611686018427387903) (hC : min (max c 0) 4611686018427387903 = C) (hX : min (max x (min 1 C)) (C - C / 5) = X) (hX0 : min 1 C ≤ X) (hX1 : X ≤ C - C / 5) (h : y < min 1 C - X) :
    Calls Try.prog 31 #[.agg #[.int .i64 c, .int .i64 x, .int .i64 p], .int .i64 y] w fun e w' => e = .returned (.agg #[.int .i64 C, .int .i64 (min 1 C), .int .i64 (C - (min 1 C) - (C - (min 1 C)) / 5)]) ∧ Grown w w' := by
  have EN := fun w => rends_c C w (by omega) (by omega)
  have PA := fun w => rwhole_c C (min 1 C) w (by omega) (by omega)
  go_enter Try.func31, Try.ntmps31
  go_wp2_with (first | (go_at_call 38; refine (rclamp_c _ _ _ _).mono ?_; rintro e w' ⟨rfl, rfl⟩; first | rw [hC] | rw [hX]) | (go_at_call 39; refine (EN _).mono ?_; rintro e w' ⟨rfl, rfl⟩) | (go_at_call 40; refine (PA _).mono ?_; rintro e w' ⟨rfl, rfl⟩))
  exact bodyPost_ret (v := .agg #[.int .i64 C, .int .i64 (min 1 C), .int .i64 (C - (min 1 C) - (C - (min 1 C)) / 5)]) (results_cell_row Try.results31 _ _ (w.heap.size + 1) 34 _ (0, 0) _ rfl (by have h := heap2_old (w.alloc (.cells #[.int .i64 c, .int .i64 x, .int .i64 p] 34)) (.cells #[.int .i64 C, .int .i64 (min 1 C), .int .i64 (C - (min 1 C) - (C - (min 1 C)) / 5)] 34) (.cells #[.int .i64 C, .int .i64 (min 1 C), .int .i64 (C - (min 1 C) - (C - (min 1 C)) / 5)] 34); simpa using h) Try.underlying34 rfl (infoQ _ _ _)) rfl ⟨rfl, (((Grown.refl _).alloc _ _).alloc _ _).alloc _ _⟩

theorem rshift_at (c x p y C X : Int) (w : World) (hc0 : 0 ≤ C) (hc1 : C ≤ 4611686018427387903) (hC : min (max c 0) 4611686018427387903 = C) (hX : min (max x (min 1 C)) (C - C / 5) = X) (hX0 : min 1 C ≤ X) (hX1 : X ≤ C - C / 5) (h : y ≤ C - C / 5 - X) (k : min 1 C - X ≤ y) :
    Calls Try.prog 31 #[.agg #[.int .i64 c, .int .i64 x, .int .i64 p], .int .i64 y] w fun e w' => e = .returned (.agg #[.int .i64 C, .int .i64 (X + y), .int .i64 (C - (X + y) - (C - (X + y)) / 5)]) ∧ Grown w w' := by
  have EN := fun w => rends_c C w (by omega) (by omega)
  have PA := fun w => rwhole_c C (X + y) w (by omega) (by omega)
  go_enter Try.func31, Try.ntmps31
  go_wp2_with (first | (go_at_call 38; refine (rclamp_c _ _ _ _).mono ?_; rintro e w' ⟨rfl, rfl⟩; first | rw [hC] | rw [hX]) | (go_at_call 39; refine (EN _).mono ?_; rintro e w' ⟨rfl, rfl⟩) | (go_at_call 40; refine (PA _).mono ?_; rintro e w' ⟨rfl, rfl⟩))
  exact bodyPost_ret (v := .agg #[.int .i64 C, .int .i64 (X + y), .int .i64 (C - (X + y) - (C - (X + y)) / 5)]) (results_cell_row Try.results31 _ _ (w.heap.size + 1) 34 _ (0, 0) _ rfl (by have h := heap2_old (w.alloc (.cells #[.int .i64 c, .int .i64 x, .int .i64 p] 34)) (.cells #[.int .i64 C, .int .i64 (X + y), .int .i64 (C - (X + y) - (C - (X + y)) / 5)] 34) (.cells #[.int .i64 C, .int .i64 (X + y), .int .i64 (C - (X + y) - (C - (X + y)) / 5)] 34); simpa using h) Try.underlying34 rfl (infoQ _ _ _)) rfl ⟨rfl, (((Grown.refl _).alloc _ _).alloc _ _).alloc _ _⟩

theorem rshift_c (c x p y : Int) (w : World) :
    Calls Try.prog 31 #[.agg #[.int .i64 c, .int .i64 x, .int .i64 p], .int .i64 y] w fun e w' => e = .returned (.agg #[.int .i64 (wh c), .int .i64 (ws c x y), .int .i64 (pr (wh c) (ws c x y))]) ∧ Grown w w' := by
  have hc := wh_le c
  obtain ⟨C, hC⟩ : ∃ C, C = wh c := ⟨_, rfl⟩
  obtain ⟨X, hX⟩ : ∃ X, X = mid x (min 1 C) (C - C / 5) := ⟨_, rfl⟩
  have e1 : min (max c 0) 4611686018427387903 = C := by rw [hC]; unfold wh mid; omega
  rw [← hC] at hc
  have e2 : min (max x (min 1 C)) (C - C / 5) = X := by rw [hX]; unfold mid; omega
  have hx : ws c x y = mid (X + y) (min 1 C) (C - C / 5) := by rw [hX, hC]; rfl
  have hX0 : min 1 C ≤ X := by rw [hX]; unfold mid; omega
  have hX1 : X ≤ C - C / 5 := by rw [hX]; unfold mid; omega
  rw [hx, ← hC]
  by_cases h : C - C / 5 - X < y
  · rw [show mid (X + y) (min 1 C) (C - C / 5) = C - C / 5 by unfold mid; omega]
    exact rshift_hi c x p y C X w hc.1 hc.2 e1 e2 hX0 hX1 h
  · by_cases k : y < min 1 C - X
    · rw [show mid (X + y) (min 1 C) (C - C / 5) = min 1 C by unfold mid; omega]
      exact rshift_lo c x p y C X w hc.1 hc.2 e1 e2 hX0 hX1 k
    · rw [show mid (X + y) (min 1 C) (C - C / 5) = X + y by unfold mid; omega]
      exact rshift_at c x p y C X w hc.1 hc.2 e1 e2 hX0 hX1 (by omega) (by omega)
end Go.Proofs.Ytimklnecjmklhaa
