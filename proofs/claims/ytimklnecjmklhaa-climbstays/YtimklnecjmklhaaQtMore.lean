/-
  What follows of windows and of the protected row's quotas (mathematics alone), and of quotas that Of and Shift tell. Condition: the numbers are of the Go type int.
-/
import Derived.Test.YtimklnecjmklhaaQtRight
namespace Go.Proofs.Ytimklnecjmklhaa
open Go.RowKit

theorem wh_wh (c : Int) : wh (wh c) = wh c := by unfold wh mid; omega
theorem ws_le (c x y : Int) : min 1 (wh c) ≤ ws c x y ∧ ws c x y ≤ wh c - wh c / 5 := by
  have h := wh_le c
  unfold ws mid; omega
theorem wo_le (c : Int) : min 1 (wh c) ≤ wo c ∧ wo c ≤ wh c - wh c / 5 := by
  have h := wh_le c
  unfold wo mid; omega
/-- A window within the ends, and by more. -/
theorem ws_in {C x : Int} (y : Int) (h : wh C = C) (h0 : min 1 C ≤ x) (h1 : x ≤ C - C / 5) : ws C x y = mid (x + y) (min 1 C) (C - C / 5) := by
  unfold ws; rw [h]; unfold mid; omega
/-- Such a quota is right. -/
theorem ri_in {C x : Int} (h : wh C = C) (h0 : min 1 C ≤ x) (h1 : x ≤ C - C / 5) : ri C x (pr C x) = true := by
  have e : ws C x 0 = x := by rw [ws_in 0 h h0 h1]; unfold mid; omega
  unfold ri
  rw [e, h]; simp
/-- Shift of a quota whose capacity is clamped. -/
theorem shift_in {C : Int} (h : wh C = C) (x p y : Int) (w : World) :
    Calls Try.prog 29 #[.agg #[.int .i64 C, .int .i64 x, .int .i64 p], .int .i64 y] w fun e w' => e = .returned (.agg #[.int .i64 C, .int .i64 (ws C x y), .int .i64 (pr C (ws C x y))]) ∧ Grown w w' := by
  have k := shift_c C x p y w
  rw [h] at k
  exact k
/-- A right quota's numbers. -/
theorem ri_le {c x p : Int} (h : ri c x p = true) : 0 ≤ c - x ∧ c - x ≤ 4611686018427387903 ∧ 0 ≤ c ∧ 0 ≤ x := by
  unfold ri at h
  simp only [Bool.and_eq_true, beq_iff_eq] at h
  have h1 := h.1.1; have h2 := h.1.2
  have h3 := wh_le c
  unfold ws at h2
  rw [← h1] at h2 h3
  unfold mid at h2
  omega
end Go.Proofs.Ytimklnecjmklhaa
