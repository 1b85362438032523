/-
  A sketch and the document's, both in memory: what one call to each leaves of both.
-/
import Derived.Test.YtaelaikfpehciaaSkSame
namespace Go.Proofs.Ytaelaikfpehciaa
open Go.RowKit Go.Deep

/-- A sketch at block bx and the document's at block by that are alike. -/
structure Both (w : World) (bx by_ : Nat) (seed n : Int) (m : Nat) (c : Nat → Nat → Int) : Prop where
  x : Skc w bx seed n m c
  y : Rf w by_ seed n (16 * m) c
  apart : bx + 5 ≤ by_
variable {w w' w'' : World} {bx by_ m : Nat} {seed n n' : Int} {c c' : Nat → Nat → Int}
namespace Both
theorem bd (h : Both w bx by_ seed n m c) : ∀ i, i < 4 → ∀ j, j < 16 * m → 0 ≤ c i j ∧ c i j ≤ 15 := fun _ hi _ hj => h.x.bd hi hj
theorem grown (h : Both w bx by_ seed n m c) (g : Grown w w') : Both w' bx by_ seed n m c := ⟨h.x.grown g, Tb.grown h.y g, h.apart⟩
theorem drewN (h : Both w bx by_ seed n m c) (d : Nat) : Both (w.drewN d) bx by_ seed n m c := ⟨skc_drewN h.x d, rf_drewN h.y d, h.apart⟩
theorem last (h : Both w bx by_ seed n m c) : by_ + 4 < w.heap.size := Tb.last h.y
theorem keepY (h : Both w bx by_ seed n m c) (o : Off bx 5 w w') : Rf w' by_ seed n (16 * m) c := Tb.off h.y o (by have := h.apart; omega)
theorem mk2 (h : Both w bx by_ seed n m c) (hx : Skc w' bx seed n' m c') (hy : Rf w'' by_ seed n' (16 * m) c') (o : Off by_ 5 w' w'') : Both w'' bx by_ seed n' m c' :=
  ⟨hx.off o (by have := h.apart; omega), hy, h.apart⟩
/-- A store into a block behind both. -/
theorem store (h : Both w bx by_ seed n m c) {R : Nat} (hR : by_ + 5 ≤ R) (t : Nat) (u : Value) : Both (w.setCell ⟨R, t, none⟩ u) bx by_ seed n m c := by
  have o : Off R 1 w (w.setCell ⟨R, t, none⟩ u) := (Off.refl R 1 w).setCell (a := ⟨R, t, none⟩) (Nat.le_refl _) (by show R < R + 1; omega) u
  exact ⟨h.x.off o (by have := h.apart; omega), Tb.off h.y o (by omega), h.apart⟩
end Both
theorem grown_off2 {W : World} (g : Grown W w) (o : Off bx 5 w w') (o' : Off by_ 5 w' w'') (hb : W.heap.size ≤ bx) (ha : bx + 5 ≤ by_) : Grown W w'' :=
  o'.grown (o.grown g hb) (by omega)
theorem refCount_c (h : Rf w by_ seed n (16 * m) c) (h1 : 1 ≤ m) (hm : m ≤ 4096) (hb : ∀ i, i < 4 → ∀ j, j < 16 * m → 0 ≤ c i j ∧ c i j ≤ 15) (key : Int) :
    Calls Try.prog 27 #[ptr by_, .int .i64 key] w fun e w' => e = .returned (.int .i64 (leastK (kc c (mixB seed key) m) 4)) ∧ ∃ d, w' = w.drewN d := by
  rw [← leastR_eq _ (hb 0 (by omega) _ (P_lt _ 0 m h1)).2]
  exact refCount_any h h1 hm key
theorem nC_bd (x : BitVec 64) (h0 : 0 ≤ n) (h1 : n < 160 * (m : Int)) : 0 ≤ nC c x m n ∧ nC c x m n < 160 * (m : Int) := by
  unfold nC agedC
  cases okG (kc c x m) 4 with
  | false => simp; omega
  | true =>
    by_cases h : 160 * (m : Int) ≤ n + 1
    · rw [decide_eq_true h]; simp; omega
    · rw [decide_eq_false h]; simp; omega
end Go.Proofs.Ytaelaikfpehciaa
