/-
  Package weigh, and what of package api it calls: contracts of Wrap, weighed, Admit, Reason, Number. Conditions: errors.errorType is laid (Reason, Number); an error is nil, or a Fault of package api.
-/
import Derived.Test.YtigmjgmkeoineaaDoorWgAs
import Derived.Defers
import Derived.Recover
import Derived.Deep.RegionWith
import Derived.BigQuiet
namespace Go.Proofs.YtigmjgmkeoineaaDoor
open Go.RowKit Go.Deep

/-- The number of what Admit tells. -/
def adm (w c : Int) : Int := if w < 0 ∨ c < 0 ∨ 4611686018427387903 < c then 1 else if c < w ∨ 2147483648 < w then 4 else 0

/-- An error: nil, if n is 0, or a Fault of the number n, a key, and how much. -/
def FaultIs (w : World) (v : Value) (n k m : Int) : Prop :=
  (n = 0 ∧ v = .nilIface) ∨ (n ≠ 0 ∧ ∃ b, v = .iface 55 (ptr b) ∧ w.heap[b]? = some (.cells #[.int .i64 n, .int .i64 k, .int .i64 m] 57))
theorem FaultIs.grown {w w' : World} {v : Value} {n k m : Int} (h : FaultIs w v n k m) (g : Grown w w') : FaultIs w' v n k m := by
  rcases h with h | ⟨h0, b, h1, h2⟩
  · exact .inl h
  · refine .inr ⟨h0, b, h1, ?_⟩
    rw [grown_block g ?_]
    · exact h2
    · apply Decidable.byContradiction; intro hb
      rw [Array.getElem?_eq_none (by omega)] at h2
      cases h2
theorem FaultIs.nil {w : World} {v : Value} {k m : Int} (h : FaultIs w v 0 k m) : v = .nilIface := by
  rcases h with h | ⟨h0, _⟩
  · exact h.2
  · exact absurd rfl h0
theorem FaultIs.some {w : World} {v : Value} {n k m : Int} (h : FaultIs w v n k m) (hn : n ≠ 0) : ∃ b, v = .iface 55 (ptr b) ∧ b < w.heap.size ∧ w.heap[b]? = some (.cells #[.int .i64 n, .int .i64 k, .int .i64 m] 57) := by
  rcases h with h | ⟨_, b, h1, h2⟩
  · exact absurd h.1 hn
  · refine ⟨b, h1, ?_, h2⟩
    apply Decidable.byContradiction; intro hb
    rw [Array.getElem?_eq_none (by omega)] at h2
    cases h2

theorem heap_new (w : World) (o : Obj) : (w.alloc o).heap[w.heap.size]? = some o := by
  show (w.heap.push o)[w.heap.size]? = some o
  simp
theorem size_new (w : World) (o : Obj) : (w.alloc o).heap.size = w.heap.size + 1 := by
  show (w.heap.push o).size = _
  simp
theorem wrap_c (n k m : Int) (w : World) : Calls Tryd.prog 13 #[.int .i64 n, .int .i64 k, .int .i64 m] w fun e w' => ∃ v, e = .returned v ∧ FaultIs w' v n k m ∧ Grown w w' := by
  by_cases hn : n = 0
  · go_enter Tryd.func13, Tryd.ntmps13
    go_wp2
    go_ret
    exact ⟨_, rfl, .inl ⟨hn, rfl⟩, Grown.refl _⟩
  · go_enter Tryd.func13, Tryd.ntmps13
    go_wp2
    go_ret
    exact ⟨_, rfl, .inr ⟨hn, _, rfl, heap_new _ _⟩, (Grown.refl _).alloc _ _⟩

theorem heap_cell {w : World} {b : Nat} {cs : Array Value} {t : TypeId} {k : Nat} {v : Value} (h : w.heap[b]? = some (.cells cs t)) (hv : cs[k]? = some v) : w.cell? ⟨b, k, none⟩ = some v := by
  simp [World.cell?, h, hv]

/-- Number of an error of this program's. -/
theorem number_c (v : Value) (n k m : Int) (w : World) (hl : Laid w) (hv : FaultIs w v n k m) :
    Calls Tryd.prog 26 #[v] w fun e w' => e = .returned (.int .i64 n) ∧ Grown w w' := by
  have hg1 : Grown w (w.alloc (.cells #[.int .i64 0] 39)) := (Grown.refl _).alloc _ _
  rcases hv with ⟨rfl, rfl⟩ | ⟨h0, b, rfl, hb⟩
  · go_enter Tryd.func26, Tryd.ntmps26
    go_wp2_with (first | (go_at_call 30; refine (as_nil _ _).mono ?_; rintro e w' ⟨rfl, rfl⟩))
    go_ret
    exact ⟨rfl, hg1⟩
  · have hb1 : b < w.heap.size := by
      apply Decidable.byContradiction; intro hh
      rw [Array.getElem?_eq_none (by omega)] at hb
      cases hb
    have c2 : Calls Tryd.prog 30 #[.iface 55 (ptr b), .iface 60 (ptr w.heap.size)] (w.alloc (.cells #[.int .i64 0] 39)) (fun e w' => e = .returned (.bool true) ∧ Grown w w' ∧ w'.cell? ⟨w.heap.size, 0, none⟩ = some (.int .i64 n)) := (as_errno b w.heap.size n (.int .i64 0) _ (hl.grown hg1) (by rw [World.cell?_alloc_lt _ _ ⟨b, 0, none⟩ hb1]; exact heap_cell hb rfl) (by simp) (by simp)).mono (by
      rintro e w' ⟨rfl, W, hW, rfl⟩
      have hs := size_new w (.cells #[.int .i64 0] 39)
      have e1 : W.heap[w.heap.size]? = some (.cells #[.int .i64 0] 39) := (grown_block hW (by omega)).trans (heap_new _ _)
      refine ⟨rfl, ?_, ?_⟩
      · exact (((Off.refl w.heap.size 1 w).more (grownTrans hg1 hW)).setCell (a := ⟨w.heap.size, 0, none⟩) (by exact Nat.le_refl _) (by show w.heap.size < w.heap.size + 1; omega) _).grown (Grown.refl w) (Nat.le_refl _)
      · exact World.cell?_setCell_same' _ _ _ (by rw [heap_cell (k := 0) e1 rfl]; rfl))
    simp only [ptr] at c2 ⊢
    go_enter Tryd.func26, Tryd.ntmps26
    go_wp2_with (first | (go_at_call 30; refine c2.mono ?_; rintro e W ⟨rfl, hW, k0⟩))
    go_ret
    exact ⟨rfl, hW⟩
end Go.Proofs.YtigmjgmkeoineaaDoor
