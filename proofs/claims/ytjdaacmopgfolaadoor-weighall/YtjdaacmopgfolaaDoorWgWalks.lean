/-
  Package weigh, and what of package api it calls: contracts of Wrap, weighed, Admit, Reason, Number. Conditions: errors.errorType is laid (Reason, Number); an error is nil, or a Fault of package api.
-/
import Derived.Test.YtjdaacmopgfolaaDoorWgAs
import Derived.Defers
import Derived.Recover
import Derived.Deep.RegionWith
import Derived.BigQuiet
namespace Go.Proofs.YtjdaacmopgfolaaDoor
open Go.RowKit Go.Deep

/-- The number of what Admit tells. -/
def adm (w c : Int) : Int := if w < 0 ∨ c < 0 ∨ 4611686018427387903 < c then 1 else if c < w ∨ 2147483648 < w then 4 else 0

/-- An error: nil, if n is 0, or a Fault of the number n, a key, and how much. -/
def FaultIs (w : World) (v : Value) (n k m : Int) : Prop :=
  (n = 0 ∧ v = .nilIface) ∨ (n ≠ 0 ∧ ∃ b, v = .iface 46 (ptr b) ∧ w.heap[b]? = some (.cells #[.int .i64 n, .int .i64 k, .int .i64 m] 51))
theorem FaultIs.grown {w w' : World} {v : Value} {n k m : Int} (h : FaultIs w v n k m) (g : Grown w w') : FaultIs w' v n k m := by
  rcases h with h | ⟨h0, b, h1, h2⟩
  · exact .inl h
  · refine .inr ⟨h0, b, h1, ?_⟩
    rw [grown_block g ?_]
    · exact h2
    · apply Decidable.byContradiction; intro hb
      rw [Array.getElem?_eq_none (by omega)] at h2
      cases h2
theorem FaultIs.nil {w : World} {v : Value} {k m : Int} (h : FaultIs w v 0 k m) : v = .nilIface := by
  rcases h with h | ⟨h0, _⟩
  · exact h.2
  · exact absurd rfl h0
theorem FaultIs.some {w : World} {v : Value} {n k m : Int} (h : FaultIs w v n k m) (hn : n ≠ 0) : ∃ b, v = .iface 46 (ptr b) ∧ b < w.heap.size ∧ w.heap[b]? = some (.cells #[.int .i64 n, .int .i64 k, .int .i64 m] 51) := by
  rcases h with h | ⟨_, b, h1, h2⟩
  · exact absurd h.1 hn
  · refine ⟨b, h1, ?_, h2⟩
    apply Decidable.byContradiction; intro hb
    rw [Array.getElem?_eq_none (by omega)] at h2
    cases h2

theorem weighed_c (x c : Int) (w : World) : Calls Tryd.prog 20 #[.int .i64 x, .int .i64 c] w fun e w' => e = .returned (.int .i64 (adm x c)) ∧ w' = w := by
  unfold adm
  by_cases h1 : x < 0 ∨ c < 0 ∨ 4611686018427387903 < c
  · rw [if_pos h1]
    by_cases hx : x < 0
    · go_enter Tryd.func20, Tryd.ntmps20
      go_wp2
      go_ret
      exact ⟨rfl, rfl⟩
    · by_cases hc : c < 0
      · go_enter Tryd.func20, Tryd.ntmps20
        go_wp2
        go_ret
        exact ⟨rfl, rfl⟩
      · have hd : 4611686018427387903 < c := by omega
        clear h1
        go_enter Tryd.func20, Tryd.ntmps20
        go_wp2
        go_ret
        exact ⟨rfl, rfl⟩
  · rw [if_neg h1]
    have hx : ¬ x < 0 := by omega
    have hc : ¬ c < 0 := by omega
    have hd : ¬ 4611686018427387903 < c := by omega
    clear h1
    by_cases h2 : c < x ∨ 2147483648 < x
    · rw [if_pos h2]
      have h3 : min c 2147483648 < x := by omega
      clear h2
      go_enter Tryd.func20, Tryd.ntmps20
      go_wp2
      all_goals (go_ret; exact ⟨rfl, rfl⟩)
    · rw [if_neg h2]
      have h3 : ¬ min c 2147483648 < x := by omega
      clear h2
      go_enter Tryd.func20, Tryd.ntmps20
      go_wp2
      all_goals (go_ret; exact ⟨rfl, rfl⟩)

theorem heap_new (w : World) (o : Obj) : (w.alloc o).heap[w.heap.size]? = some o := by
  show (w.heap.push o)[w.heap.size]? = some o
  simp
theorem size_new (w : World) (o : Obj) : (w.alloc o).heap.size = w.heap.size + 1 := by
  show (w.heap.push o).size = _
  simp
theorem wrap_c (n k m : Int) (w : World) : Calls Tryd.prog 19 #[.int .i64 n, .int .i64 k, .int .i64 m] w fun e w' => ∃ v, e = .returned v ∧ FaultIs w' v n k m ∧ Grown w w' := by
  by_cases hn : n = 0
  · go_enter Tryd.func19, Tryd.ntmps19
    go_wp2
    go_ret
    exact ⟨_, rfl, .inl ⟨hn, rfl⟩, Grown.refl _⟩
  · go_enter Tryd.func19, Tryd.ntmps19
    go_wp2
    go_ret
    exact ⟨_, rfl, .inr ⟨hn, _, rfl, heap_new _ _⟩, (Grown.refl _).alloc _ _⟩

theorem admit_c (k x c : Int) (w : World) : Calls Tryd.prog 9 #[.int .i64 k, .int .i64 x, .int .i64 c] w fun e w' => ∃ v, e = .returned v ∧ FaultIs w' v (adm x c) k x ∧ Grown w w' := by
  obtain ⟨n, hn⟩ : ∃ n, n = adm x c := ⟨_, rfl⟩
  have c1 := weighed_c x c
  rw [← hn] at c1 ⊢
  clear hn
  go_enter Tryd.func9, Tryd.ntmps9
  go_wp2_with (first
    | (go_at_call 20; refine (c1 _).mono ?_; rintro e w' ⟨rfl, rfl⟩)
    | (go_at_call 19; refine (wrap_c n k x _).mono ?_; rintro e w' ⟨v, rfl, hf, hg⟩))
  go_ret
  exact ⟨_, rfl, hf, hg⟩

/-- The deferred function, at a frame that returns. -/
theorem catch_idle (w : World) : CallsD Tryd.prog 21 #[] .returning w fun e u' w' => e = .returned (.tuple #[]) ∧ u' = .returning ∧ w' = w := by
  refine callsD_of_wpS Tryd.func21 rfl fun c₀ cs hu => ?_
  apply wpS_region
  simp [wpOpsS, go_sem, recoverD, hu, Tryd.ntmps21]
  cases c₀
  simp_all [bodyPostS, results, Tryd.results21]

theorem heap_cell {w : World} {b : Nat} {cs : Array Value} {t : TypeId} {k : Nat} {v : Value} (h : w.heap[b]? = some (.cells cs t)) (hv : cs[k]? = some v) : w.cell? ⟨b, k, none⟩ = some v := by
  simp [World.cell?, h, hv]

/-- Reason of an error of this program's. -/
theorem reason_none (v : Value) (n k m : Int) (w : World) (hv : FaultIs w v n k m) (hn : n ≠ 4) :
    Calls Tryd.prog 11 #[v] w fun e w' => e = .returned (.tuple #[.int .i64 0, .int .i64 0, .bool false]) ∧ Grown w w' := by
  rcases hv with ⟨rfl, rfl⟩ | ⟨h0, b, rfl, hb⟩
  · go_enter_defers Tryd.func11, Tryd.ntmps11
    go_wp2_with (first | (go_at_call 22; refine (is_nil 4 _).mono ?_; rintro e w' ⟨rfl, rfl⟩))
    refine leaves_cons (f := 21) (args := #[]) (by simp) (by simp [go_sem]) ?_
    refine (catch_idle _).mono ?_
    rintro e u' w'' ⟨rfl, rfl, rfl⟩
    simp [Leaves, settle, results, Tryd.results11, go_sem]
    exact (Grown.refl _).alloc _ _
  · have hb1 : b < w.heap.size := by
      apply Decidable.byContradiction; intro hh
      rw [Array.getElem?_eq_none (by omega)] at hb
      cases hb
    have c1 := is_fault b n 4 (w.alloc (.cells #[.pointer none] 46)) (by rw [World.cell?_alloc_lt _ _ ⟨b, 0, none⟩ hb1]; exact heap_cell hb rfl)
    rw [beq_false_of_ne hn] at c1
    go_enter_defers Tryd.func11, Tryd.ntmps11
    go_wp2_with (first | (go_at_call 22; refine c1.mono ?_; rintro e w' ⟨rfl, rfl⟩))
    refine leaves_cons (f := 21) (args := #[]) (by simp) (by simp [go_sem]) ?_
    refine (catch_idle _).mono ?_
    rintro e u' w'' ⟨rfl, rfl, rfl⟩
    simp [Leaves, settle, results, Tryd.results11, go_sem]
    exact (Grown.refl _).alloc _ _
theorem reason_some (v : Value) (k m : Int) (w : World) (hl : Laid w) (hv : FaultIs w v 4 k m) :
    Calls Tryd.prog 11 #[v] w fun e w' => e = .returned (.tuple #[.int .i64 k, .int .i64 m, .bool true]) ∧ Grown w w' := by
  obtain ⟨b, rfl, hb1, hb⟩ := hv.some (by decide)
  have hg1 : Grown w (w.alloc (.cells #[.pointer none] 46)) := (Grown.refl _).alloc _ _
  have hb2 : (w.alloc (.cells #[.pointer none] 46)).heap[b]? = some (.cells #[.int .i64 4, .int .i64 k, .int .i64 m] 51) := by rw [grown_block hg1 hb1]; exact hb
  have c1 := is_fault b 4 4 _ (heap_cell hb2 rfl)
  have c2 : Calls Tryd.prog 23 #[.iface 46 (ptr b), .iface 49 (ptr w.heap.size)] (w.alloc (.cells #[.pointer none] 46)) (fun e w' => e = .returned (.bool true) ∧ Grown w w' ∧ w'.cell? ⟨w.heap.size, 0, none⟩ = some (.pointer (some ⟨b, 0, none⟩)) ∧ w'.cell? ⟨b, 1, none⟩ = some (.int .i64 k) ∧ w'.cell? ⟨b, 2, none⟩ = some (.int .i64 m)) := (as_fault b w.heap.size (.pointer none) _ (hl.grown hg1) (by simp) (by simp)).mono (by
    rintro e w' ⟨rfl, W, hW, rfl⟩
    have hs := size_new w (.cells #[.pointer none] 46)
    have e1 : W.heap[w.heap.size]? = some (.cells #[.pointer none] 46) := (grown_block hW (by omega)).trans (heap_new _ _)
    have e2 := (grown_block hW (k := b) (by omega)).trans hb2
    have e3 : (W.setCell ⟨w.heap.size, 0, none⟩ (ptr b)).heap[b]? = some (.cells #[.int .i64 4, .int .i64 k, .int .i64 m] 51) := (blk_setCell_other _ _ _ _ (by show b ≠ w.heap.size; omega)).trans e2
    refine ⟨rfl, ?_, ?_, heap_cell e3 rfl, heap_cell e3 rfl⟩
    · exact (((Off.refl w.heap.size 1 w).more (grownTrans hg1 hW)).setCell (a := ⟨w.heap.size, 0, none⟩) (by exact Nat.le_refl _) (by show w.heap.size < w.heap.size + 1; omega) _).grown (Grown.refl w) (Nat.le_refl _)
    · exact World.cell?_setCell_same' _ _ _ (by rw [heap_cell (k := 0) e1 rfl]; rfl))
  rw [beq_self_eq_true] at c1
  simp only [ptr] at c1 c2 ⊢
  go_enter_defers Tryd.func11, Tryd.ntmps11
  go_wp2_with (first
    | (go_at_call 22; refine c1.mono ?_; rintro e w' ⟨rfl, rfl⟩)
    | (go_at_call 23; refine c2.mono ?_; rintro e W ⟨rfl, hW, k0, k1, k2⟩))
  go_quiet (fail)
  go_wp2
  refine leaves_cons (f := 21) (args := #[]) (by simp) (by simp [go_sem]) ?_
  refine (catch_idle _).mono ?_
  rintro e u' w'' ⟨rfl, rfl, rfl⟩
  simp [Leaves, settle, results, Tryd.results11, go_sem]
  exact grownDrewN hW _
/-- Reason of a bare Errno. -/
theorem reason_bare (w : World) (hl : Laid w) : Calls Tryd.prog 11 #[.iface 26 (.int .i64 4)] w fun e w' => e = .returned (.tuple #[.int .i64 0, .int .i64 0, .bool false]) ∧ Grown w w' := by
  have hg1 : Grown w (w.alloc (.cells #[.pointer none] 46)) := (Grown.refl _).alloc _ _
  have c2 := as_bare 4 w.heap.size _ (hl.grown hg1)
  simp only [ptr] at c2
  go_enter_defers Tryd.func11, Tryd.ntmps11
  go_wp2_with (first
    | (go_at_call 22; refine (is_bare 4 _).mono ?_; rintro e w' ⟨rfl, rfl⟩)
    | (go_at_call 23; refine c2.mono ?_; rintro e W ⟨rfl, hW⟩))
  refine leaves_cons (f := 21) (args := #[]) (by simp) (by simp [go_sem]) ?_
  refine (catch_idle _).mono ?_
  rintro e u' w'' ⟨rfl, rfl, rfl⟩
  simp [Leaves, settle, results, Tryd.results11, go_sem]
  exact grownTrans hg1 hW

/-- Number of an error of this program's. -/
theorem number_c (v : Value) (n k m : Int) (w : World) (hl : Laid w) (hv : FaultIs w v n k m) :
    Calls Tryd.prog 18 #[v] w fun e w' => e = .returned (.int .i64 n) ∧ Grown w w' := by
  have hg1 : Grown w (w.alloc (.cells #[.int .i64 0] 26)) := (Grown.refl _).alloc _ _
  rcases hv with ⟨rfl, rfl⟩ | ⟨h0, b, rfl, hb⟩
  · go_enter Tryd.func18, Tryd.ntmps18
    go_wp2_with (first | (go_at_call 23; refine (as_nil _ _).mono ?_; rintro e w' ⟨rfl, rfl⟩))
    go_ret
    exact ⟨rfl, hg1⟩
  · have hb1 : b < w.heap.size := by
      apply Decidable.byContradiction; intro hh
      rw [Array.getElem?_eq_none (by omega)] at hb
      cases hb
    have c2 : Calls Tryd.prog 23 #[.iface 46 (ptr b), .iface 54 (ptr w.heap.size)] (w.alloc (.cells #[.int .i64 0] 26)) (fun e w' => e = .returned (.bool true) ∧ Grown w w' ∧ w'.cell? ⟨w.heap.size, 0, none⟩ = some (.int .i64 n)) := (as_errno b w.heap.size n (.int .i64 0) _ (hl.grown hg1) (by rw [World.cell?_alloc_lt _ _ ⟨b, 0, none⟩ hb1]; exact heap_cell hb rfl) (by simp) (by simp)).mono (by
      rintro e w' ⟨rfl, W, hW, rfl⟩
      have hs := size_new w (.cells #[.int .i64 0] 26)
      have e1 : W.heap[w.heap.size]? = some (.cells #[.int .i64 0] 26) := (grown_block hW (by omega)).trans (heap_new _ _)
      refine ⟨rfl, ?_, ?_⟩
      · exact (((Off.refl w.heap.size 1 w).more (grownTrans hg1 hW)).setCell (a := ⟨w.heap.size, 0, none⟩) (by exact Nat.le_refl _) (by show w.heap.size < w.heap.size + 1; omega) _).grown (Grown.refl w) (Nat.le_refl _)
      · exact World.cell?_setCell_same' _ _ _ (by rw [heap_cell (k := 0) e1 rfl]; rfl))
    simp only [ptr] at c2 ⊢
    go_enter Tryd.func18, Tryd.ntmps18
    go_wp2_with (first | (go_at_call 23; refine c2.mono ?_; rintro e W ⟨rfl, hW, k0⟩))
    go_ret
    exact ⟨rfl, hW⟩
end Go.Proofs.YtjdaacmopgfolaaDoor
