/-
  The small case of package weigh's laws. Condition: errors.errorType is laid.
-/
import Derived.Test.YtjdaacmopgfolaaDoorWgAll
namespace Go.Proofs.YtjdaacmopgfolaaDoor
open Go.RowKit Go.Deep

def z123 (k : Nat) : Int := (k : Int) + 1
theorem sl_new (w : World) (n : Nat) (cs : Array Value) (z : Nat → Int) (h : ∀ j, j < n → cs[j]? = some (.int .i64 (z j))) : Sl (w.alloc (.cells cs 3)) (some ⟨w.heap.size, 0, none⟩) n z :=
  .inr ⟨w.heap.size, 0, rfl, by rw [size_new]; omega, fun i hi => by rw [Nat.zero_add]; exact heap_cell (heap_new _ _) (h i hi)⟩
theorem tot123 {s n a m : Int} (h : Tot z123 3 s n a m) : s = 6 ∧ n = 0 := by
  have f : Fine z123 3 := fun i hi => by
    match i, hi with
    | 0, _ => decide
    | 1, _ => decide
    | 2, _ => decide
  obtain ⟨h1, h2, _, _⟩ := h.same (.inl ⟨f, rfl, rfl, rfl, rfl⟩)
  exact ⟨h1.trans (by decide), h2⟩
theorem total123 (W w : World) (hg : Grown W w) : Calls Tryd.prog 13 #[.slice (some ⟨w.heap.size, 0, none⟩) 3 3] (w.alloc (.cells #[.int .i64 1, .int .i64 2, .int .i64 3] 3)) fun e w' => e = .returned (.tuple #[.int .i64 6, .nilIface]) ∧ Grown W w' :=
  (total_c _ 3 3 z123 _ (sl_new w 3 _ z123 (fun j hj => by
    match j, hj with
    | 0, _ => rfl
    | 1, _ => rfl
    | 2, _ => rfl)) (by decide)).mono fun e w' ⟨s, n, a, m, v, he, ht, hf, hg'⟩ => by
      obtain ⟨rfl, rfl⟩ := tot123 ht
      obtain rfl := hf.nil
      exact ⟨he, grownTrans (hg.alloc _ _) hg'⟩
theorem all12 (W w : World) (hg : Grown W w) : Calls Tryd.prog 16 #[.slice (some ⟨w.heap.size, 0, none⟩) 2 2, .slice none 0 0, .int .i64 0] (w.alloc (.cells #[.int .i64 1, .int .i64 2] 3)) fun e w' => (∃ r, e = .returned (.slice r 2 2)) ∧ Grown W w' :=
  (all_c _ none 2 2 0 0 z123 z123 0 _ (sl_new w 2 _ z123 (fun j hj => by
    match j, hj with
    | 0, _ => rfl
    | 1, _ => rfl)) (.inl rfl) (by decide)).mono fun e w' ⟨r, he, _, hg'⟩ => ⟨⟨r, he⟩, grownTrans (hg.alloc _ _) hg'⟩
theorem admit795 (W w : World) (hg : Grown W w) : Calls Tryd.prog 9 #[.int .i64 7, .int .i64 9, .int .i64 5] w fun e w' => ∃ v, e = .returned v ∧ FaultIs w' v 4 7 9 ∧ Grown W w' :=
  (admit_c 7 9 5 w).mono fun _ _ ⟨v, he, hf, hg'⟩ => ⟨v, he, hf, grownTrans hg hg'⟩
theorem admit715 (W w : World) (hg : Grown W w) : Calls Tryd.prog 9 #[.int .i64 7, .int .i64 (-1), .int .i64 5] w fun e w' => ∃ v, e = .returned v ∧ FaultIs w' v 1 7 (-1) ∧ Grown W w' :=
  (admit_c 7 (-1) 5 w).mono fun _ _ ⟨v, he, hf, hg'⟩ => ⟨v, he, hf, grownTrans hg hg'⟩
theorem admit755 (W w : World) (hg : Grown W w) : Calls Tryd.prog 9 #[.int .i64 7, .int .i64 5, .int .i64 5] w fun e w' => e = .returned .nilIface ∧ Grown W w' :=
  (admit_zero 7 5 5 w (by decide)).mono fun _ _ ⟨he, _, hg'⟩ => ⟨he, grownTrans hg hg'⟩

set_option maxHeartbeats 2000000 in
theorem wSmall (W : World) (hl : Laid W) : Calls Tryd.prog 8 #[] W fun e w' => e = .returned (.bool true) ∧ Grown W w' := by
  have g0 := Grown.refl W
  go_enter Tryd.func8, Tryd.ntmps8
  go_wp2_with (first
    | (go_at_call 9; refine (admit795 W _ g0).mono ?_; rintro e w1 ⟨v1, rfl, hf1, g1⟩)
    | (go_at_call 11; refine (reason_some v1 7 9 _ (hl.grown g1) hf1).mono ?_; rintro e w2 ⟨rfl, g2⟩; have g3 := grownTrans g1 g2; clear g2 hf1 g0 g1)
    | (go_at_call 9; refine (admit715 W _ g3).mono ?_; rintro e w3 ⟨v3, rfl, hf3, g4⟩)
    | (go_at_call 11; refine (reason_none v3 1 7 (-1) _ hf3 (by decide)).mono ?_; rintro e w4 ⟨rfl, g5⟩; have g6 := grownTrans g4 g5; clear g5 hf3 g3 g4)
    | (go_at_call 11; refine (reason_none .nilIface 0 0 0 _ (.inl ⟨rfl, rfl⟩) (by decide)).mono ?_; rintro e w5 ⟨rfl, g7⟩; have g8 := grownTrans g6 g7; clear g7 g6)
    | (go_at_call 13; refine (total123 W _ g8).mono ?_; rintro e w6 ⟨rfl, g9⟩; clear g8)
    | (go_at_call 9; refine (admit755 W _ g9).mono ?_; rintro e w7 ⟨rfl, g10⟩; clear g9)
    | (go_at_call 16; refine (all12 W _ g10).mono ?_; rintro e w8 ⟨⟨r, rfl⟩, g11⟩; clear g10))
  go_ret
  exact ⟨rfl, g11⟩

theorem adm_zero {x c : Int} : adm x c = 0 ↔ 0 ≤ x ∧ 0 ≤ c ∧ c ≤ 4611686018427387903 ∧ x ≤ c ∧ x ≤ 2147483648 := by
  unfold adm
  split
  · constructor
    · intro h; cases h
    · intro h; omega
  · split
    · constructor
      · intro h; cases h
      · intro h; omega
    · constructor
      · intro _; omega
      · intro _; rfl
theorem admitZ (W : World) (k x c : Int) (w : World) (h : adm x c = 0) (hg : Grown W w) : Calls Tryd.prog 9 #[.int .i64 k, .int .i64 x, .int .i64 c] w fun e w' => e = .returned .nilIface ∧ Grown W w' :=
  (admit_zero k x c w h).mono fun _ _ ⟨he, _, hg'⟩ => ⟨he, grownTrans hg hg'⟩
theorem admitN (W : World) (k x c : Int) (w : World) (h : adm x c ≠ 0) (hg : Grown W w) : Calls Tryd.prog 9 #[.int .i64 k, .int .i64 x, .int .i64 c] w fun e w' => ∃ b, e = .returned (.iface 46 (.pointer (some ⟨b, 0, none⟩))) ∧ Grown W w' :=
  (admit_some k x c w h).mono fun _ _ ⟨b, he, _, hg'⟩ => ⟨b, he, grownTrans hg hg'⟩
end Go.Proofs.YtjdaacmopgfolaaDoor
