/-
  Events held against each other; the small case of layer 14's statements. Condition: errors.errorType is laid.
-/
import Derived.Test.YtigmjgmkeoineaaDoorWbSep
import Derived.Test.YtigmjgmkeoineaaDoorGenFlowG
namespace Go.Proofs.YtigmjgmkeoineaaDoor.Wb
open Go.RowKit Go.Deep Us

theorem eqEv (a b c d x y z u : Int) (w : World) : (Op.equalIn 10000 30 (.agg #[.int .i64 a, .int .i64 b, .int .i64 c, .int .i64 d]) (.agg #[.int .i64 x, .int .i64 y, .int .i64 z, .int .i64 u])).run Tryd.prog w = .ok (a == x && b == y && c == z && d == u) w := by
  have u3 := Tryd.underlying3
  have a3 := Tryd.isAgg3
  have z3 := Tryd.sizeOf3
  rw [show (10000 : Nat) = 9999 + 1 from rfl, Op.equalIn]
  simp only [Sem.run_bind, run_underlying Tryd.underlying30, Result.andThen_ok]
  go_simp
  by_cases h : a = x <;> by_cases k : b = y <;> by_cases l : c = z <;> by_cases m : d = u <;> simp [h, k, l, m]
theorem e7v : (ev 7).v = .agg #[.int .i64 1, .int .i64 7, .int .i64 7, .int .i64 7] := by
  unfold ev Ev.v
  rw [show bits .and .i64 7 15 = 7 by decide +kernel]
theorem ev_cells {w : World} {b : Nat} {x y z u : Value} {t : TypeId} (h : w.heap[b]? = some (.cells #[x, y, z, u] t (0, 0))) : w.cell? ⟨b, 0, none⟩ = some x ∧ w.cell? ⟨b, 1, none⟩ = some y ∧ w.cell? ⟨b, 2, none⟩ = some z ∧ w.cell? ⟨b, 3, none⟩ = some u ∧ b < w.heap.size :=
  ⟨cell_of h rfl, cell_of h rfl, cell_of h rfl, cell_of h rfl, lt_of h⟩
theorem guardEv : Tryd.prog.eqGuardType Tryd.prog.depth 30 = false := by kernel_rfl
set_option maxHeartbeats 4000000 in
theorem small_s (w : World) (hl : Laid w) : Calls Tryd.prog 7 #[] w fun e w' => e = .returned (.bool true) ∧ Grown w w' := by
  have e1 : ceilI 1 1 4096 = ((1 : Nat) : Int) := by decide +kernel
  have n0 := new_s (Apt.none (Grown.refl w)) 1 (by decide) e1
  have r1 : ∀ M w1, Apt w w1 [obB M 1 0 [] 0] → Calls Tryd.prog 11 #[.pointer (some ⟨M + 1, 0, none⟩)] w1 fun e w' => e = .returned .nilIface ∧ Apt w w' [obB M 1 0 [] 1] := fun M w1 h => reserve_y h (i := 0) rfl (by decide)
  have r2 : ∀ M w1, Apt w w1 [obB M 1 0 [] 1] → Calls Tryd.prog 11 #[.pointer (some ⟨M + 1, 0, none⟩)] w1 fun e w' => ∃ b1, e = .returned (.iface 55 (.pointer (some ⟨b1, 0, none⟩))) ∧ Apt w w' [obB M 1 0 [] 1, obE b1 2 0 1] := fun M w1 h => reserve_n h (i := 0) rfl rfl
  have ev7 : ∀ (l : List Ob) w1, Apt w w1 l → Calls Tryd.prog 10 #[.int .i64 7] w1 fun e w' => e = .returned (.agg #[.int .i64 1, .int .i64 7, .int .i64 7, .int .i64 7]) ∧ Apt w w' l := fun l w1 h => by
    rw [← e7v]; exact event_s h 7
  have c1 : ∀ M b1 w1, Apt w w1 [obB M 1 0 [] 1, obE b1 2 0 1] → Calls Tryd.prog 14 #[.pointer (some ⟨M + 1, 0, none⟩), .agg #[.int .i64 1, .int .i64 7, .int .i64 7, .int .i64 7]] w1 fun e w' => e = .returned (.int .i64 0) ∧ Apt w w' [obB M 1 0 [ev 7] 0, obE b1 2 0 1] := fun M b1 w1 h => by
    rw [← e7v]; exact commit_s h (i := 0) rfl (ev 7) (by decide)
  have r3 : ∀ M b1 w1, Apt w w1 [obB M 1 0 [ev 7] 0, obE b1 2 0 1] → Calls Tryd.prog 11 #[.pointer (some ⟨M + 1, 0, none⟩)] w1 fun e w' => ∃ b2, e = .returned (.iface 55 (.pointer (some ⟨b2, 0, none⟩))) ∧ Apt w w' [obB M 1 0 [ev 7] 0, obE b1 2 0 1, obE b2 2 1 0] := fun M b1 w1 h => reserve_n h (i := 0) rfl rfl
  have we1 : ∀ M b1 b2 w1, Apt w w1 [obB M 1 0 [ev 7] 0, obE b1 2 0 1, obE b2 2 1 0] → Calls Tryd.prog 23 #[.pointer (some ⟨M + 1, 0, none⟩)] w1 fun e w' => e = .returned (.int .i64 7) ∧ w' = w1 := fun M b1 b2 w1 h => by
    rw [show (7 : Int) = wsum [ev 7] by decide +kernel]; exact weight_s h (i := 0) rfl
  have t1 : ∀ M b1 b2 w1, Apt w w1 [obB M 1 0 [ev 7] 0, obE b1 2 0 1, obE b2 2 1 0] → Calls Tryd.prog 18 #[.pointer (some ⟨M + 1, 0, none⟩)] w1 fun e w' => e = .returned (.tuple #[.agg #[.int .i64 1, .int .i64 7, .int .i64 7, .int .i64 7], .bool true]) ∧ Apt w w' [obB M 1 1 [] 0, obE b1 2 0 1, obE b2 2 1 0] := fun M b1 b2 w1 h => by
    rw [← e7v]; exact take_s h (i := 0) rfl (by decide)
  have r4 : ∀ M b1 b2 E w1, Apt w w1 [obB M 1 1 [] 0, obE b1 2 0 1, obE b2 2 1 0, obBlk E 30 #[.int .i64 1, .int .i64 7, .int .i64 7, .int .i64 7]] → Calls Tryd.prog 11 #[.pointer (some ⟨M + 1, 0, none⟩)] w1 fun e w' => e = .returned .nilIface ∧ Apt w w' [obB M 1 1 [] 1, obE b1 2 0 1, obE b2 2 1 0, obBlk E 30 #[.int .i64 1, .int .i64 7, .int .i64 7, .int .i64 7]] := fun M b1 b2 E w1 h => reserve_y h (i := 0) rfl (by decide)
  have n1 : ∀ M b1 b2 E w1, Apt w w1 [obB M 1 1 [] 1, obE b1 2 0 1, obE b2 2 1 0, obBlk E 30 #[.int .i64 1, .int .i64 7, .int .i64 7, .int .i64 7]] → Calls Tryd.prog 26 #[.iface 55 (.pointer (some ⟨b1, 0, none⟩))] w1 fun e w' => e = .returned (.int .i64 2) ∧ Apt w w' [obB M 1 1 [] 1, obE b1 2 0 1, obE b2 2 1 0, obBlk E 30 #[.int .i64 1, .int .i64 7, .int .i64 7, .int .i64 7]] := fun M b1 b2 E w1 h => number_s h hl (i := 1) rfl (by decide)
  have n2 : ∀ M b1 b2 E w1, Apt w w1 [obB M 1 1 [] 1, obE b1 2 0 1, obE b2 2 1 0, obBlk E 30 #[.int .i64 1, .int .i64 7, .int .i64 7, .int .i64 7]] → Calls Tryd.prog 26 #[.iface 55 (.pointer (some ⟨b2, 0, none⟩))] w1 fun e w' => e = .returned (.int .i64 2) ∧ Apt w w' [obB M 1 1 [] 1, obE b1 2 0 1, obE b2 2 1 0, obBlk E 30 #[.int .i64 1, .int .i64 7, .int .i64 7, .int .i64 7]] := fun M b1 b2 E w1 h => number_s h hl (i := 2) rfl (by decide)
  have ca1 : ∀ M b1 b2 E w1, Apt w w1 [obB M 1 1 [] 1, obE b1 2 0 1, obE b2 2 1 0, obBlk E 30 #[.int .i64 1, .int .i64 7, .int .i64 7, .int .i64 7]] → Calls Tryd.prog 16 #[.pointer (some ⟨M + 1, 0, none⟩)] w1 fun e w' => e = .returned (.int .i64 0) ∧ Apt w w' [obB M 1 1 [] 0, obE b1 2 0 1, obE b2 2 1 0, obBlk E 30 #[.int .i64 1, .int .i64 7, .int .i64 7, .int .i64 7]] := fun M b1 b2 E w1 h => cancel_s h (i := 0) rfl
  have ca2 : ∀ M b1 b2 E w1, Apt w w1 [obB M 1 1 [] 0, obE b1 2 0 1, obE b2 2 1 0, obBlk E 30 #[.int .i64 1, .int .i64 7, .int .i64 7, .int .i64 7]] → Calls Tryd.prog 16 #[.pointer (some ⟨M + 1, 0, none⟩)] w1 fun e w' => e = .returned (.int .i64 3) ∧ Apt w w' [obB M 1 1 [] 0, obE b1 2 0 1, obE b2 2 1 0, obBlk E 30 #[.int .i64 1, .int .i64 7, .int .i64 7, .int .i64 7]] := fun M b1 b2 E w1 h => cancel_s h (i := 0) rfl
  clear e1
  have he := eqEv
  unfold ptr at n0
  go_enter Tryd.func7, Tryd.ntmps7
  go_wp2_with (first
    | (go_at_call 8; refine (n0).mono ?_; rintro e w1 ⟨M, rfl, h1⟩; clear n0; have h1 : Hid (Apt w _ [obB M 1 0 [] 0]) := h1)
    | (go_at_call 11; refine (r1 _ _ h1.out).mono ?_; rintro e w2 ⟨rfl, h2⟩; clear r1 h1; have h2 : Hid (Apt w _ [obB M 1 0 [] 1]) := h2)
    | (go_at_call 11; refine (r2 _ _ h2.out).mono ?_; rintro e w3 ⟨b1, rfl, h3⟩; clear r2 h2; have h3 : Hid (Apt w _ [obB M 1 0 [] 1, obE b1 2 0 1]) := h3)
    | (go_at_call 10; refine (ev7 _ _ h3.out).mono ?_; rintro e w4 ⟨rfl, h4⟩; clear h3; have h4 : Hid (Apt w _ [obB M 1 0 [] 1, obE b1 2 0 1]) := h4)
    | (go_at_call 14; refine (c1 _ _ _ h4.out).mono ?_; rintro e w5 ⟨rfl, h5⟩; clear c1 h4; have h5 : Hid (Apt w _ [obB M 1 0 [ev 7] 0, obE b1 2 0 1]) := h5)
    | (go_at_call 11; refine (r3 _ _ _ h5.out).mono ?_; rintro e w6 ⟨b2, rfl, h6⟩; clear r3 h5; have h6 : Hid (Apt w _ [obB M 1 0 [ev 7] 0, obE b1 2 0 1, obE b2 2 1 0]) := h6)
    | (go_at_call 23; refine (we1 _ _ _ _ h6.out).mono ?_; rintro e w7 ⟨rfl, hw⟩; have hw := hw.symm; subst hw; clear we1)
    | (go_at_call 18; refine (t1 _ _ _ _ h6.out).mono ?_; rintro e w7 ⟨rfl, h7⟩; clear t1 h6; have h7 : Hid (Apt w _ [obB M 1 1 [] 0, obE b1 2 0 1, obE b2 2 1 0]) := h7; have hZ := blk_alloc_new w7 (.cells #[.int .i64 0, .int .i64 0, .int .i64 0, .int .i64 0] 30))
    | (refine wpList_store_ev rfl rfl (.tmp 7) (.tmp 27) rfl w7.heap.size rfl rfl hZ rfl ?_; intro w8 hE o8; have h8 := h7.out.add (u := obBlk w7.heap.size 30 #[.int .i64 1, .int .i64 7, .int .i64 7, .int .i64 7]) (o8.grown ((Grown.refl w7).alloc _ _) (fun k hk => by omega)) hE (fun k hk => by have hk : k = w7.heap.size := hk; omega); obtain ⟨E, hEE⟩ : ∃ E, Hid (E = w7.heap.size) := ⟨_, rfl⟩; rw [← hEE.out] at h8 ⊢; clear h7 o8 hZ hE; have h8 : Hid (Apt w _ [obB M 1 1 [] 0, obE b1 2 0 1, obE b2 2 1 0, obBlk E 30 #[.int .i64 1, .int .i64 7, .int .i64 7, .int .i64 7]]) := h8)
    | (go_at_call 11; refine (r4 _ _ _ _ _ h8.out).mono ?_; rintro e w9 ⟨rfl, h9⟩; clear r4 h8; have h8 : Hid (Apt w _ [obB M 1 1 [] 1, obE b1 2 0 1, obE b2 2 1 0, obBlk E 30 #[.int .i64 1, .int .i64 7, .int .i64 7, .int .i64 7]]) := h9; clear h9))
  have n1 := n1 M b1 b2 E
  have n2 := n2 M b1 b2 E
  have ca1 := ca1 M b1 b2 E
  have ca2 := ca2 M b1 b2 E
  have ev7 := ev7 [obB M 1 1 [] 1, obE b1 2 0 1, obE b2 2 1 0, obBlk E 30 #[.int .i64 1, .int .i64 7, .int .i64 7, .int .i64 7]]
  obtain ⟨k0, k1, k2, k3, lE⟩ := ev_cells (h8.out.all 3 _ rfl)
  refine region_flowG [(4, [5, 6, 7, 8, 9, 10, 11, 12]), (13, [14, 15, 16, 17, 18, 19, 20, 21]), (22, [23, 24, 25, 26, 27, 28, 29, 30, 31, 32, 33]), (34, [35, 36, 37, 38]), (39, [40, 41, 42, 43]), (44, [45, 46]), (47, [])] 47 [(31, .nilIface), (32, .bool true), (33, .bool true), (34, .iface 55 (.pointer (some ⟨b1, 0, none⟩)))] hmx (by kernel_rfl) (by decide) (by kernel_rfl) ?_
  simp only [fills, Act.put, List.setIfInBounds_toArray, List.set_cons_zero, List.set_cons_succ]
  refine flowG_only (4, [5, 6, 7, 8, 9, 10, 11, 12]) [(13, [14, 15, 16, 17, 18, 19, 20, 21]), (22, [23, 24, 25, 26, 27, 28, 29, 30, 31, 32, 33]), (34, [35, 36, 37, 38]), (39, [40, 41, 42, 43]), (44, [45, 46]), (47, [])] (by kernel_rfl) rfl ?run (stepG_call _ (some 35) 26 #[.iface 55 (.pointer (some ⟨b1, 0, none⟩))] rfl rfl (wanted_ev rfl rfl rfl rfl) (by go_simp) ((n1 _ h8.out.drew).mono ?_))
  case run =>
    clear n1 n2 ev7 ca1 ca2
    refine runsG_hide [(1, .pointer (some ⟨M + 1, 0, none⟩)), (2, .nilIface), (3, .iface 55 (.pointer (some ⟨b1, 0, none⟩))), (4, .int .i64 0), (5, .iface 55 (.pointer (some ⟨b2, 0, none⟩))), (6, .int .i64 7), (7, .pointer (some ⟨E, 0, none⟩)), (8, .bool true), (9, .nilIface), (31, .nilIface), (32, .bool true), (33, .bool true), (34, .iface 55 (.pointer (some ⟨b1, 0, none⟩)))] ⟨rfl, rfl, rfl, rfl, rfl, rfl, rfl, rfl, rfl, rfl, rfl, rfl, rfl, trivial⟩ ?_
    rintro A ⟨e1, e2, e3, e4, e5, e6, e7, e8, e9, e31, e32, e33, e34, _⟩
    intro i o ho h1 h2
    rcases i with _ | i
    · cases ho; exact Or.inl ⟨wanted_none rfl, by go_simp⟩
    rcases i with _ | i
    · cases ho; exact Or.inl ⟨wanted_none rfl, by go_simp⟩
    rcases i with _ | i
    · cases ho; exact Or.inl ⟨wanted_none rfl, by go_simp⟩
    rcases i with _ | i
    · cases ho; exact Or.inl ⟨wanted_ev rfl rfl rfl (by assumption), by go_simp⟩
    rcases i with _ | i
    · exact absurd h1 (by decide)
    rcases i with _ | i
    · exact absurd h2 (by decide)
    rcases i with _ | i
    · exact absurd h2 (by decide)
    rcases i with _ | i
    · exact absurd h2 (by decide)
    rcases i with _ | i
    · exact absurd h2 (by decide)
    rcases i with _ | i
    · exact absurd h2 (by decide)
    rcases i with _ | i
    · exact absurd h2 (by decide)
    rcases i with _ | i
    · exact absurd h2 (by decide)
    rcases i with _ | i
    · exact absurd h2 (by decide)
    rcases i with _ | i
    · exact absurd h1 (by decide)
    rcases i with _ | i
    · exact absurd h2 (by decide)
    rcases i with _ | i
    · exact absurd h2 (by decide)
    rcases i with _ | i
    · exact absurd h2 (by decide)
    rcases i with _ | i
    · exact absurd h2 (by decide)
    rcases i with _ | i
    · exact absurd h2 (by decide)
    rcases i with _ | i
    · exact absurd h2 (by decide)
    rcases i with _ | i
    · exact absurd h2 (by decide)
    rcases i with _ | i
    · exact absurd h2 (by decide)
    rcases i with _ | i
    · exact absurd h1 (by decide)
    rcases i with _ | i
    · exact absurd h2 (by decide)
    rcases i with _ | i
    · exact absurd h2 (by decide)
    rcases i with _ | i
    · exact absurd h2 (by decide)
    rcases i with _ | i
    · exact absurd h2 (by decide)
    rcases i with _ | i
    · exact absurd h2 (by decide)
    rcases i with _ | i
    · exact absurd h2 (by decide)
    rcases i with _ | i
    · exact absurd h2 (by decide)
    rcases i with _ | i
    · exact absurd h2 (by decide)
    rcases i with _ | i
    · exact absurd h2 (by decide)
    rcases i with _ | i
    · exact absurd h2 (by decide)
    rcases i with _ | i
    · exact absurd h2 (by decide)
    rcases i with _ | i
    · exact absurd h1 (by decide)
    rcases i with _ | i
    · exact absurd h2 (by decide)
    rcases i with _ | i
    · exact absurd h2 (by decide)
    rcases i with _ | i
    · exact absurd h2 (by decide)
    rcases i with _ | i
    · exact absurd h2 (by decide)
    rcases i with _ | i
    · exact absurd h1 (by decide)
    rcases i with _ | i
    · exact absurd h2 (by decide)
    rcases i with _ | i
    · exact absurd h2 (by decide)
    rcases i with _ | i
    · exact absurd h2 (by decide)
    rcases i with _ | i
    · exact absurd h2 (by decide)
    rcases i with _ | i
    · exact absurd h1 (by decide)
    rcases i with _ | i
    · exact absurd h2 (by decide)
    rcases i with _ | i
    · exact absurd h2 (by decide)
    rcases i with _ | i
    · exact absurd h1 (by decide)
    cases ho
  rintro e w10 ⟨rfl, h9⟩
  refine ⟨_, rfl, [(36, .bool true), (37, .bool true), (38, .bool true), (39, .int .i64 0), (40, .bool true), (41, .bool true), (42, .bool true), (43, .iface 55 (.pointer (some ⟨b2, 0, none⟩)))], by kernel_rfl, ?_⟩
  simp only [fills, Act.put, List.setIfInBounds_toArray, List.set_cons_zero, List.set_cons_succ]
  clear n1 h8 k0 k1 k2 k3 lE
  have h9 : Hid (Apt w _ [obB M 1 1 [] 1, obE b1 2 0 1, obE b2 2 1 0, obBlk E 30 #[.int .i64 1, .int .i64 7, .int .i64 7, .int .i64 7]]) := h9
  obtain ⟨k0, k1, k2, k3, lE⟩ := ev_cells (h9.out.all 3 _ rfl)
  refine flowG_only (13, [14, 15, 16, 17, 18, 19, 20, 21]) [(22, [23, 24, 25, 26, 27, 28, 29, 30, 31, 32, 33]), (34, [35, 36, 37, 38]), (39, [40, 41, 42, 43]), (44, [45, 46]), (47, [])] (by kernel_rfl) rfl ?run (stepG_call _ (some 44) 26 #[.iface 55 (.pointer (some ⟨b2, 0, none⟩))] rfl rfl (wanted_ev rfl rfl rfl rfl) (by go_simp) ((n2 _ h9.out).mono ?_))
  case run =>
    clear n2 ev7 ca1 ca2
    refine runsG_hide [(1, .pointer (some ⟨M + 1, 0, none⟩)), (2, .nilIface), (3, .iface 55 (.pointer (some ⟨b1, 0, none⟩))), (4, .int .i64 0), (5, .iface 55 (.pointer (some ⟨b2, 0, none⟩))), (6, .int .i64 7), (7, .pointer (some ⟨E, 0, none⟩)), (8, .bool true), (9, .nilIface), (31, .nilIface), (32, .bool true), (33, .bool true), (34, .iface 55 (.pointer (some ⟨b1, 0, none⟩))), (35, .int .i64 2), (36, .bool true), (37, .bool true), (38, .bool true), (39, .int .i64 0), (40, .bool true), (41, .bool true), (42, .bool true), (43, .iface 55 (.pointer (some ⟨b2, 0, none⟩)))] ⟨rfl, rfl, rfl, rfl, rfl, rfl, rfl, rfl, rfl, rfl, rfl, rfl, rfl, rfl, rfl, rfl, rfl, rfl, rfl, rfl, rfl, rfl, trivial⟩ ?_
    rintro A ⟨e1, e2, e3, e4, e5, e6, e7, e8, e9, e31, e32, e33, e34, e35, e36, e37, e38, e39, e40, e41, e42, e43, _⟩
    intro i o ho h1 h2
    rcases i with _ | i
    · cases ho; exact Or.inl ⟨wanted_none rfl, by go_simp⟩
    rcases i with _ | i
    · cases ho; exact Or.inl ⟨wanted_none rfl, by go_simp⟩
    rcases i with _ | i
    · cases ho; exact Or.inl ⟨wanted_none rfl, by go_simp⟩
    rcases i with _ | i
    · cases ho; exact Or.inl ⟨wanted_ev rfl rfl rfl (by assumption), by go_simp⟩
    rcases i with _ | i
    · exact absurd h1 (by decide)
    rcases i with _ | i
    · cases ho; exact Or.inl ⟨wanted_ev rfl rfl rfl (by assumption), by go_simp⟩
    rcases i with _ | i
    · cases ho; exact Or.inl ⟨wanted_none rfl, by go_simp⟩
    rcases i with _ | i
    · cases ho; exact Or.inl ⟨wanted_none rfl, by go_simp⟩
    rcases i with _ | i
    · cases ho; exact Or.inl ⟨wanted_ev rfl rfl rfl (by assumption), by go_simp⟩
    rcases i with _ | i
    · cases ho; exact Or.inl ⟨wanted_ev rfl rfl rfl (by assumption), by go_simp⟩
    rcases i with _ | i
    · cases ho; exact Or.inl ⟨wanted_none rfl, by go_simp⟩
    rcases i with _ | i
    · cases ho; exact Or.inl ⟨wanted_none rfl, by go_simp⟩
    rcases i with _ | i
    · cases ho; exact Or.inl ⟨wanted_ev rfl rfl rfl (by assumption), by go_simp⟩
    rcases i with _ | i
    · exact absurd h1 (by decide)
    rcases i with _ | i
    · exact absurd h2 (by decide)
    rcases i with _ | i
    · exact absurd h2 (by decide)
    rcases i with _ | i
    · exact absurd h2 (by decide)
    rcases i with _ | i
    · exact absurd h2 (by decide)
    rcases i with _ | i
    · exact absurd h2 (by decide)
    rcases i with _ | i
    · exact absurd h2 (by decide)
    rcases i with _ | i
    · exact absurd h2 (by decide)
    rcases i with _ | i
    · exact absurd h2 (by decide)
    rcases i with _ | i
    · exact absurd h1 (by decide)
    rcases i with _ | i
    · exact absurd h2 (by decide)
    rcases i with _ | i
    · exact absurd h2 (by decide)
    rcases i with _ | i
    · exact absurd h2 (by decide)
    rcases i with _ | i
    · exact absurd h2 (by decide)
    rcases i with _ | i
    · exact absurd h2 (by decide)
    rcases i with _ | i
    · exact absurd h2 (by decide)
    rcases i with _ | i
    · exact absurd h2 (by decide)
    rcases i with _ | i
    · exact absurd h2 (by decide)
    rcases i with _ | i
    · exact absurd h2 (by decide)
    rcases i with _ | i
    · exact absurd h2 (by decide)
    rcases i with _ | i
    · exact absurd h2 (by decide)
    rcases i with _ | i
    · exact absurd h1 (by decide)
    rcases i with _ | i
    · exact absurd h2 (by decide)
    rcases i with _ | i
    · exact absurd h2 (by decide)
    rcases i with _ | i
    · exact absurd h2 (by decide)
    rcases i with _ | i
    · exact absurd h2 (by decide)
    rcases i with _ | i
    · exact absurd h1 (by decide)
    rcases i with _ | i
    · exact absurd h2 (by decide)
    rcases i with _ | i
    · exact absurd h2 (by decide)
    rcases i with _ | i
    · exact absurd h2 (by decide)
    rcases i with _ | i
    · exact absurd h2 (by decide)
    rcases i with _ | i
    · exact absurd h1 (by decide)
    rcases i with _ | i
    · exact absurd h2 (by decide)
    rcases i with _ | i
    · exact absurd h2 (by decide)
    rcases i with _ | i
    · exact absurd h1 (by decide)
    cases ho
  rintro e w11 ⟨rfl, h10⟩
  refine ⟨_, rfl, [(45, .bool true), (46, .bool true), (47, .bool true), (48, .int .i64 7), (49, .bool true), (50, .bool true), (51, .bool true), (52, .agg #[.int .i64 1, .int .i64 7, .int .i64 7, .int .i64 7])], by kernel_rfl, ?_⟩
  simp only [fills, Act.put, List.setIfInBounds_toArray, List.set_cons_zero, List.set_cons_succ]
  clear n2 h9 k0 k1 k2 k3 lE
  have h10 : Hid (Apt w _ [obB M 1 1 [] 1, obE b1 2 0 1, obE b2 2 1 0, obBlk E 30 #[.int .i64 1, .int .i64 7, .int .i64 7, .int .i64 7]]) := h10
  obtain ⟨k0, k1, k2, k3, lE⟩ := ev_cells (h10.out.all 3 _ rfl)
  refine flowG_only (22, [23, 24, 25, 26, 27, 28, 29, 30, 31, 32, 33]) [(34, [35, 36, 37, 38]), (39, [40, 41, 42, 43]), (44, [45, 46]), (47, [])] (by kernel_rfl) rfl ?run (stepG_call _ (some 53) 10 #[.int .i64 7] rfl rfl (wanted_ev rfl rfl rfl rfl) (by go_simp) ((ev7 _ h10.out).mono ?_))
  case run =>
    clear ev7 ca1 ca2
    refine runsG_hide [(1, .pointer (some ⟨M + 1, 0, none⟩)), (2, .nilIface), (3, .iface 55 (.pointer (some ⟨b1, 0, none⟩))), (4, .int .i64 0), (5, .iface 55 (.pointer (some ⟨b2, 0, none⟩))), (6, .int .i64 7), (7, .pointer (some ⟨E, 0, none⟩)), (8, .bool true), (9, .nilIface), (31, .nilIface), (32, .bool true), (33, .bool true), (34, .iface 55 (.pointer (some ⟨b1, 0, none⟩))), (35, .int .i64 2), (36, .bool true), (37, .bool true), (38, .bool true), (39, .int .i64 0), (40, .bool true), (41, .bool true), (42, .bool true), (43, .iface 55 (.pointer (some ⟨b2, 0, none⟩))), (44, .int .i64 2), (45, .bool true), (46, .bool true), (47, .bool true), (48, .int .i64 7), (49, .bool true), (50, .bool true), (51, .bool true), (52, .agg #[.int .i64 1, .int .i64 7, .int .i64 7, .int .i64 7])] ⟨rfl, rfl, rfl, rfl, rfl, rfl, rfl, rfl, rfl, rfl, rfl, rfl, rfl, rfl, rfl, rfl, rfl, rfl, rfl, rfl, rfl, rfl, rfl, rfl, rfl, rfl, rfl, rfl, rfl, rfl, rfl, trivial⟩ ?_
    rintro A ⟨e1, e2, e3, e4, e5, e6, e7, e8, e9, e31, e32, e33, e34, e35, e36, e37, e38, e39, e40, e41, e42, e43, e44, e45, e46, e47, e48, e49, e50, e51, e52, _⟩
    intro i o ho h1 h2
    rcases i with _ | i
    · cases ho; exact Or.inl ⟨wanted_none rfl, by go_simp⟩
    rcases i with _ | i
    · cases ho; exact Or.inl ⟨wanted_none rfl, by go_simp⟩
    rcases i with _ | i
    · cases ho; exact Or.inl ⟨wanted_none rfl, by go_simp⟩
    rcases i with _ | i
    · cases ho; exact Or.inl ⟨wanted_ev rfl rfl rfl (by assumption), by go_simp⟩
    rcases i with _ | i
    · exact absurd h1 (by decide)
    rcases i with _ | i
    · cases ho; exact Or.inl ⟨wanted_ev rfl rfl rfl (by assumption), by go_simp⟩
    rcases i with _ | i
    · cases ho; exact Or.inl ⟨wanted_none rfl, by go_simp⟩
    rcases i with _ | i
    · cases ho; exact Or.inl ⟨wanted_none rfl, by go_simp⟩
    rcases i with _ | i
    · cases ho; exact Or.inl ⟨wanted_ev rfl rfl rfl (by assumption), by go_simp⟩
    rcases i with _ | i
    · cases ho; exact Or.inl ⟨wanted_ev rfl rfl rfl (by assumption), by go_simp⟩
    rcases i with _ | i
    · cases ho; exact Or.inl ⟨wanted_none rfl, by go_simp⟩
    rcases i with _ | i
    · cases ho; exact Or.inl ⟨wanted_none rfl, by go_simp⟩
    rcases i with _ | i
    · cases ho; exact Or.inl ⟨wanted_ev rfl rfl rfl (by assumption), by go_simp⟩
    rcases i with _ | i
    · exact absurd h1 (by decide)
    rcases i with _ | i
    · cases ho; exact Or.inl ⟨wanted_ev rfl rfl rfl (by assumption), by go_simp⟩
    rcases i with _ | i
    · cases ho; exact Or.inl ⟨wanted_none rfl, by go_simp⟩
    rcases i with _ | i
    · cases ho; exact Or.inl ⟨wanted_none rfl, by go_simp⟩
    rcases i with _ | i
    · cases ho; exact Or.inl ⟨wanted_ev rfl rfl rfl (by assumption), by go_simp⟩
    rcases i with _ | i
    · cases ho; exact Or.inl ⟨wanted_ev rfl rfl rfl (by assumption), by go_simp⟩
    rcases i with _ | i
    · cases ho; exact Or.inl ⟨wanted_none rfl, by go_simp⟩
    rcases i with _ | i
    · cases ho; exact Or.inl ⟨wanted_none rfl, by go_simp⟩
    rcases i with _ | i
    · cases ho; exact Or.inl ⟨wanted_ev rfl rfl rfl (by assumption), by go_simp⟩
    rcases i with _ | i
    · exact absurd h1 (by decide)
    rcases i with _ | i
    · exact absurd h2 (by decide)
    rcases i with _ | i
    · exact absurd h2 (by decide)
    rcases i with _ | i
    · exact absurd h2 (by decide)
    rcases i with _ | i
    · exact absurd h2 (by decide)
    rcases i with _ | i
    · exact absurd h2 (by decide)
    rcases i with _ | i
    · exact absurd h2 (by decide)
    rcases i with _ | i
    · exact absurd h2 (by decide)
    rcases i with _ | i
    · exact absurd h2 (by decide)
    rcases i with _ | i
    · exact absurd h2 (by decide)
    rcases i with _ | i
    · exact absurd h2 (by decide)
    rcases i with _ | i
    · exact absurd h2 (by decide)
    rcases i with _ | i
    · exact absurd h1 (by decide)
    rcases i with _ | i
    · exact absurd h2 (by decide)
    rcases i with _ | i
    · exact absurd h2 (by decide)
    rcases i with _ | i
    · exact absurd h2 (by decide)
    rcases i with _ | i
    · exact absurd h2 (by decide)
    rcases i with _ | i
    · exact absurd h1 (by decide)
    rcases i with _ | i
    · exact absurd h2 (by decide)
    rcases i with _ | i
    · exact absurd h2 (by decide)
    rcases i with _ | i
    · exact absurd h2 (by decide)
    rcases i with _ | i
    · exact absurd h2 (by decide)
    rcases i with _ | i
    · exact absurd h1 (by decide)
    rcases i with _ | i
    · exact absurd h2 (by decide)
    rcases i with _ | i
    · exact absurd h2 (by decide)
    rcases i with _ | i
    · exact absurd h1 (by decide)
    cases ho
  rintro e w12 ⟨rfl, h11⟩
  refine ⟨_, rfl, [(54, .bool true), (55, .bool true), (56, .bool true), (57, .bool true), (58, .bool true), (59, .bool true), (60, .nilIface), (61, .bool true), (62, .bool true), (63, .bool true), (64, .pointer (some ⟨M + 1, 0, none⟩))], by kernel_rfl, ?_⟩
  simp only [fills, Act.put, List.setIfInBounds_toArray, List.set_cons_zero, List.set_cons_succ]
  clear ev7 h10 k0 k1 k2 k3 lE
  have h11 : Hid (Apt w _ [obB M 1 1 [] 1, obE b1 2 0 1, obE b2 2 1 0, obBlk E 30 #[.int .i64 1, .int .i64 7, .int .i64 7, .int .i64 7]]) := h11
  obtain ⟨k0, k1, k2, k3, lE⟩ := ev_cells (h11.out.all 3 _ rfl)
  refine flowG_only (34, [35, 36, 37, 38]) [(39, [40, 41, 42, 43]), (44, [45, 46]), (47, [])] (by kernel_rfl) rfl ?run (stepG_call _ (some 65) 16 #[.pointer (some ⟨M + 1, 0, none⟩)] rfl rfl (wanted_ev rfl rfl rfl rfl) (by go_simp) ((ca1 _ h11.out).mono ?_))
  case run =>
    clear ca1 ca2
    refine runsG_hide [(1, .pointer (some ⟨M + 1, 0, none⟩)), (2, .nilIface), (3, .iface 55 (.pointer (some ⟨b1, 0, none⟩))), (4, .int .i64 0), (5, .iface 55 (.pointer (some ⟨b2, 0, none⟩))), (6, .int .i64 7), (7, .pointer (some ⟨E, 0, none⟩)), (8, .bool true), (9, .nilIface), (31, .nilIface), (32, .bool true), (33, .bool true), (34, .iface 55 (.pointer (some ⟨b1, 0, none⟩))), (35, .int .i64 2), (36, .bool true), (37, .bool true), (38, .bool true), (39, .int .i64 0), (40, .bool true), (41, .bool true), (42, .bool true), (43, .iface 55 (.pointer (some ⟨b2, 0, none⟩))), (44, .int .i64 2), (45, .bool true), (46, .bool true), (47, .bool true), (48, .int .i64 7), (49, .bool true), (50, .bool true), (51, .bool true), (52, .agg #[.int .i64 1, .int .i64 7, .int .i64 7, .int .i64 7]), (53, .agg #[.int .i64 1, .int .i64 7, .int .i64 7, .int .i64 7]), (54, .bool true), (55, .bool true), (56, .bool true), (57, .bool true), (58, .bool true), (59, .bool true), (60, .nilIface), (61, .bool true), (62, .bool true), (63, .bool true), (64, .pointer (some ⟨M + 1, 0, none⟩))] ⟨rfl, rfl, rfl, rfl, rfl, rfl, rfl, rfl, rfl, rfl, rfl, rfl, rfl, rfl, rfl, rfl, rfl, rfl, rfl, rfl, rfl, rfl, rfl, rfl, rfl, rfl, rfl, rfl, rfl, rfl, rfl, rfl, rfl, rfl, rfl, rfl, rfl, rfl, rfl, rfl, rfl, rfl, rfl, trivial⟩ ?_
    rintro A ⟨e1, e2, e3, e4, e5, e6, e7, e8, e9, e31, e32, e33, e34, e35, e36, e37, e38, e39, e40, e41, e42, e43, e44, e45, e46, e47, e48, e49, e50, e51, e52, e53, e54, e55, e56, e57, e58, e59, e60, e61, e62, e63, e64, _⟩
    intro i o ho h1 h2
    rcases i with _ | i
    · cases ho; exact Or.inl ⟨wanted_none rfl, by go_simp⟩
    rcases i with _ | i
    · cases ho; exact Or.inl ⟨wanted_none rfl, by go_simp⟩
    rcases i with _ | i
    · cases ho; exact Or.inl ⟨wanted_none rfl, by go_simp⟩
    rcases i with _ | i
    · cases ho; exact Or.inl ⟨wanted_ev rfl rfl rfl (by assumption), by go_simp⟩
    rcases i with _ | i
    · exact absurd h1 (by decide)
    rcases i with _ | i
    · cases ho; exact Or.inl ⟨wanted_ev rfl rfl rfl (by assumption), by go_simp⟩
    rcases i with _ | i
    · cases ho; exact Or.inl ⟨wanted_none rfl, by go_simp⟩
    rcases i with _ | i
    · cases ho; exact Or.inl ⟨wanted_none rfl, by go_simp⟩
    rcases i with _ | i
    · cases ho; exact Or.inl ⟨wanted_ev rfl rfl rfl (by assumption), by go_simp⟩
    rcases i with _ | i
    · cases ho; exact Or.inl ⟨wanted_ev rfl rfl rfl (by assumption), by go_simp⟩
    rcases i with _ | i
    · cases ho; exact Or.inl ⟨wanted_none rfl, by go_simp⟩
    rcases i with _ | i
    · cases ho; exact Or.inl ⟨wanted_none rfl, by go_simp⟩
    rcases i with _ | i
    · cases ho; exact Or.inl ⟨wanted_ev rfl rfl rfl (by assumption), by go_simp⟩
    rcases i with _ | i
    · exact absurd h1 (by decide)
    rcases i with _ | i
    · cases ho; exact Or.inl ⟨wanted_ev rfl rfl rfl (by assumption), by go_simp⟩
    rcases i with _ | i
    · cases ho; exact Or.inl ⟨wanted_none rfl, by go_simp⟩
    rcases i with _ | i
    · cases ho; exact Or.inl ⟨wanted_none rfl, by go_simp⟩
    rcases i with _ | i
    · cases ho; exact Or.inl ⟨wanted_ev rfl rfl rfl (by assumption), by go_simp⟩
    rcases i with _ | i
    · cases ho; exact Or.inl ⟨wanted_ev rfl rfl rfl (by assumption), by go_simp⟩
    rcases i with _ | i
    · cases ho; exact Or.inl ⟨wanted_none rfl, by go_simp⟩
    rcases i with _ | i
    · cases ho; exact Or.inl ⟨wanted_none rfl, by go_simp⟩
    rcases i with _ | i
    · cases ho; exact Or.inl ⟨wanted_ev rfl rfl rfl (by assumption), by go_simp⟩
    rcases i with _ | i
    · exact absurd h1 (by decide)
    rcases i with _ | i
    · cases ho; exact Or.inl ⟨wanted_ev rfl rfl rfl (by assumption), by go_simp⟩
    rcases i with _ | i
    · cases ho; exact Or.inl ⟨wanted_none rfl, by go_simp⟩
    rcases i with _ | i
    · cases ho; exact Or.inl ⟨wanted_none rfl, by go_simp⟩
    rcases i with _ | i
    · cases ho; exact Or.inl ⟨wanted_ev rfl rfl rfl (by assumption), by go_simp⟩
    rcases i with _ | i
    · cases ho; exact Or.inl ⟨wanted_none rfl, by go_simp⟩
    rcases i with _ | i
    · cases ho; exact Or.inl ⟨wanted_none rfl, by go_simp⟩
    rcases i with _ | i
    · cases ho; exact Or.inl ⟨wanted_ev rfl rfl rfl (by assumption), by go_simp⟩
    rcases i with _ | i
    · cases ho; exact Or.inl ⟨wanted_ev rfl rfl rfl (by assumption), by go_simp⟩
    rcases i with _ | i
    · cases ho; exact Or.inl ⟨wanted_none rfl, by go_simp⟩
    rcases i with _ | i
    · cases ho; exact Or.inl ⟨wanted_none rfl, by go_simp⟩
    rcases i with _ | i
    · cases ho; exact Or.inl ⟨wanted_ev rfl rfl rfl (by assumption), by go_simp⟩
    rcases i with _ | i
    · exact absurd h1 (by decide)
    rcases i with _ | i
    · exact absurd h2 (by decide)
    rcases i with _ | i
    · exact absurd h2 (by decide)
    rcases i with _ | i
    · exact absurd h2 (by decide)
    rcases i with _ | i
    · exact absurd h2 (by decide)
    rcases i with _ | i
    · exact absurd h1 (by decide)
    rcases i with _ | i
    · exact absurd h2 (by decide)
    rcases i with _ | i
    · exact absurd h2 (by decide)
    rcases i with _ | i
    · exact absurd h2 (by decide)
    rcases i with _ | i
    · exact absurd h2 (by decide)
    rcases i with _ | i
    · exact absurd h1 (by decide)
    rcases i with _ | i
    · exact absurd h2 (by decide)
    rcases i with _ | i
    · exact absurd h2 (by decide)
    rcases i with _ | i
    · exact absurd h1 (by decide)
    cases ho
  rintro e w13 ⟨rfl, h12⟩
  refine ⟨_, rfl, [(66, .bool true), (67, .bool true), (68, .bool true), (69, .pointer (some ⟨M + 1, 0, none⟩))], by kernel_rfl, ?_⟩
  simp only [fills, Act.put, List.setIfInBounds_toArray, List.set_cons_zero, List.set_cons_succ]
  clear ca1 h11 k0 k1 k2 k3 lE
  have h12 : Hid (Apt w _ [obB M 1 1 [] 0, obE b1 2 0 1, obE b2 2 1 0, obBlk E 30 #[.int .i64 1, .int .i64 7, .int .i64 7, .int .i64 7]]) := h12
  obtain ⟨k0, k1, k2, k3, lE⟩ := ev_cells (h12.out.all 3 _ rfl)
  refine flowG_only (39, [40, 41, 42, 43]) [(44, [45, 46]), (47, [])] (by kernel_rfl) rfl ?run (stepG_call _ (some 70) 16 #[.pointer (some ⟨M + 1, 0, none⟩)] rfl rfl (wanted_ev rfl rfl rfl rfl) (by go_simp) ((ca2 _ h12.out).mono ?_))
  case run =>
    clear ca2
    refine runsG_hide [(1, .pointer (some ⟨M + 1, 0, none⟩)), (2, .nilIface), (3, .iface 55 (.pointer (some ⟨b1, 0, none⟩))), (4, .int .i64 0), (5, .iface 55 (.pointer (some ⟨b2, 0, none⟩))), (6, .int .i64 7), (7, .pointer (some ⟨E, 0, none⟩)), (8, .bool true), (9, .nilIface), (31, .nilIface), (32, .bool true), (33, .bool true), (34, .iface 55 (.pointer (some ⟨b1, 0, none⟩))), (35, .int .i64 2), (36, .bool true), (37, .bool true), (38, .bool true), (39, .int .i64 0), (40, .bool true), (41, .bool true), (42, .bool true), (43, .iface 55 (.pointer (some ⟨b2, 0, none⟩))), (44, .int .i64 2), (45, .bool true), (46, .bool true), (47, .bool true), (48, .int .i64 7), (49, .bool true), (50, .bool true), (51, .bool true), (52, .agg #[.int .i64 1, .int .i64 7, .int .i64 7, .int .i64 7]), (53, .agg #[.int .i64 1, .int .i64 7, .int .i64 7, .int .i64 7]), (54, .bool true), (55, .bool true), (56, .bool true), (57, .bool true), (58, .bool true), (59, .bool true), (60, .nilIface), (61, .bool true), (62, .bool true), (63, .bool true), (64, .pointer (some ⟨M + 1, 0, none⟩)), (65, .int .i64 0), (66, .bool true), (67, .bool true), (68, .bool true), (69, .pointer (some ⟨M + 1, 0, none⟩))] ⟨rfl, rfl, rfl, rfl, rfl, rfl, rfl, rfl, rfl, rfl, rfl, rfl, rfl, rfl, rfl, rfl, rfl, rfl, rfl, rfl, rfl, rfl, rfl, rfl, rfl, rfl, rfl, rfl, rfl, rfl, rfl, rfl, rfl, rfl, rfl, rfl, rfl, rfl, rfl, rfl, rfl, rfl, rfl, rfl, rfl, rfl, rfl, rfl, trivial⟩ ?_
    rintro A ⟨e1, e2, e3, e4, e5, e6, e7, e8, e9, e31, e32, e33, e34, e35, e36, e37, e38, e39, e40, e41, e42, e43, e44, e45, e46, e47, e48, e49, e50, e51, e52, e53, e54, e55, e56, e57, e58, e59, e60, e61, e62, e63, e64, e65, e66, e67, e68, e69, _⟩
    intro i o ho h1 h2
    rcases i with _ | i
    · cases ho; exact Or.inl ⟨wanted_none rfl, by go_simp⟩
    rcases i with _ | i
    · cases ho; exact Or.inl ⟨wanted_none rfl, by go_simp⟩
    rcases i with _ | i
    · cases ho; exact Or.inl ⟨wanted_none rfl, by go_simp⟩
    rcases i with _ | i
    · cases ho; exact Or.inl ⟨wanted_ev rfl rfl rfl (by assumption), by go_simp⟩
    rcases i with _ | i
    · exact absurd h1 (by decide)
    rcases i with _ | i
    · cases ho; exact Or.inl ⟨wanted_ev rfl rfl rfl (by assumption), by go_simp⟩
    rcases i with _ | i
    · cases ho; exact Or.inl ⟨wanted_none rfl, by go_simp⟩
    rcases i with _ | i
    · cases ho; exact Or.inl ⟨wanted_none rfl, by go_simp⟩
    rcases i with _ | i
    · cases ho; exact Or.inl ⟨wanted_ev rfl rfl rfl (by assumption), by go_simp⟩
    rcases i with _ | i
    · cases ho; exact Or.inl ⟨wanted_ev rfl rfl rfl (by assumption), by go_simp⟩
    rcases i with _ | i
    · cases ho; exact Or.inl ⟨wanted_none rfl, by go_simp⟩
    rcases i with _ | i
    · cases ho; exact Or.inl ⟨wanted_none rfl, by go_simp⟩
    rcases i with _ | i
    · cases ho; exact Or.inl ⟨wanted_ev rfl rfl rfl (by assumption), by go_simp⟩
    rcases i with _ | i
    · exact absurd h1 (by decide)
    rcases i with _ | i
    · cases ho; exact Or.inl ⟨wanted_ev rfl rfl rfl (by assumption), by go_simp⟩
    rcases i with _ | i
    · cases ho; exact Or.inl ⟨wanted_none rfl, by go_simp⟩
    rcases i with _ | i
    · cases ho; exact Or.inl ⟨wanted_none rfl, by go_simp⟩
    rcases i with _ | i
    · cases ho; exact Or.inl ⟨wanted_ev rfl rfl rfl (by assumption), by go_simp⟩
    rcases i with _ | i
    · cases ho; exact Or.inl ⟨wanted_ev rfl rfl rfl (by assumption), by go_simp⟩
    rcases i with _ | i
    · cases ho; exact Or.inl ⟨wanted_none rfl, by go_simp⟩
    rcases i with _ | i
    · cases ho; exact Or.inl ⟨wanted_none rfl, by go_simp⟩
    rcases i with _ | i
    · cases ho; exact Or.inl ⟨wanted_ev rfl rfl rfl (by assumption), by go_simp⟩
    rcases i with _ | i
    · exact absurd h1 (by decide)
    rcases i with _ | i
    · cases ho; exact Or.inl ⟨wanted_ev rfl rfl rfl (by assumption), by go_simp⟩
    rcases i with _ | i
    · cases ho; exact Or.inl ⟨wanted_none rfl, by go_simp⟩
    rcases i with _ | i
    · cases ho; exact Or.inl ⟨wanted_none rfl, by go_simp⟩
    rcases i with _ | i
    · cases ho; exact Or.inl ⟨wanted_ev rfl rfl rfl (by assumption), by go_simp⟩
    rcases i with _ | i
    · cases ho; exact Or.inl ⟨wanted_none rfl, by go_simp⟩
    rcases i with _ | i
    · cases ho; exact Or.inl ⟨wanted_none rfl, by go_simp⟩
    rcases i with _ | i
    · cases ho; exact Or.inl ⟨wanted_ev rfl rfl rfl (by assumption), by go_simp⟩
    rcases i with _ | i
    · cases ho; exact Or.inl ⟨wanted_ev rfl rfl rfl (by assumption), by go_simp⟩
    rcases i with _ | i
    · cases ho; exact Or.inl ⟨wanted_none rfl, by go_simp⟩
    rcases i with _ | i
    · cases ho; exact Or.inl ⟨wanted_none rfl, by go_simp⟩
    rcases i with _ | i
    · cases ho; exact Or.inl ⟨wanted_ev rfl rfl rfl (by assumption), by go_simp⟩
    rcases i with _ | i
    · exact absurd h1 (by decide)
    rcases i with _ | i
    · cases ho; exact Or.inl ⟨wanted_ev rfl rfl rfl (by assumption), by go_simp⟩
    rcases i with _ | i
    · cases ho; exact Or.inl ⟨wanted_none rfl, by go_simp⟩
    rcases i with _ | i
    · cases ho; exact Or.inl ⟨wanted_none rfl, by go_simp⟩
    rcases i with _ | i
    · cases ho; exact Or.inl ⟨wanted_ev rfl rfl rfl (by assumption), by go_simp⟩
    rcases i with _ | i
    · exact absurd h1 (by decide)
    rcases i with _ | i
    · exact absurd h2 (by decide)
    rcases i with _ | i
    · exact absurd h2 (by decide)
    rcases i with _ | i
    · exact absurd h2 (by decide)
    rcases i with _ | i
    · exact absurd h2 (by decide)
    rcases i with _ | i
    · exact absurd h1 (by decide)
    rcases i with _ | i
    · exact absurd h2 (by decide)
    rcases i with _ | i
    · exact absurd h2 (by decide)
    rcases i with _ | i
    · exact absurd h1 (by decide)
    cases ho
  rintro e w14 ⟨rfl, h13⟩
  refine ⟨_, rfl, [(71, .bool true), (72, .bool true), (73, .bool true), (74, .pointer (some ⟨M + 1, 0, none⟩))], by kernel_rfl, ?_⟩
  simp only [fills, Act.put, List.setIfInBounds_toArray, List.set_cons_zero, List.set_cons_succ]
  clear ca2 h12 k0 k1 k2 k3 lE
  have h13 : Hid (Apt w _ [obB M 1 1 [] 0, obE b1 2 0 1, obE b2 2 1 0, obBlk E 30 #[.int .i64 1, .int .i64 7, .int .i64 7, .int .i64 7]]) := h13
  obtain ⟨k0, k1, k2, k3, lE⟩ := ev_cells (h13.out.all 3 _ rfl)
  refine flowG_only (44, [45, 46]) [(47, [])] (by kernel_rfl) rfl ?run (stepG_call _ (some 75) 22 #[.pointer (some ⟨M + 1, 0, none⟩)] rfl rfl (wanted_ev rfl rfl rfl rfl) (by go_simp) ((size_s h13.out (i := 0) rfl).mono ?_))
  case run =>
    refine runsG_hide [(1, .pointer (some ⟨M + 1, 0, none⟩)), (2, .nilIface), (3, .iface 55 (.pointer (some ⟨b1, 0, none⟩))), (4, .int .i64 0), (5, .iface 55 (.pointer (some ⟨b2, 0, none⟩))), (6, .int .i64 7), (7, .pointer (some ⟨E, 0, none⟩)), (8, .bool true), (9, .nilIface), (31, .nilIface), (32, .bool true), (33, .bool true), (34, .iface 55 (.pointer (some ⟨b1, 0, none⟩))), (35, .int .i64 2), (36, .bool true), (37, .bool true), (38, .bool true), (39, .int .i64 0), (40, .bool true), (41, .bool true), (42, .bool true), (43, .iface 55 (.pointer (some ⟨b2, 0, none⟩))), (44, .int .i64 2), (45, .bool true), (46, .bool true), (47, .bool true), (48, .int .i64 7), (49, .bool true), (50, .bool true), (51, .bool true), (52, .agg #[.int .i64 1, .int .i64 7, .int .i64 7, .int .i64 7]), (53, .agg #[.int .i64 1, .int .i64 7, .int .i64 7, .int .i64 7]), (54, .bool true), (55, .bool true), (56, .bool true), (57, .bool true), (58, .bool true), (59, .bool true), (60, .nilIface), (61, .bool true), (62, .bool true), (63, .bool true), (64, .pointer (some ⟨M + 1, 0, none⟩)), (65, .int .i64 0), (66, .bool true), (67, .bool true), (68, .bool true), (69, .pointer (some ⟨M + 1, 0, none⟩)), (70, .int .i64 3), (71, .bool true), (72, .bool true), (73, .bool true), (74, .pointer (some ⟨M + 1, 0, none⟩))] ⟨rfl, rfl, rfl, rfl, rfl, rfl, rfl, rfl, rfl, rfl, rfl, rfl, rfl, rfl, rfl, rfl, rfl, rfl, rfl, rfl, rfl, rfl, rfl, rfl, rfl, rfl, rfl, rfl, rfl, rfl, rfl, rfl, rfl, rfl, rfl, rfl, rfl, rfl, rfl, rfl, rfl, rfl, rfl, rfl, rfl, rfl, rfl, rfl, rfl, rfl, rfl, rfl, rfl, trivial⟩ ?_
    rintro A ⟨e1, e2, e3, e4, e5, e6, e7, e8, e9, e31, e32, e33, e34, e35, e36, e37, e38, e39, e40, e41, e42, e43, e44, e45, e46, e47, e48, e49, e50, e51, e52, e53, e54, e55, e56, e57, e58, e59, e60, e61, e62, e63, e64, e65, e66, e67, e68, e69, e70, e71, e72, e73, e74, _⟩
    intro i o ho h1 h2
    rcases i with _ | i
    · cases ho; exact Or.inl ⟨wanted_none rfl, by go_simp⟩
    rcases i with _ | i
    · cases ho; exact Or.inl ⟨wanted_none rfl, by go_simp⟩
    rcases i with _ | i
    · cases ho; exact Or.inl ⟨wanted_none rfl, by go_simp⟩
    rcases i with _ | i
    · cases ho; exact Or.inl ⟨wanted_ev rfl rfl rfl (by assumption), by go_simp⟩
    rcases i with _ | i
    · exact absurd h1 (by decide)
    rcases i with _ | i
    · cases ho; exact Or.inl ⟨wanted_ev rfl rfl rfl (by assumption), by go_simp⟩
    rcases i with _ | i
    · cases ho; exact Or.inl ⟨wanted_none rfl, by go_simp⟩
    rcases i with _ | i
    · cases ho; exact Or.inl ⟨wanted_none rfl, by go_simp⟩
    rcases i with _ | i
    · cases ho; exact Or.inl ⟨wanted_ev rfl rfl rfl (by assumption), by go_simp⟩
    rcases i with _ | i
    · cases ho; exact Or.inl ⟨wanted_ev rfl rfl rfl (by assumption), by go_simp⟩
    rcases i with _ | i
    · cases ho; exact Or.inl ⟨wanted_none rfl, by go_simp⟩
    rcases i with _ | i
    · cases ho; exact Or.inl ⟨wanted_none rfl, by go_simp⟩
    rcases i with _ | i
    · cases ho; exact Or.inl ⟨wanted_ev rfl rfl rfl (by assumption), by go_simp⟩
    rcases i with _ | i
    · exact absurd h1 (by decide)
    rcases i with _ | i
    · cases ho; exact Or.inl ⟨wanted_ev rfl rfl rfl (by assumption), by go_simp⟩
    rcases i with _ | i
    · cases ho; exact Or.inl ⟨wanted_none rfl, by go_simp⟩
    rcases i with _ | i
    · cases ho; exact Or.inl ⟨wanted_none rfl, by go_simp⟩
    rcases i with _ | i
    · cases ho; exact Or.inl ⟨wanted_ev rfl rfl rfl (by assumption), by go_simp⟩
    rcases i with _ | i
    · cases ho; exact Or.inl ⟨wanted_ev rfl rfl rfl (by assumption), by go_simp⟩
    rcases i with _ | i
    · cases ho; exact Or.inl ⟨wanted_none rfl, by go_simp⟩
    rcases i with _ | i
    · cases ho; exact Or.inl ⟨wanted_none rfl, by go_simp⟩
    rcases i with _ | i
    · cases ho; exact Or.inl ⟨wanted_ev rfl rfl rfl (by assumption), by go_simp⟩
    rcases i with _ | i
    · exact absurd h1 (by decide)
    rcases i with _ | i
    · cases ho; exact Or.inl ⟨wanted_ev rfl rfl rfl (by assumption), by go_simp⟩
    rcases i with _ | i
    · cases ho; exact Or.inl ⟨wanted_none rfl, by go_simp⟩
    rcases i with _ | i
    · cases ho; exact Or.inl ⟨wanted_none rfl, by go_simp⟩
    rcases i with _ | i
    · cases ho; exact Or.inl ⟨wanted_ev rfl rfl rfl (by assumption), by go_simp⟩
    rcases i with _ | i
    · cases ho; exact Or.inl ⟨wanted_none rfl, by go_simp⟩
    rcases i with _ | i
    · cases ho; exact Or.inl ⟨wanted_none rfl, by go_simp⟩
    rcases i with _ | i
    · cases ho; exact Or.inl ⟨wanted_ev rfl rfl rfl (by assumption), by go_simp⟩
    rcases i with _ | i
    · cases ho; exact Or.inl ⟨wanted_ev rfl rfl rfl (by assumption), by go_simp⟩
    rcases i with _ | i
    · cases ho; exact Or.inl ⟨wanted_none rfl, by go_simp⟩
    rcases i with _ | i
    · cases ho; exact Or.inl ⟨wanted_none rfl, by go_simp⟩
    rcases i with _ | i
    · cases ho; exact Or.inl ⟨wanted_ev rfl rfl rfl (by assumption), by go_simp⟩
    rcases i with _ | i
    · exact absurd h1 (by decide)
    rcases i with _ | i
    · cases ho; exact Or.inl ⟨wanted_ev rfl rfl rfl (by assumption), by go_simp⟩
    rcases i with _ | i
    · cases ho; exact Or.inl ⟨wanted_none rfl, by go_simp⟩
    rcases i with _ | i
    · cases ho; exact Or.inl ⟨wanted_none rfl, by go_simp⟩
    rcases i with _ | i
    · cases ho; exact Or.inl ⟨wanted_ev rfl rfl rfl (by assumption), by go_simp⟩
    rcases i with _ | i
    · exact absurd h1 (by decide)
    rcases i with _ | i
    · cases ho; exact Or.inl ⟨wanted_ev rfl rfl rfl (by assumption), by go_simp⟩
    rcases i with _ | i
    · cases ho; exact Or.inl ⟨wanted_none rfl, by go_simp⟩
    rcases i with _ | i
    · cases ho; exact Or.inl ⟨wanted_none rfl, by go_simp⟩
    rcases i with _ | i
    · cases ho; exact Or.inl ⟨wanted_ev rfl rfl rfl (by assumption), by go_simp⟩
    rcases i with _ | i
    · exact absurd h1 (by decide)
    rcases i with _ | i
    · exact absurd h2 (by decide)
    rcases i with _ | i
    · exact absurd h2 (by decide)
    rcases i with _ | i
    · exact absurd h1 (by decide)
    cases ho
  rintro e w15 ⟨rfl, hw⟩
  refine ⟨_, rfl, [(76, .bool true), (77, .bool true)], by kernel_rfl, ?_⟩
  simp only [fills, Act.put, List.setIfInBounds_toArray, List.set_cons_zero, List.set_cons_succ]
  replace hw := hw.symm
  subst hw
  refine flowG_only (47, []) [] (by kernel_rfl) rfl ?run (stepG_val _ (some 0) (.bool true) w14 [] rfl rfl (wanted_none rfl) (by go_simp) rfl ?_)
  case run =>
    refine runsG_hide [(1, .pointer (some ⟨M + 1, 0, none⟩)), (2, .nilIface), (3, .iface 55 (.pointer (some ⟨b1, 0, none⟩))), (4, .int .i64 0), (5, .iface 55 (.pointer (some ⟨b2, 0, none⟩))), (6, .int .i64 7), (7, .pointer (some ⟨E, 0, none⟩)), (8, .bool true), (9, .nilIface), (31, .nilIface), (32, .bool true), (33, .bool true), (34, .iface 55 (.pointer (some ⟨b1, 0, none⟩))), (35, .int .i64 2), (36, .bool true), (37, .bool true), (38, .bool true), (39, .int .i64 0), (40, .bool true), (41, .bool true), (42, .bool true), (43, .iface 55 (.pointer (some ⟨b2, 0, none⟩))), (44, .int .i64 2), (45, .bool true), (46, .bool true), (47, .bool true), (48, .int .i64 7), (49, .bool true), (50, .bool true), (51, .bool true), (52, .agg #[.int .i64 1, .int .i64 7, .int .i64 7, .int .i64 7]), (53, .agg #[.int .i64 1, .int .i64 7, .int .i64 7, .int .i64 7]), (54, .bool true), (55, .bool true), (56, .bool true), (57, .bool true), (58, .bool true), (59, .bool true), (60, .nilIface), (61, .bool true), (62, .bool true), (63, .bool true), (64, .pointer (some ⟨M + 1, 0, none⟩)), (65, .int .i64 0), (66, .bool true), (67, .bool true), (68, .bool true), (69, .pointer (some ⟨M + 1, 0, none⟩)), (70, .int .i64 3), (71, .bool true), (72, .bool true), (73, .bool true), (74, .pointer (some ⟨M + 1, 0, none⟩)), (75, .int .i64 1), (76, .bool true), (77, .bool true)] ⟨rfl, rfl, rfl, rfl, rfl, rfl, rfl, rfl, rfl, rfl, rfl, rfl, rfl, rfl, rfl, rfl, rfl, rfl, rfl, rfl, rfl, rfl, rfl, rfl, rfl, rfl, rfl, rfl, rfl, rfl, rfl, rfl, rfl, rfl, rfl, rfl, rfl, rfl, rfl, rfl, rfl, rfl, rfl, rfl, rfl, rfl, rfl, rfl, rfl, rfl, rfl, rfl, rfl, rfl, rfl, rfl, trivial⟩ ?_
    rintro A ⟨e1, e2, e3, e4, e5, e6, e7, e8, e9, e31, e32, e33, e34, e35, e36, e37, e38, e39, e40, e41, e42, e43, e44, e45, e46, e47, e48, e49, e50, e51, e52, e53, e54, e55, e56, e57, e58, e59, e60, e61, e62, e63, e64, e65, e66, e67, e68, e69, e70, e71, e72, e73, e74, e75, e76, e77, _⟩
    intro i o ho h1 h2
    rcases i with _ | i
    · cases ho; exact Or.inl ⟨wanted_none rfl, by go_simp⟩
    rcases i with _ | i
    · cases ho; exact Or.inl ⟨wanted_none rfl, by go_simp⟩
    rcases i with _ | i
    · cases ho; exact Or.inl ⟨wanted_none rfl, by go_simp⟩
    rcases i with _ | i
    · cases ho; exact Or.inl ⟨wanted_ev rfl rfl rfl (by assumption), by go_simp⟩
    rcases i with _ | i
    · exact absurd h1 (by decide)
    rcases i with _ | i
    · cases ho; exact Or.inl ⟨wanted_ev rfl rfl rfl (by assumption), by go_simp⟩
    rcases i with _ | i
    · cases ho; exact Or.inl ⟨wanted_none rfl, by go_simp⟩
    rcases i with _ | i
    · cases ho; exact Or.inl ⟨wanted_none rfl, by go_simp⟩
    rcases i with _ | i
    · cases ho; exact Or.inl ⟨wanted_ev rfl rfl rfl (by assumption), by go_simp⟩
    rcases i with _ | i
    · cases ho; exact Or.inl ⟨wanted_ev rfl rfl rfl (by assumption), by go_simp⟩
    rcases i with _ | i
    · cases ho; exact Or.inl ⟨wanted_none rfl, by go_simp⟩
    rcases i with _ | i
    · cases ho; exact Or.inl ⟨wanted_none rfl, by go_simp⟩
    rcases i with _ | i
    · cases ho; exact Or.inl ⟨wanted_ev rfl rfl rfl (by assumption), by go_simp⟩
    rcases i with _ | i
    · exact absurd h1 (by decide)
    rcases i with _ | i
    · cases ho; exact Or.inl ⟨wanted_ev rfl rfl rfl (by assumption), by go_simp⟩
    rcases i with _ | i
    · cases ho; exact Or.inl ⟨wanted_none rfl, by go_simp⟩
    rcases i with _ | i
    · cases ho; exact Or.inl ⟨wanted_none rfl, by go_simp⟩
    rcases i with _ | i
    · cases ho; exact Or.inl ⟨wanted_ev rfl rfl rfl (by assumption), by go_simp⟩
    rcases i with _ | i
    · cases ho; exact Or.inl ⟨wanted_ev rfl rfl rfl (by assumption), by go_simp⟩
    rcases i with _ | i
    · cases ho; exact Or.inl ⟨wanted_none rfl, by go_simp⟩
    rcases i with _ | i
    · cases ho; exact Or.inl ⟨wanted_none rfl, by go_simp⟩
    rcases i with _ | i
    · cases ho; exact Or.inl ⟨wanted_ev rfl rfl rfl (by assumption), by go_simp⟩
    rcases i with _ | i
    · exact absurd h1 (by decide)
    rcases i with _ | i
    · cases ho; exact Or.inl ⟨wanted_ev rfl rfl rfl (by assumption), by go_simp⟩
    rcases i with _ | i
    · cases ho; exact Or.inl ⟨wanted_none rfl, by go_simp⟩
    rcases i with _ | i
    · cases ho; exact Or.inl ⟨wanted_none rfl, by go_simp⟩
    rcases i with _ | i
    · cases ho; exact Or.inl ⟨wanted_ev rfl rfl rfl (by assumption), by go_simp⟩
    rcases i with _ | i
    · cases ho; exact Or.inl ⟨wanted_none rfl, by go_simp⟩
    rcases i with _ | i
    · cases ho; exact Or.inl ⟨wanted_none rfl, by go_simp⟩
    rcases i with _ | i
    · cases ho; exact Or.inl ⟨wanted_ev rfl rfl rfl (by assumption), by go_simp⟩
    rcases i with _ | i
    · cases ho; exact Or.inl ⟨wanted_ev rfl rfl rfl (by assumption), by go_simp⟩
    rcases i with _ | i
    · cases ho; exact Or.inl ⟨wanted_none rfl, by go_simp⟩
    rcases i with _ | i
    · cases ho; exact Or.inl ⟨wanted_none rfl, by go_simp⟩
    rcases i with _ | i
    · cases ho; exact Or.inl ⟨wanted_ev rfl rfl rfl (by assumption), by go_simp⟩
    rcases i with _ | i
    · exact absurd h1 (by decide)
    rcases i with _ | i
    · cases ho; exact Or.inl ⟨wanted_ev rfl rfl rfl (by assumption), by go_simp⟩
    rcases i with _ | i
    · cases ho; exact Or.inl ⟨wanted_none rfl, by go_simp⟩
    rcases i with _ | i
    · cases ho; exact Or.inl ⟨wanted_none rfl, by go_simp⟩
    rcases i with _ | i
    · cases ho; exact Or.inl ⟨wanted_ev rfl rfl rfl (by assumption), by go_simp⟩
    rcases i with _ | i
    · exact absurd h1 (by decide)
    rcases i with _ | i
    · cases ho; exact Or.inl ⟨wanted_ev rfl rfl rfl (by assumption), by go_simp⟩
    rcases i with _ | i
    · cases ho; exact Or.inl ⟨wanted_none rfl, by go_simp⟩
    rcases i with _ | i
    · cases ho; exact Or.inl ⟨wanted_none rfl, by go_simp⟩
    rcases i with _ | i
    · cases ho; exact Or.inl ⟨wanted_ev rfl rfl rfl (by assumption), by go_simp⟩
    rcases i with _ | i
    · exact absurd h1 (by decide)
    rcases i with _ | i
    · cases ho; exact Or.inl ⟨wanted_ev rfl rfl rfl (by assumption), by go_simp⟩
    rcases i with _ | i
    · cases ho; exact Or.inl ⟨wanted_none rfl, by go_simp⟩
    rcases i with _ | i
    · exact absurd h1 (by decide)
    cases ho
  simp only [fills, Act.put, List.setIfInBounds_toArray, List.set_cons_zero]
  refine flowG_done ?_

  go_wp2
  go_ret
  exact ⟨rfl, h13.out.grown⟩
end Go.Proofs.YtigmjgmkeoineaaDoor.Wb
