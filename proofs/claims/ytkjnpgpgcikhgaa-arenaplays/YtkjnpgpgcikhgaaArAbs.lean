/-
  An arena by its state and its blocks: what New, Len, Most, Get, Set, Drop and Put do when they are called, at every number and node; and the small case.
-/
import Derived.Test.YtkjnpgpgcikhgaaArWalks
namespace Go.Proofs.Ytkjnpgpgcikhgaa
open Go.RowKit Go.Deep

/-- An arena at block A, its blocks F. -/
def Are (w : World) (A : Nat) (F : Nat → Prop) (t : As) : Prop := t.Wf ∧ ∃ ps cs pd cd, ArM w A ps cs pd cd t ∧ F = foot A ps pd
variable {w w' : World} {A : Nat} {F : Nat → Prop} {t : As}
theorem Are.wf (h : Are w A F t) : t.Wf := h.1
theorem Are.lt (h : Are w A F t) {k : Nat} (hk : F k) : k < w.heap.size := by
  obtain ⟨_, ps, cs, pd, cd, h, rfl⟩ := h
  exact h.foot_lt hk
theorem Are.out {G : Nat → Prop} (h : Are w A F t) (o : Out G w w') (hF : ∀ k, F k → ¬ G k) : Are w' A F t := by
  obtain ⟨hw, ps, cs, pd, cd, h, rfl⟩ := h
  exact ⟨hw, ps, cs, pd, cd, h.out o hF, rfl⟩
theorem Are.grown (h : Are w A F t) (g : Grown w w') : Are w' A F t := h.out (Out.of_grown g fun _ => False) (fun _ _ => id)
theorem Are.drewN (h : Are w A F t) (n : Nat) : Are (w.drewN n) A F t := h.grown (grownDrewN (Grown.refl _) n)

namespace As
def room (t : As) : Bool := decide (t.len < t.m)
def putI (t : As) (v : Int × Int) : As := if t.room then t.put v else t
def giveI (t : As) : Int := if t.room then (t.give : Int) else 0
def putE (t : As) : Int := if t.room then 0 else 2
def setI (t : As) (id : Int) (v : Int × Int) : As := if (t.under id).isSome then t.set id.toNat v else t
def dropI (t : As) (id : Int) : As := if (t.under id).isSome then t.drop id.toNat else t
def errI (t : As) (id : Int) : Int := if (t.under id).isSome then 0 else 3
def nodeI (t : As) (id : Int) : Int × Int := (t.under id).getD (0, 0)
variable {t : As}
theorem under_some {id : Int} {u : Int × Int} (h : t.under id = some u) : ∃ i : Nat, id = i ∧ t.s i = some u := by
  unfold under at h
  split at h
  · exact ⟨id.toNat, by omega, h⟩
  · cases h
end As

theorem new_a (most : Int) (w : World) :
    Calls Try.prog 9 #[.int .i64 most] w fun e w' => ∃ A F, e = .returned (ptr A) ∧ Are w' A F (As.zero (mostI most)) ∧ Grown w w' ∧ ∀ k, F k → w.heap.size ≤ k := by
  refine (new_m most w).mono ?_
  rintro e w' ⟨A, rfl, hA, hg, ps, cs, pd, cd, hm, hf⟩
  exact ⟨A, _, rfl, ⟨As.zero_wf (mostI_le most), ps, cs, pd, cd, hm, rfl⟩, hg, hf⟩
theorem most_a (h : Are w A F t) : Calls Try.prog 21 #[ptr A] w fun e w' => e = .returned (.int .i64 (t.m : Int)) ∧ w' = w := by
  obtain ⟨hw, ps, cs, pd, cd, h, rfl⟩ := h
  exact most_m h
theorem len_a (h : Are w A F t) : Calls Try.prog 19 #[ptr A] w fun e w' => e = .returned (.int .i64 (t.len : Int)) ∧ ∃ d, w' = w.drewN d := by
  obtain ⟨hw, ps, cs, pd, cd, h, rfl⟩ := h
  exact len_m h hw
theorem get_a (h : Are w A F t) (id : Int) : Calls Try.prog 17 #[ptr A, .int .i64 id] w fun e w' => e = .returned (.tuple #[nodeV (t.nodeI id), .int .i64 (t.errI id)]) ∧ Grown w w' := by
  obtain ⟨hw, ps, cs, pd, cd, h, rfl⟩ := h
  unfold As.nodeI As.errI
  cases hu : t.under id with
  | none => exact get_no h hw id hu
  | some u =>
    obtain ⟨i, rfl, hi⟩ := As.under_some hu
    exact get_yes h hw i u hi
theorem set_a (h : Are w A F t) (id : Int) (v : Int × Int) : Calls Try.prog 15 #[ptr A, .int .i64 id, nodeV v] w fun e w' => e = .returned (.int .i64 (t.errI id)) ∧ ∃ F', Are w' A F' (t.setI id v) ∧ Step F F' w w' := by
  obtain ⟨hw, ps, cs, pd, cd, h, rfl⟩ := h
  unfold As.setI As.errI
  cases hu : t.under id with
  | none =>
    refine (set_no h hw id v hu).mono ?_
    rintro e w' ⟨rfl, g⟩
    exact ⟨rfl, _, ⟨hw, ps, cs, pd, cd, h.grown g, rfl⟩, Step.grown _ g⟩
  | some u =>
    obtain ⟨i, rfl, hi⟩ := As.under_some hu
    refine (set_yes h hw i v u hi).mono ?_
    rintro e w' ⟨rfl, hm, ho⟩
    exact ⟨rfl, _, ⟨As.set_wf hw hi, ps, cs, pd, cd, hm, rfl⟩, ho, fun _ => Or.inl⟩
theorem drop_a (h : Are w A F t) (id : Int) : Calls Try.prog 13 #[ptr A, .int .i64 id] w fun e w' => e = .returned (.int .i64 (t.errI id)) ∧ ∃ F', Are w' A F' (t.dropI id) ∧ Step F F' w w' := by
  obtain ⟨hw, ps, cs, pd, cd, h, rfl⟩ := h
  unfold As.dropI As.errI
  cases hu : t.under id with
  | none =>
    refine (drop_no h hw id hu).mono ?_
    rintro e w' ⟨rfl, rfl⟩
    exact ⟨rfl, _, ⟨hw, ps, cs, pd, cd, h, rfl⟩, Step.grown _ (Grown.refl _)⟩
  | some u =>
    obtain ⟨i, rfl, hi⟩ := As.under_some hu
    refine (drop_yes h hw i u hi).mono ?_
    rintro e w' ⟨rfl, pd', cd', hm, ho, hp⟩
    refine ⟨rfl, _, ⟨As.drop_wf hw hi, ps, cs, pd', cd', hm, rfl⟩, ho, fun k hk => ?_⟩
    rcases hk with e | e | e
    · exact Or.inl (Or.inl e)
    · exact Or.inl (Or.inr (Or.inl e))
    · rcases hp with rfl | ⟨k', rfl, hk'⟩
      · exact Or.inl (Or.inr (Or.inr e))
      · rw [e.eq]; exact Or.inr hk'
theorem put_a (h : Are w A F t) (v : Int × Int) : Calls Try.prog 11 #[ptr A, nodeV v] w fun e w' => e = .returned (.tuple #[.int .i64 t.giveI, .int .i64 t.putE]) ∧ ∃ F', Are w' A F' (t.putI v) ∧ Step F F' w w' := by
  obtain ⟨hw, ps, cs, pd, cd, h, rfl⟩ := h
  unfold As.putI As.giveI As.putE
  cases hr : t.room with
  | false =>
    refine (put_full h hw (by simpa [As.room] using hr) v).mono ?_
    rintro e w' ⟨rfl, g⟩
    exact ⟨rfl, _, ⟨hw, ps, cs, pd, cd, h.grown g, rfl⟩, Step.grown _ g⟩
  | true =>
    have hl : t.len < t.m := by simpa [As.room] using hr
    refine (put_room h hw hl v).mono ?_
    rintro e w' ⟨rfl, ps', cs', hm, ho, hp⟩
    refine ⟨rfl, _, ⟨As.put_wf hw hl, ps', cs', pd, cd, hm, rfl⟩, ho, fun k hk => ?_⟩
    rcases hk with e | e | e
    · exact Or.inl (Or.inl e)
    · rcases hp with rfl | ⟨k', rfl, hk'⟩
      · exact Or.inl (Or.inr (Or.inl e))
      · rw [e.eq]; exact Or.inr hk'
    · exact Or.inl (Or.inr (Or.inr e))

/-! ### The small case -/
def s1 : As := (As.zero 3).putI (7, 0)
def s2 : As := s1.putI (8, 0)
def s3 : As := s2.dropI 1
def s4 : As := s3.putI (9, 0)
def s5 : As := s4.putI (10, 0)
def s6 : As := s5.putI (0, 0)
set_option maxHeartbeats 2000000 in
theorem aSmall_any (w : World) : Calls Try.prog 8 #[] w fun e w' => e = .returned (.bool true) ∧ Grown w w' := by
  have nw := new_a 3 w
  have p0 : ∀ W A F, Are W A F (As.zero (mostI 3)) → Calls Try.prog 11 #[ptr A, nodeV (7, 0)] W fun e w' => e = .returned (.tuple #[.int .i64 1, .int .i64 0]) ∧ ∃ F', Are w' A F' s1 ∧ Step F F' W w' := fun W A F h => put_a h _
  have p1 : ∀ W A F, Are W A F s1 → Calls Try.prog 11 #[ptr A, nodeV (8, 0)] W fun e w' => e = .returned (.tuple #[.int .i64 2, .int .i64 0]) ∧ ∃ F', Are w' A F' s2 ∧ Step F F' W w' := fun W A F h => put_a h _
  have p2 : ∀ W A F, Are W A F s2 → Calls Try.prog 13 #[ptr A, .int .i64 1] W fun e w' => e = .returned (.int .i64 0) ∧ ∃ F', Are w' A F' s3 ∧ Step F F' W w' := fun W A F h => drop_a h _
  have p3 : ∀ W A F, Are W A F s3 → Calls Try.prog 11 #[ptr A, nodeV (9, 0)] W fun e w' => e = .returned (.tuple #[.int .i64 1, .int .i64 0]) ∧ ∃ F', Are w' A F' s4 ∧ Step F F' W w' := fun W A F h => put_a h _
  have p4 : ∀ W A F, Are W A F s4 → Calls Try.prog 11 #[ptr A, nodeV (10, 0)] W fun e w' => e = .returned (.tuple #[.int .i64 3, .int .i64 0]) ∧ ∃ F', Are w' A F' s5 ∧ Step F F' W w' := fun W A F h => put_a h _
  have p5 : ∀ W A F, Are W A F s5 → Calls Try.prog 11 #[ptr A, nodeV (0, 0)] W fun e w' => e = .returned (.tuple #[.int .i64 0, .int .i64 2]) ∧ ∃ F', Are w' A F' s6 ∧ Step F F' W w' := fun W A F h => put_a h _
  have p6 : ∀ W A F, Are W A F s6 → Calls Try.prog 17 #[ptr A, .int .i64 1] W fun e w' => e = .returned (.tuple #[nodeV (9, 0), .int .i64 0]) ∧ Grown W w' := fun W A F h => get_a h _
  have p7 : ∀ W A F, Are W A F s6 → Calls Try.prog 19 #[ptr A] W fun e w' => e = .returned (.int .i64 3) ∧ ∃ d, w' = W.drewN d := fun W A F h => len_a h
  have p8 : ∀ W A F, Are W A F s6 → Calls Try.prog 21 #[ptr A] W fun e w' => e = .returned (.int .i64 3) ∧ w' = W := fun W A F h => most_a h
  have T0 : Hid True := trivial
  have T1 : Hid True := trivial
  have T3 : Hid True := trivial
  have T4 : Hid True := trivial
  have T5 : Hid True := trivial
  unfold nodeV ptr at *
  go_enter Try.func8, Try.ntmps8
  go_wp2_with (first | (go_at_call 9; refine nw.mono ?_; rintro e w0 ⟨A, F, rfl, h0, g0, b0⟩) | (go_at_call 11; clear T0; refine (p0 _ _ _ h0).mono ?_; rintro e w1 ⟨rfl, F1, h1, S1⟩) | (go_at_call 11; clear T1; refine (p1 _ _ _ h1).mono ?_; rintro e w2 ⟨rfl, F2, h2, S2⟩) | (go_at_call 13; refine (p2 _ _ _ h2).mono ?_; rintro e w3 ⟨rfl, F3, h3, S3⟩) | (go_at_call 11; clear T3; refine (p3 _ _ _ h3).mono ?_; rintro e w4 ⟨rfl, F4, h4, S4⟩) | (go_at_call 11; clear T4; refine (p4 _ _ _ h4).mono ?_; rintro e w5 ⟨rfl, F5, h5, S5⟩) | (go_at_call 11; clear T5; refine (p5 _ _ _ h5).mono ?_; rintro e w6 ⟨rfl, F6, h6, S6⟩) | (go_at_call 17; refine (p6 _ _ _ h6).mono ?_; rintro e w7 ⟨rfl, g7⟩) | (go_at_call 19; refine (p7 _ _ _ (h6.grown (g7.alloc _ _))).mono ?_; rintro e w' ⟨rfl, d8, hw'⟩; subst hw') | (go_at_call 21; refine (p8 _ _ _ ((h6.grown (g7.alloc _ _)).drewN _)).mono ?_; rintro e w' ⟨rfl, hw'⟩; have hw' := hw'.symm; subst hw'))
  go_ret
  exact ⟨rfl, grownDrewN ((grownTrans ((S1.trans (S2.trans (S3.trans (S4.trans (S5.trans S6))))).keeps g0 b0).1 g7).alloc _ _) _⟩
end Go.Proofs.Ytkjnpgpgcikhgaa
