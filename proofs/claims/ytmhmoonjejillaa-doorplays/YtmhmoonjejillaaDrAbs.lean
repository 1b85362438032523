/-
  A door by its bits: what its methods do to them when they are called; a small case.
-/
import Derived.Test.YtmhmoonjejillaaDrKey
namespace Go.Proofs.Ytmhmoonjejillaa
open Go.RowKit Go.Deep

/-- A door whose bits are s. -/
def Drb (w : World) (b : Nat) (seed : Int) (m : Nat) (s : Nat → Bool) : Prop := ∃ f, Dr w b seed m f ∧ ∀ j, j < 64 * m → on f j = s j
/-- Are the key's bits on? -/
def hasS (s : Nat → Bool) (x : BitVec 64) (m : Nat) : Bool := s (Q x 0 m) && s (Q x 1 m)
/-- The bits behind a Put. -/
def putS (s : Nat → Bool) (x : BitVec 64) (m j : Nat) : Bool := (s j || decide (j = Q x 0 m)) || decide (j = Q x 1 m)
/-- No bit. -/
def noS (_ : Nat) : Bool := false

theorem hasS_no (x : BitVec 64) (m : Nat) : hasS noS x m = false := rfl
theorem putS_self (s : Nat → Bool) (x : BitVec 64) (m : Nat) : hasS (putS s x m) x m = true := by
  unfold hasS putS; simp
theorem putS_le (s : Nat → Bool) (x : BitVec 64) (m j : Nat) (h : s j = true) : putS s x m j = true := by unfold putS; rw [h]; rfl
theorem putS_keep (s : Nat → Bool) (x y : BitVec 64) (m : Nat) (h : hasS s y m = true) : hasS (putS s x m) y m = true := by
  unfold hasS at h ⊢
  rw [Bool.and_eq_true] at h ⊢
  exact ⟨putS_le _ _ _ _ h.1, putS_le _ _ _ _ h.2⟩
/-- How many bits are on behind a Put. -/
theorem cn_put (s : Nat → Bool) (x : BitVec 64) (m : Nat) (h1 : 1 ≤ m) :
    (hasS s x m = true → cn (putS s x m) (64 * m) = cn s (64 * m)) ∧ (hasS s x m = false → cn s (64 * m) < cn (putS s x m) (64 * m)) ∧ cn s (64 * m) ≤ cn (putS s x m) (64 * m) ∧ cn (putS s x m) (64 * m) ≤ cn s (64 * m) + 2 := by
  have q0 := Q_lt x 0 m h1
  have q1 := Q_lt x 1 m h1
  have e : cn (putS s x m) (64 * m) = cn s (64 * m) + (if Q x 0 m < 64 * m ∧ s (Q x 0 m) = false then 1 else 0) + (if Q x 1 m < 64 * m ∧ (s (Q x 1 m) || decide (Q x 1 m = Q x 0 m)) = false then 1 else 0) := by
    rw [← cn_or, ← cn_or]; rfl
  rw [e]
  unfold hasS
  cases h0 : s (Q x 0 m) with
  | true =>
    cases h2 : s (Q x 1 m) with
    | true => simp
    | false =>
      have hne : Q x 1 m ≠ Q x 0 m := fun h => by rw [h, h0] at h2; cases h2
      simp [q1, hne]
  | false =>
    by_cases h2 : (s (Q x 1 m) || decide (Q x 1 m = Q x 0 m)) = false
    · rw [if_pos ⟨q0, rfl⟩, if_pos ⟨q1, h2⟩]; simp; omega
    · rw [if_pos ⟨q0, rfl⟩, if_neg (fun x => h2 x.2)]; simp

namespace Drb
variable {w w' : World} {b m : Nat} {seed : Int} {s : Nat → Bool}
theorem off {b' k : Nat} (h : Drb w b seed m s) (g : Off b' k w w') (hd : b + 2 ≤ b' ∨ b' + k ≤ b) : Drb w' b seed m s := by
  obtain ⟨f, hs, he⟩ := h
  exact ⟨f, Ow.off hs g hd, he⟩
theorem grown (h : Drb w b seed m s) (g : Grown w w') : Drb w' b seed m s := h.off (Off.of_grown g 0 0) (by omega)
theorem drewN (h : Drb w b seed m s) (n : Nat) : Drb (w.drewN n) b seed m s := h.grown (grownDrewN (Grown.refl _) n)
theorem last (h : Drb w b seed m s) : b + 1 < w.heap.size := by
  obtain ⟨f, hs, he⟩ := h
  exact Ow.last hs
end Drb

variable {w : World} {b m : Nat} {seed : Int} {s : Nat → Bool}
theorem size_b (h : Drb w b seed m s) (hm : m ≤ 8192) :
    Calls Try.prog 10 #[ptr (b + 1)] w fun e w' => e = .returned (.int .i64 (64 * (m : Int))) ∧ w' = w := by
  obtain ⟨f, hs, he⟩ := h
  exact dSize_any hs hm
theorem new_b (width seed : Int) (w : World) (m : Nat) (h1 : m ≤ 8192) (hm : 8 * ceilI width 16 65536 = 64 * (m : Int)) :
    Calls Try.prog 8 #[.int .i64 width, .int .i64 seed] w fun e w' => e = .returned (ptr (w.heap.size + 1)) ∧ Drb w' w.heap.size seed m noS ∧ Grown w w' := by
  refine (dNew_any width seed w m h1 hm).mono ?_
  rintro e w' ⟨rfl, hs, hg⟩
  exact ⟨rfl, ⟨_, hs, fun j _ => by unfold on noS; simp⟩, hg⟩
theorem clear_b (h : Drb w b seed m s) (h1 : 1 ≤ m) :
    Calls Try.prog 11 #[ptr (b + 1)] w fun e w' => e = .returned (.tuple #[]) ∧ Drb w' b seed m noS ∧ Off b 2 w w' := by
  obtain ⟨f, hs, he⟩ := h
  refine (dClear_any hs h1).mono ?_
  rintro e w' ⟨rfl, hs, ho⟩
  exact ⟨rfl, ⟨_, hs, fun j _ => by unfold on noS; simp⟩, ho⟩
theorem ones_b (h : Drb w b seed m s) (hm : m ≤ 8192) :
    Calls Try.prog 15 #[ptr (b + 1)] w fun e w' => e = .returned (.int .i64 (cn s (64 * m) : Nat)) ∧ w' = w := by
  obtain ⟨f, hs, he⟩ := h
  have e : cn s (64 * m) = onesW f m := by rw [cn_words]; exact cn_congr _ fun i hi => (he i hi).symm
  rw [e]
  exact dOnes_any hs hm
theorem has_b (h : Drb w b seed m s) (h1 : 1 ≤ m) (hm : m ≤ 8192) (key : Int) :
    Calls Try.prog 17 #[ptr (b + 1), .int .i64 key] w fun e w' => e = .returned (.bool (hasS s (mixB seed key) m)) ∧ Grown w w' := by
  obtain ⟨f, hs, he⟩ := h
  unfold hasS
  rw [← he _ (Q_lt _ 0 m h1), ← he _ (Q_lt _ 1 m h1)]
  exact dHas_any hs h1 hm key
theorem put_b (h : Drb w b seed m s) (h1 : 1 ≤ m) (hm : m ≤ 8192) (key : Int) :
    Calls Try.prog 13 #[ptr (b + 1), .int .i64 key] w fun e w' => e = .returned (.bool (hasS s (mixB seed key) m)) ∧ Drb w' b seed m (putS s (mixB seed key) m) ∧ Off b 2 w w' := by
  obtain ⟨f, hs, he⟩ := h
  unfold hasS
  rw [← he _ (Q_lt _ 0 m h1), ← he _ (Q_lt _ 1 m h1)]
  refine (dPut_any hs h1 hm key).mono ?_
  rintro e w' ⟨rfl, hs, ho⟩
  exact ⟨rfl, ⟨_, hs, fun j hj => by rw [on_turn, on_turn, he j hj]; rfl⟩, ho⟩

theorem dSmall_any (w : World) : Calls Try.prog 7 #[] w fun e w' => e = .returned (.bool true) ∧ Grown w w' := by
  have nw := new_b 10 1 w 2 (by omega) (by decide)
  obtain ⟨B, hB⟩ : ∃ B, B = w.heap.size := ⟨_, rfl⟩
  have HB : Hid (w.heap.size ≤ B) := by rw [hB]; exact Nat.le_refl _
  rw [← hB] at nw
  obtain ⟨x, hx⟩ : ∃ x, x = mixB 1 5 := ⟨_, rfl⟩
  obtain ⟨s1, hs1⟩ : ∃ s1, s1 = putS noS x 2 := ⟨_, rfl⟩
  obtain ⟨s2, hs2⟩ : ∃ s2, s2 = putS s1 x 2 := ⟨_, rfl⟩
  have a1 : hasS s1 x 2 = true := by rw [hs1]; exact putS_self _ _ _
  have a2 : hasS s2 x 2 = true := by rw [hs2]; exact putS_self _ _ _
  have k1 := cn_put noS x 2 (by omega)
  have k2 := (cn_put s1 x 2 (by omega)).1 a1
  rw [← hs1, show cn noS (64 * 2) = 0 from cn_off _] at k1
  rw [← hs2] at k2
  obtain ⟨N, hN⟩ : ∃ N, N = cn s2 (64 * 2) := ⟨_, rfl⟩
  have n1 : 1 ≤ (N : Int) := by have := k1.2.1 rfl; omega
  have n2 : (N : Int) ≤ 2 := by have := k1.2.2.2; omega
  have p0 : ∀ W, Drb W B 1 2 noS → Calls Try.prog 13 #[ptr (B + 1), .int .i64 5] W fun e w' => e = .returned (.bool false) ∧ Drb w' B 1 2 s1 ∧ Off B 2 W w' := fun W h => by
    have := put_b h (by omega) (by omega) 5
    rw [← hx, hasS_no, ← hs1] at this; exact this
  have p1 : ∀ W, Drb W B 1 2 s1 → Calls Try.prog 13 #[ptr (B + 1), .int .i64 5] W fun e w' => e = .returned (.bool true) ∧ Drb w' B 1 2 s2 ∧ Off B 2 W w' := fun W h => by
    have := put_b h (by omega) (by omega) 5
    rw [← hx, a1, ← hs2] at this; exact this
  have o2 : ∀ W, Drb W B 1 2 s2 → Calls Try.prog 15 #[ptr (B + 1)] W fun e w' => e = .returned (.int .i64 N) ∧ w' = W := fun W h => by
    have := ones_b h (by omega)
    rw [← hN] at this; exact this
  have o0 : ∀ W, Drb W B 1 2 noS → Calls Try.prog 15 #[ptr (B + 1)] W fun e w' => e = .returned (.int .i64 0) ∧ w' = W := fun W h => by
    have := ones_b h (by omega)
    rw [show cn noS (64 * 2) = 0 from cn_off _] at this; exact this
  have h2 : ∀ W, Drb W B 1 2 s2 → Calls Try.prog 17 #[ptr (B + 1), .int .i64 5] W fun e w' => e = .returned (.bool true) ∧ Grown W w' := fun W h => by
    have := has_b h (by omega) (by omega) 5
    rw [← hx, a2] at this; exact this
  have h0 : ∀ W, Drb W B 1 2 noS → Calls Try.prog 17 #[ptr (B + 1), .int .i64 5] W fun e w' => e = .returned (.bool false) ∧ Grown W w' := fun W h => has_b h (by omega) (by omega) 5
  have sz : ∀ W, Drb W B 1 2 noS → Calls Try.prog 10 #[ptr (B + 1)] W fun e w' => e = .returned (.int .i64 128) ∧ w' = W := fun W h => size_b h (by omega)
  have T : Hid True := trivial
  have T2 : Hid True := trivial
  have T3 : Hid True := trivial
  clear hB hx hs1 hs2 a1 a2 k1 k2 hN
  unfold ptr at *
  go_enter Try.func7, Try.ntmps7
  go_wp2_with (first | (go_at_call 8; refine nw.mono ?_; rintro e w1 ⟨rfl, hs, hg⟩) | (go_at_call 13; clear T; refine (p0 _ hs).mono ?_; rintro e w2 ⟨rfl, hs2, ho2⟩) | (go_at_call 13; refine (p1 _ hs2).mono ?_; rintro e w3 ⟨rfl, hs3, ho3⟩) | (go_at_call 15; clear T2; refine (o2 _ hs3).mono ?_; rintro e w' ⟨rfl, hw⟩; have hw := hw.symm; subst hw) | (go_at_call 17; clear T3; refine (h2 _ hs3).mono ?_; rintro e w4 ⟨rfl, hg4⟩) | (go_at_call 11; refine (clear_b (hs3.grown hg4) (by omega)).mono ?_; rintro e w5 ⟨rfl, hs5, ho5⟩) | (go_at_call 15; refine (o0 _ hs5).mono ?_; rintro e w' ⟨rfl, hw⟩; have hw := hw.symm; subst hw) | (go_at_call 10; refine (sz _ hs5).mono ?_; rintro e w' ⟨rfl, hw⟩; have hw := hw.symm; subst hw) | (go_at_call 17; refine (h0 _ hs5).mono ?_; rintro e w6 ⟨rfl, hg6⟩))
  go_ret
  exact ⟨rfl, grownTrans (ho5.grown (grownTrans (ho3.grown (ho2.grown hg HB.out) HB.out) hg4) HB.out) hg6⟩
end Go.Proofs.Ytmhmoonjejillaa
