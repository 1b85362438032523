/-
  A door by its bits: what its methods do to them when they are called; a small case.
-/
import Derived.Test.YtaelaikfpehciaaDrKey
namespace Go.Proofs.Ytaelaikfpehciaa
open Go.RowKit Go.Deep

/-- A door whose bits are s. -/
def Drb (w : World) (b : Nat) (seed : Int) (m : Nat) (s : Nat → Bool) : Prop := ∃ f, Dr w b seed m f ∧ ∀ j, j < 64 * m → on f j = s j
/-- Are the key's bits on? -/
def hasS (s : Nat → Bool) (x : BitVec 64) (m : Nat) : Bool := s (Q x 0 m) && s (Q x 1 m)
/-- The bits behind a Put. -/
def putS (s : Nat → Bool) (x : BitVec 64) (m j : Nat) : Bool := (s j || decide (j = Q x 0 m)) || decide (j = Q x 1 m)
/-- No bit. -/
def noS (_ : Nat) : Bool := false

theorem hasS_no (x : BitVec 64) (m : Nat) : hasS noS x m = false := rfl
theorem putS_self (s : Nat → Bool) (x : BitVec 64) (m : Nat) : hasS (putS s x m) x m = true := by
  unfold hasS putS; simp
theorem putS_le (s : Nat → Bool) (x : BitVec 64) (m j : Nat) (h : s j = true) : putS s x m j = true := by unfold putS; rw [h]; rfl
theorem putS_keep (s : Nat → Bool) (x y : BitVec 64) (m : Nat) (h : hasS s y m = true) : hasS (putS s x m) y m = true := by
  unfold hasS at h ⊢
  rw [Bool.and_eq_true] at h ⊢
  exact ⟨putS_le _ _ _ _ h.1, putS_le _ _ _ _ h.2⟩
/-- How many bits are on behind a Put. -/
theorem cn_put (s : Nat → Bool) (x : BitVec 64) (m : Nat) (h1 : 1 ≤ m) :
    (hasS s x m = true → cn (putS s x m) (64 * m) = cn s (64 * m)) ∧ (hasS s x m = false → cn s (64 * m) < cn (putS s x m) (64 * m)) ∧ cn s (64 * m) ≤ cn (putS s x m) (64 * m) ∧ cn (putS s x m) (64 * m) ≤ cn s (64 * m) + 2 := by
  have q0 := Q_lt x 0 m h1
  have q1 := Q_lt x 1 m h1
  have e : cn (putS s x m) (64 * m) = cn s (64 * m) + (if Q x 0 m < 64 * m ∧ s (Q x 0 m) = false then 1 else 0) + (if Q x 1 m < 64 * m ∧ (s (Q x 1 m) || decide (Q x 1 m = Q x 0 m)) = false then 1 else 0) := by
    rw [← cn_or, ← cn_or]; rfl
  rw [e]
  unfold hasS
  cases h0 : s (Q x 0 m) with
  | true =>
    cases h2 : s (Q x 1 m) with
    | true => simp
    | false =>
      have hne : Q x 1 m ≠ Q x 0 m := fun h => by rw [h, h0] at h2; cases h2
      simp [q1, hne]
  | false =>
    by_cases h2 : (s (Q x 1 m) || decide (Q x 1 m = Q x 0 m)) = false
    · rw [if_pos ⟨q0, rfl⟩, if_pos ⟨q1, h2⟩]; simp; omega
    · rw [if_pos ⟨q0, rfl⟩, if_neg (fun x => h2 x.2)]; simp

namespace Drb
variable {w w' : World} {b m : Nat} {seed : Int} {s : Nat → Bool}
theorem off {b' k : Nat} (h : Drb w b seed m s) (g : Off b' k w w') (hd : b + 2 ≤ b' ∨ b' + k ≤ b) : Drb w' b seed m s := by
  obtain ⟨f, hs, he⟩ := h
  exact ⟨f, Ow.off hs g hd, he⟩
theorem grown (h : Drb w b seed m s) (g : Grown w w') : Drb w' b seed m s := h.off (Off.of_grown g 0 0) (by omega)
theorem drewN (h : Drb w b seed m s) (n : Nat) : Drb (w.drewN n) b seed m s := h.grown (grownDrewN (Grown.refl _) n)
theorem last (h : Drb w b seed m s) : b + 1 < w.heap.size := by
  obtain ⟨f, hs, he⟩ := h
  exact Ow.last hs
end Drb

variable {w : World} {b m : Nat} {seed : Int} {s : Nat → Bool}
theorem size_b (h : Drb w b seed m s) (hm : m ≤ 8192) :
    Calls Try.prog 47 #[ptr (b + 1)] w fun e w' => e = .returned (.int .i64 (64 * (m : Int))) ∧ w' = w := by
  obtain ⟨f, hs, he⟩ := h
  exact dSize_any hs hm
theorem new_b (width seed : Int) (w : World) (m : Nat) (h1 : m ≤ 8192) (hm : 8 * ceilI width 16 65536 = 64 * (m : Int)) :
    Calls Try.prog 17 #[.int .i64 width, .int .i64 seed] w fun e w' => e = .returned (ptr (w.heap.size + 1)) ∧ Drb w' w.heap.size seed m noS ∧ Grown w w' := by
  refine (dNew_any width seed w m h1 hm).mono ?_
  rintro e w' ⟨rfl, hs, hg⟩
  exact ⟨rfl, ⟨_, hs, fun j _ => by unfold on noS; simp⟩, hg⟩
theorem clear_b (h : Drb w b seed m s) (h1 : 1 ≤ m) :
    Calls Try.prog 38 #[ptr (b + 1)] w fun e w' => e = .returned (.tuple #[]) ∧ Drb w' b seed m noS ∧ Off b 2 w w' := by
  obtain ⟨f, hs, he⟩ := h
  refine (dClear_any hs h1).mono ?_
  rintro e w' ⟨rfl, hs, ho⟩
  exact ⟨rfl, ⟨_, hs, fun j _ => by unfold on noS; simp⟩, ho⟩
theorem has_b (h : Drb w b seed m s) (h1 : 1 ≤ m) (hm : m ≤ 8192) (key : Int) :
    Calls Try.prog 30 #[ptr (b + 1), .int .i64 key] w fun e w' => e = .returned (.bool (hasS s (mixB seed key) m)) ∧ Grown w w' := by
  obtain ⟨f, hs, he⟩ := h
  unfold hasS
  rw [← he _ (Q_lt _ 0 m h1), ← he _ (Q_lt _ 1 m h1)]
  exact dHas_any hs h1 hm key
theorem put_b (h : Drb w b seed m s) (h1 : 1 ≤ m) (hm : m ≤ 8192) (key : Int) :
    Calls Try.prog 21 #[ptr (b + 1), .int .i64 key] w fun e w' => e = .returned (.bool (hasS s (mixB seed key) m)) ∧ Drb w' b seed m (putS s (mixB seed key) m) ∧ Off b 2 w w' := by
  obtain ⟨f, hs, he⟩ := h
  unfold hasS
  rw [← he _ (Q_lt _ 0 m h1), ← he _ (Q_lt _ 1 m h1)]
  refine (dPut_any hs h1 hm key).mono ?_
  rintro e w' ⟨rfl, hs, ho⟩
  exact ⟨rfl, ⟨_, hs, fun j hj => by rw [on_turn, on_turn, he j hj]; rfl⟩, ho⟩

end Go.Proofs.Ytaelaikfpehciaa
