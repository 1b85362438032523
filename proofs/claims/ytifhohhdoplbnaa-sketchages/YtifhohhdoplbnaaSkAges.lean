/-
  An Add to a sketch of sixteen counters a row, by what comes of it.
-/
import Derived.Test.YtifhohhdoplbnaaSkKeys
namespace Go.Proofs.Ytifhohhdoplbnaa
open Go.RowKit Go.Deep

theorem add_16 {w : World} {b : Nat} {seed n : Int} {c : Nat → Nat → Int} (h : Skc w b seed n 1 c) (hn : 0 ≤ n) (hn' : n < 160) (key : Int) :
    (n = 159 ∧ Calls Try.prog 12 #[ptr b, .int .i64 key] w fun e w' => e = .returned (.tuple #[.bool true, .bool true]) ∧ (∃ c', Skc w' b seed 80 1 c') ∧ Off b 5 w w') ∨
    (n < 159 ∧ (n == 159) = false ∧ Calls Try.prog 12 #[ptr b, .int .i64 key] w fun e w' => e = .returned (.tuple #[.bool true, .bool false]) ∧ (∃ c', Skc w' b seed (n + 1) 1 c') ∧ Off b 5 w w') ∨
    (Calls Try.prog 12 #[ptr b, .int .i64 key] w fun e w' => e = .returned (.tuple #[.bool false, .bool false]) ∧ (∃ c', Skc w' b seed n 1 c') ∧ Off b 5 w w') := by
  have A := add_c h (by omega) (by omega) hn (by omega) key
  obtain ⟨x, hx⟩ : ∃ x, x = mixB seed key := ⟨_, rfl⟩
  rw [← hx] at A
  cases hok : okG (kc c x 1) 4 with
  | false =>
    have ha : agedC c x 1 n = false := by unfold agedC; rw [hok]; rfl
    have hn3 : nC c x 1 n = n := by unfold nC; rw [ha, hok]; rfl
    rw [hok, ha, hn3] at A
    refine Or.inr (Or.inr (A.mono ?_))
    rintro e w' ⟨rfl, hs, ho⟩
    exact ⟨rfl, ⟨_, hs⟩, ho⟩
  | true =>
    by_cases hn9 : n = 159
    · have ha : agedC c x 1 n = true := by unfold agedC; rw [hok, decide_eq_true (by omega)]; rfl
      have hn3 : nC c x 1 n = 80 := by unfold nC; rw [ha, hn9]; rfl
      rw [hok, ha, hn3] at A
      refine Or.inl ⟨hn9, A.mono ?_⟩
      rintro e w' ⟨rfl, hs, ho⟩
      exact ⟨rfl, ⟨_, hs⟩, ho⟩
    · have ha : agedC c x 1 n = false := by unfold agedC; rw [hok, decide_eq_false (by omega)]; rfl
      have hn3 : nC c x 1 n = n + 1 := by unfold nC; rw [ha, hok]; rfl
      rw [hok, ha, hn3] at A
      refine Or.inr (Or.inl ⟨by omega, by simpa using hn9, A.mono ?_⟩)
      rintro e w' ⟨rfl, hs, ho⟩
      exact ⟨rfl, ⟨_, hs⟩, ho⟩
theorem ages_row {wr wA wH wD : World} {B M : Nat} {t : TypeId} {f : Nat → Value} (hl : B + 4 < wr.heap.size) (hr : wA.rowIs wr.heap.size t M f) (ho : Off B 5 wA wH) (hg : Grown wH wD) : wD.rowIs wr.heap.size t M f :=
  hr.of_block ((grown_block hg (Nat.lt_of_lt_of_le hr.lt ho.size)).trans (ho.block _ hr.lt (Or.inr (by omega))))
end Go.Proofs.Ytifhohhdoplbnaa
