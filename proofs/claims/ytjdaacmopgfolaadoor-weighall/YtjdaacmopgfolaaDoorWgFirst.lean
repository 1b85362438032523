/-
  What the law WeighAll wants besides: the first that may not come in, place by place. Conditions: those told at each sentence.
-/
import Derived.Test.YtjdaacmopgfolaaDoorWgMore
namespace Go.Proofs.YtjdaacmopgfolaaDoor
open Go.RowKit Go.Deep

theorem cell_lt {w : World} {a : Addr} {v : Value} (h : w.cell? a = some v) : a.block < w.heap.size := by
  apply Decidable.byContradiction; intro hb
  rw [World.cell?, Array.getElem?_eq_none (by omega)] at h
  cases h
theorem FirstIs.zero (ks ws : Nat → Int) (c : Int) : FirstIs 0 ks ws c 0 0 0 := .inl ⟨fun j hj => absurd hj (Nat.not_lt_zero j), rfl, rfl, rfl⟩
theorem FirstIs.on {k : Nat} {ks ws : Nat → Int} {c n a m : Int} (h : FirstIs k ks ws c n a m) (hn : n ≠ 0) : FirstIs (k + 1) ks ws c n a m := by
  rcases h with ⟨_, h, _⟩ | ⟨i, hi, h⟩
  · exact absurd h hn
  · exact .inr ⟨i, by omega, h⟩
theorem FirstIs.none {k : Nat} {ks ws : Nat → Int} {c n a m : Int} (h : FirstIs k ks ws c n a m) (hn : n = 0) : ∀ j, j < k → adm (ws j) c = 0 := by
  rcases h with ⟨h, _⟩ | ⟨i, _, _, h1, h2, _⟩
  · exact h
  · exact absurd (h2.symm.trans hn) h1
theorem FirstIs.next {k : Nat} {ks ws : Nat → Int} {c n a m : Int} (h : FirstIs k ks ws c n a m) (hn : n = 0) (hk : adm (ws k) c = 0) : FirstIs (k + 1) ks ws c n a m := by
  have h1 := h.none hn
  rcases h with ⟨_, h⟩ | ⟨i, _, _, h1, h2, _⟩
  · refine .inl ⟨fun j hj => ?_, h⟩
    by_cases e : j = k
    · subst e; exact hk
    · exact h1 j (by omega)
  · exact absurd (h2.symm.trans hn) h1
theorem FirstIs.here {k : Nat} {ks ws : Nat → Int} {c n a m : Int} (h : FirstIs k ks ws c n a m) (hn : n = 0) (hk : adm (ws k) c ≠ 0) : FirstIs (k + 1) ks ws c (adm (ws k) c) (ks k) (ws k) :=
  .inr ⟨k, by omega, h.none hn, hk, rfl, rfl, rfl⟩
theorem FirstIs.same {k : Nat} {ks ws : Nat → Int} {c n a m n' a' m' : Int} (h : FirstIs k ks ws c n a m) (h' : FirstIs k ks ws c n' a' m') : n = n' ∧ a = a' ∧ m = m' := by
  rcases h with ⟨f, rfl, rfl, rfl⟩ | ⟨i, hi, f, g, rfl, rfl, rfl⟩ <;> rcases h' with ⟨f', rfl, rfl, rfl⟩ | ⟨i', hi', f', g', rfl, rfl, rfl⟩
  · exact ⟨rfl, rfl, rfl⟩
  · exact absurd (f i' hi') g'
  · exact absurd (f' i hi) g
  · rcases Nat.lt_trichotomy i i' with h | h | h
    · exact absurd (f' i h) g
    · subst h; exact ⟨rfl, rfl, rfl⟩
    · exact absurd (f i' h) g'
theorem FirstIs.in64 {k : Nat} {ks ws : Nat → Int} {c n a m : Int} (h : FirstIs k ks ws c n a m) (h1 : ∀ i, i < k → In64 (ks i)) (h2 : ∀ i, In64 (ws i)) : In64 n ∧ In64 a ∧ In64 m := by
  rcases h with ⟨_, rfl, rfl, rfl⟩ | ⟨i, hi, _, _, rfl, rfl, rfl⟩
  · exact ⟨in64_zero, in64_zero, in64_zero⟩
  · exact ⟨adm_in64 _ _, h1 i hi, h2 i⟩
theorem wat_in64 {z : Nat → Int} {len : Nat} (h : ∀ i, i < len → In64 (z i)) (k : Nat) : In64 (wat z len k) := by
  unfold wat
  split
  · exact h k (by assumption)
  · exact in64_zero
/-- First of what All told, where it is known which is the first. -/
theorem first_any (r : Option Addr) (len cap : Nat) (ks ws : Nat → Int) (c : Int) (w : World) (h : AllIs w r len ks ws c) (hlen : len ≤ 1000) {n a m : Int} (hf : FirstIs len ks ws c n a m) :
    Calls Tryd.prog 17 #[.slice r len cap] w fun e w' => ∃ v, e = .returned v ∧ FaultIs w' v n a m ∧ Grown w w' :=
  (first_c r len cap ks ws c w h hlen).mono fun e w' ⟨v, n', k', m', he, hv, hf', hg⟩ => by
    obtain ⟨rfl, rfl, rfl⟩ := hf.same hf'
    exact ⟨v, he, hv, hg⟩
end Go.Proofs.YtjdaacmopgfolaaDoor
