/-
  What the laws WeighTotals and WeighAll want besides: numbers of slices that came in are of 64 bits; the document's Total, told once. Conditions: those told at each sentence.
-/
import Derived.Test.YtjdaacmopgfolaaDoorWgFault
import Derived.Test.YtjdaacmopgfolaaDoorWgSums
namespace Go.Proofs.YtjdaacmopgfolaaDoor
open Go.RowKit Go.Deep

theorem ints_in64 {w : World} {a : Option Addr} {len cap : Nat} {zs : List Int} (h : IsInts .i64 w a len cap zs) : ∀ i, i < len → In64 (zs.getD i 0) := by
  intro i hi
  rcases h with ⟨_, h, _, _⟩ | ⟨x, _, hl, _, hz, _, hw⟩
  · omega
  · have hlt : i < zs.length := by omega
    have e : zs.getD i 0 = zs[i] := by simp [List.getD, List.getElem?_eq_getElem hlt]
    rw [e]
    exact wf_in64 (hw _ (List.getElem_mem hlt))
theorem refTotal_any (p : Option Addr) (len cap : Nat) (z : Nat → Int) (w : World) (hs : Sl w p len z) (hlen : len ≤ 1000) {s n a m : Int} (h : Tot z len s n a m) :
    Calls Tryd.prog 14 #[.slice p len cap] w fun e w' => e = .returned (.tuple #[.int .i64 s, .int .i64 n, .int .i64 a]) ∧ Grown w w' :=
  (refTotal_c p len cap z w hs hlen).mono fun e w' ⟨s', n', a', m', he, ht, hg'⟩ => by
    obtain ⟨rfl, rfl, rfl, rfl⟩ := ht.same h
    exact ⟨he, hg'⟩
theorem Tot.zero {z : Nat → Int} {len : Nat} {s n a m : Int} (h : Tot z len s n a m) (hn : n = 0) : a = 0 ∧ m = 0 := by
  rcases h with ⟨_, _, _, h1, h2⟩ | ⟨k, _, _, h1, _, h2, _⟩
  · exact ⟨h1, h2⟩
  · exact absurd (h2.symm.trans hn) h1
theorem Tot.bad {z : Nat → Int} {len : Nat} {s n a m : Int} (h : Tot z len s n a m) (hn : n ≠ 0) : ∃ k : Nat, k < len ∧ a = k ∧ m = z k ∧ In64 n := by
  rcases h with ⟨_, _, h0, _⟩ | ⟨k, hk, _, _, _, h2, h3, h4⟩
  · exact absurd h0 hn
  · exact ⟨k, hk, h3, h4, by rw [h2]; exact adx_in64 _ _⟩
theorem in64_nat (k : Nat) (h : k ≤ 1000) : In64 (k : Int) := by unfold In64; omega
theorem in64_zero : In64 0 := by unfold In64; omega
end Go.Proofs.YtjdaacmopgfolaaDoor
