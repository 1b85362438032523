/-
  How long rows get by each call: without memory. No condition but those told at each sentence.
-/
import Derived.Test.YtecnlciogcanmaaDqMany
namespace Go.Proofs.Ytecnlciogcanmaa
open Go.RowKit Go.Deep
namespace Ds
variable {t : Ds}
/-- Rows as many, none longer than that. -/
def Short (t : Ds) (n m : Nat) : Prop := t.n = n ∧ ∀ i, (t.L i).length ≤ m
theorem Short.more {n m m' : Nat} (h : t.Short n m) (hm : m ≤ m') : t.Short n m' := ⟨h.1, fun i => Nat.le_trans (h.2 i) hm⟩
theorem push_short {n m : Nat} (h : t.Short n m) (l : Nat) (id w : Int) : (t.push l id w).Short n (m + 1) := ⟨h.1, fun i => by
  rw [push_row]
  have := h.2 i
  split <;> simp <;> omega⟩
theorem unlink_short {n m : Nat} (h : t.Short n m) (id : Int) : (t.unlink id).Short n m := ⟨h.1, fun i => by
  rw [unlink_row]
  exact Nat.le_trans (List.length_filter_le _ _) (h.2 i)⟩
theorem pushI_short {n m : Nat} (h : t.Short n m) (l id w : Int) : (t.pushI l id w).Short n (m + 1) := by
  unfold pushI
  split
  · exact push_short h _ _ _
  · exact h.more (by omega)
theorem unlinkI_short {n m : Nat} (h : t.Short n m) (id : Int) : (t.unlinkI id).Short n (m + 1) := by
  unfold unlinkI
  split
  · exact (unlink_short h _).more (by omega)
  · exact h.more (by omega)
theorem moveI_short {n m : Nat} (h : t.Short n m) (id l : Int) : (t.moveI id l).Short n (m + 1) := by
  unfold moveI
  split
  · exact push_short (unlink_short h _) _ _ _
  · exact h.more (by omega)
theorem reweighI_short {n m : Nat} (h : t.Short n m) (id w : Int) : (t.reweighI id w).Short n (m + 1) := by
  unfold reweighI
  split
  · exact ⟨h.1, fun i => by
      show ((t.L i).map _).length ≤ m + 1
      rw [List.length_map]; have := h.2 i; omega⟩
  · exact h.more (by omega)
theorem zero_short (n m : Nat) : (zero n).Short n m := ⟨rfl, fun i => by show ([] : List (Int × Int)).length ≤ m; simp⟩
/-- Where a number of a row is, and its weight. -/
theorem Wf.of_mem (hw : t.Wf) {i : Nat} {id w : Int} (h : (id, w) ∈ t.L i) : t.ofL id = (i : Int) ∧ t.ofW id = w := by
  unfold ofL ofW
  rw [hw.find_of h]
  exact ⟨rfl, rfl⟩
end Ds
theorem take_next {D : List (Int × Int)} {j : Nat} {p : Int × Int} {r : List (Int × Int)} (h : D.drop j = p :: r) : sumI ((D.take (j + 1)).map (·.2)) = sumI ((D.take j).map (·.2)) + p.2 := by
  have hk : D[j]? = some p := by
    have := congrArg List.head? h
    simpa using this
  rw [List.take_add_one, hk, List.map_append, sumI_append]
  simp [sumI]
theorem sum_take_bound {D : List (Int × Int)} (h : ∀ p ∈ D, 0 ≤ p.2 ∧ p.2 ≤ 2147483648) (j : Nat) (hD : D.length ≤ 65536) : 0 ≤ sumI ((D.take j).map (·.2)) ∧ sumI ((D.take j).map (·.2)) ≤ 140737488355328 := by
  have := sumI_bound (M := 2147483648) (by omega) ((D.take j).map (·.2)) (fun x hx => by
    obtain ⟨p, hp, rfl⟩ := List.mem_map.1 hx
    exact h p (List.mem_of_mem_take hp))
  have hl : (((D.take j).map (·.2)).length : Int) ≤ 65536 := by
    rw [List.length_map, List.length_take]; omega
  have h2 : (2147483648 : Int) * (((D.take j).map (·.2)).length : Int) ≤ 2147483648 * 65536 := Int.mul_le_mul_of_nonneg_left hl (by omega)
  omega
/-- Numbers at two places are unlike. -/
theorem ids_ne {D : List (Int × Int)} (hd : (D.map (·.1)).Nodup) {i j : Nat} (hi : i < j) (hj : j < D.length) : (D.map (·.1)).getD i 0 ≠ (D.map (·.1)).getD j 0 := by
  rw [List.getD_eq_getElem?_getD, List.getD_eq_getElem?_getD, List.getElem?_eq_getElem (by simp; omega), List.getElem?_eq_getElem (by simp; omega)]
  exact fun h => absurd (List.pairwise_iff_getElem.1 hd i j (by simp; omega) (by simp; omega) hi) (by simpa using h)
end Go.Proofs.Ytecnlciogcanmaa
