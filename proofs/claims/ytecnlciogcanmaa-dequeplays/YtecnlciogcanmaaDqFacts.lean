/-
  What rows are behind a push, an unlink, a move: without memory. No condition but those told at each sentence.
-/
import Derived.Test.YtecnlciogcanmaaDqLaws
namespace Go.Proofs.Ytecnlciogcanmaa
open Go.RowKit Go.Deep

theorem wrap_nat (q : Nat) (h : q ≤ 1000000) : IntKind.i64.wrap (q : Int) = q := by
  simp [IntKind.wrap, IntKind.signed, IntKind.bits]; omega
/-- The numbers of a row, as cells. -/
def idsC (l : List (Int × Int)) (j : Nat) : Value := .int .i64 ((l.map (·.1)).getD j 0)
theorem idsC_append (l : List (Int × Int)) (p : Int × Int) (j : Nat) (hj : j < l.length + 1) : (if j < l.length then idsC l j else .int .i64 p.1) = idsC (l ++ [p]) j := by
  unfold idsC
  rw [List.map_append]
  by_cases h : j < l.length
  · rw [if_pos h, List.getD_eq_getElem?_getD, List.getD_eq_getElem?_getD, List.getElem?_append_left (by simpa using h)]
  · have e : j = l.length := by omega
    rw [if_neg h, List.getD_eq_getElem?_getD, List.getElem?_append_right (by simp; omega)]
    simp [e]
theorem idsC_at {l : List (Int × Int)} {k : Nat} {p : Int × Int} {r : List (Int × Int)} (h : l.drop k = p :: r) : idsC l k = .int .i64 p.1 := by
  have h1 : l[k]? = some p := by
    have := congrArg List.head? h
    simpa using this
  unfold idsC
  rw [List.getD_eq_getElem?_getD, List.getElem?_map, h1]
  rfl
namespace Ds
variable {t : Ds}
theorem pushE_zero {l id w : Int} (h : t.pushE l id w = 0) : (0 ≤ l ∧ l < (t.n : Int)) ∧ (1 ≤ id ∧ id ≤ 65536) ∧ (0 ≤ w ∧ w ≤ 2147483648) ∧ t.find id = none := by
  unfold pushE at h
  split at h
  · split at h
    · exact absurd h (by omega)
    · have hb : (t.has l && mayBe id && mayWeigh w) = true := by assumption
      rw [Bool.and_eq_true, Bool.and_eq_true] at hb
      obtain ⟨⟨a, b⟩, c⟩ := hb
      have a := of_decide_eq_true a
      have b := of_decide_eq_true b
      have c := of_decide_eq_true c
      refine ⟨a, b, c, ?_⟩
      cases hf : t.find id with
      | none => rfl
      | some p => exact absurd (by rw [hf]; rfl) (by assumption : ¬ (t.find id).isSome = true)
  · exact absurd h (by omega)
theorem pushI_zero {l id w : Int} (h : t.pushE l id w = 0) : t.pushI l id w = t.push l.toNat id w := if_pos h
theorem pushI_not {l id w : Int} (h : t.pushE l id w ≠ 0) : t.pushI l id w = t := if_neg h
theorem filter_head {id w : Int} {r : List (Int × Int)} (hd : (((id, w) :: r).map (·.1)).Nodup) : (((id, w) :: r).filter fun p => !(p.1 == id)) = r := by
  rw [List.filter_cons]
  simp only [BEq.rfl, Bool.not_true, Bool.false_eq_true, if_false]
  refine List.filter_eq_self.2 fun p hp => ?_
  simp
  intro e
  exact (List.nodup_cons.1 hd).1 (by rw [← e]; exact List.mem_map.2 ⟨p, hp, rfl⟩)
/-- Who unlinks the first leaves the rest. -/
theorem Wf.unlink_head (hw : t.Wf) {i : Nat} {id w : Int} {r : List (Int × Int)} (h : t.L i = (id, w) :: r) : t.unlinkE id = 0 ∧ (t.unlinkI id).L i = r ∧ (t.unlinkI id).n = t.n := by
  have hf := hw.find_of (show (id, w) ∈ t.L i by rw [h]; simp)
  have e1 : (t.find id).isSome = true := by rw [hf]; rfl
  have e2 : t.unlinkI id = t.unlink id := by unfold unlinkI; rw [if_pos e1]
  refine ⟨by unfold unlinkE; rw [if_pos e1], ?_, by rw [e2]; rfl⟩
  rw [e2]
  show (t.L i).filter _ = r
  rw [h]
  have := hw.dup i
  rw [h] at this
  exact filter_head this
end Ds
end Go.Proofs.Ytecnlciogcanmaa
