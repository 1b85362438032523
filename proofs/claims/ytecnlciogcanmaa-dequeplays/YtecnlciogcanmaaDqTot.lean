/-
  What all rows weigh together, and how many they hold, behind a push and a move: without memory. No condition but those told at each sentence.
-/
import Derived.Test.YtecnlciogcanmaaDqFacts
namespace Go.Proofs.Ytecnlciogcanmaa
open Go.RowKit Go.Deep

theorem filter_out {id w : Int} : ∀ {l : List (Int × Int)}, (l.map (·.1)).Nodup → (id, w) ∈ l → sumI ((l.filter fun p => !(p.1 == id)).map (·.2)) + w = sumI (l.map (·.2)) ∧ (l.filter fun p => !(p.1 == id)).length + 1 = l.length
  | [], _, h => absurd h List.not_mem_nil
  | (x, v) :: r, hd, h => by
    obtain ⟨h1, h2⟩ := List.nodup_cons.1 hd
    by_cases hx : x = id
    · subst hx
      have hv : v = w := by
        rcases List.mem_cons.1 h with q | q
        · cases q; rfl
        · exact absurd (List.mem_map.2 ⟨(x, w), q, rfl⟩) h1
      subst hv
      rw [Ds.filter_head hd]
      simp [sumI]; omega
    · have hm : (id, w) ∈ r := by
        rcases List.mem_cons.1 h with q | q
        · cases q; exact absurd rfl hx
        · exact q
      obtain ⟨i1, i2⟩ := filter_out h2 hm
      have hb : (x == id) = false := by simpa using hx
      rw [List.filter_cons]
      simp only [hb, Bool.not_false, if_true, List.map_cons, sumI, List.length_cons]
      omega
theorem filter_not {id : Int} {l : List (Int × Int)} (h : ∀ w, (id, w) ∉ l) : (l.filter fun p => !(p.1 == id)) = l := by
  refine List.filter_eq_self.2 fun p hp => ?_
  simp
  intro e
  exact h p.2 (by rw [← e]; exact hp)
namespace Ds
variable {t : Ds}
/-- What the first k rows weigh; how many they hold. -/
def tot (t : Ds) : Nat → Int
  | 0 => 0
  | k + 1 => t.tot k + sumI ((t.L k).map (·.2))
def cnt (t : Ds) : Nat → Nat
  | 0 => 0
  | k + 1 => t.cnt k + (t.L k).length
theorem tot_succ (t : Ds) (k : Nat) : t.tot (k + 1) = t.tot k + sumI ((t.L k).map (·.2)) := rfl
theorem cnt_succ (t : Ds) (k : Nat) : t.cnt (k + 1) = t.cnt k + (t.L k).length := rfl
theorem push_row (t : Ds) (l : Nat) (id w : Int) (i : Nat) : (t.push l id w).L i = if i = l then t.L i ++ [(id, w)] else t.L i := rfl
theorem unlink_row (t : Ds) (id : Int) (i : Nat) : (t.unlink id).L i = (t.L i).filter fun p => !(p.1 == id) := rfl
theorem tot_push (t : Ds) (l : Nat) (id w : Int) : ∀ k, (t.push l id w).tot k = (if l < k then t.tot k + w else t.tot k) ∧ (t.push l id w).cnt k = if l < k then t.cnt k + 1 else t.cnt k
  | 0 => by simp [tot, cnt]
  | k + 1 => by
    obtain ⟨h1, h2⟩ := tot_push t l id w k
    rw [tot_succ, cnt_succ, tot_succ, cnt_succ, h1, h2, push_row]
    by_cases e : k = l
    · subst e
      simp only [if_pos, if_neg (Nat.lt_irrefl k), if_pos (Nat.lt_succ_self k), List.map_append, sumI_append, List.length_append]
      simp [sumI]; omega
    · rw [if_neg e]
      by_cases q : l < k
      · simp only [if_pos q, if_pos (show l < k + 1 by omega)]; omega
      · simp only [if_neg q, if_neg (show ¬ l < k + 1 by omega)]; simp
theorem tot_unlink (hw : t.Wf) {i : Nat} {id w : Int} (h : (id, w) ∈ t.L i) : ∀ k, ((t.unlink id).tot k + (if i < k then w else 0) = t.tot k) ∧ (t.unlink id).cnt k + (if i < k then 1 else 0) = t.cnt k
  | 0 => by simp [tot, cnt]
  | k + 1 => by
    obtain ⟨h1, h2⟩ := tot_unlink hw h k
    rw [tot_succ, cnt_succ, tot_succ, cnt_succ, unlink_row]
    by_cases e : k = i
    · subst e
      obtain ⟨f1, f2⟩ := filter_out (hw.dup k) h
      simp only [if_neg (Nat.lt_irrefl k), if_pos (Nat.lt_succ_self k)] at h1 h2 ⊢
      omega
    · have hn : ∀ v, (id, v) ∉ t.L k := fun v hv => e (hw.uniq k i (id, v) (id, w) hv h rfl).1
      rw [filter_not hn]
      by_cases q : i < k
      · simp only [if_pos q, if_pos (show i < k + 1 by omega)] at h1 h2 ⊢; omega
      · simp only [if_neg q, if_neg (show ¬ i < k + 1 by omega)] at h1 h2 ⊢; omega
theorem Wf.weight_pos (hw : t.Wf) (i : Nat) : 0 ≤ sumI ((t.L i).map (·.2)) := (sumI_bound (M := 2147483648) (by omega) _ (fun x hx => by
    obtain ⟨p, hp, rfl⟩ := List.mem_map.1 hx
    have := hw.els i p hp
    exact ⟨this.2.2.1, this.2.2.2⟩)).1
theorem Wf.tot_le (hw : t.Wf) {k n : Nat} (h : k ≤ n) : 0 ≤ t.tot k ∧ t.tot k ≤ t.tot n ∧ t.cnt k ≤ t.cnt n := by
  have base : ∀ k, 0 ≤ t.tot k := by
    intro k
    induction k with
    | zero => simp [tot]
    | succ k ih => rw [tot_succ]; have := hw.weight_pos k; omega
  refine ⟨base k, ?_⟩
  obtain ⟨d, rfl⟩ := Nat.le.dest h
  clear h
  induction d with
  | zero => simp
  | succ d ih =>
    have := hw.weight_pos (k + d)
    rw [show k + (d + 1) = k + d + 1 by omega, tot_succ, cnt_succ]
    omega
theorem moveE_zero {id l : Int} (h : t.moveE id l = 0) : ∃ i w, t.find id = some (i, w) ∧ 0 ≤ l ∧ l < (t.n : Int) := by
  unfold moveE at h
  split at h
  · split at h
    · have hs : (t.find id).isSome = true := by assumption
      have hl : t.has l = true := by assumption
      obtain ⟨⟨i, w⟩, hp⟩ := Option.isSome_iff_exists.1 hs
      have := of_decide_eq_true hl
      exact ⟨i, w, hp, this.1, this.2⟩
    · exact absurd h (by omega)
  · exact absurd h (by omega)
theorem moveI_zero {id l : Int} (h : t.moveE id l = 0) {i : Nat} {w : Int} (hf : t.find id = some (i, w)) : t.moveI id l = (t.unlink id).push l.toNat id w := by
  unfold moveI; rw [if_pos h, hf]; rfl
theorem moveI_not {id l : Int} (h : t.moveE id l ≠ 0) : t.moveI id l = t := if_neg h
/-- What is moved is the last of its new row, with the weight that it had; all rows weigh as much, and hold as many. -/
theorem Wf.moved (hw : t.Wf) {id l : Int} (h : t.moveE id l = 0) (hw' : (t.moveI id l).Wf) : (t.moveI id l).n = t.n ∧ (t.moveI id l).ofL id = l ∧ (t.moveI id l).ofW id = t.ofW id ∧ (((t.moveI id l).rowI l).map (·.1)).getLastD 0 = id ∧ (t.moveI id l).tot t.n = t.tot t.n ∧ (t.moveI id l).cnt t.n = t.cnt t.n := by
  obtain ⟨i, w, hf, h1, h2⟩ := moveE_zero h
  obtain ⟨j, rfl⟩ : ∃ j : Nat, l = j := ⟨l.toNat, by omega⟩
  have hm := find_mem hf
  have e := moveI_zero h hf
  have hj : (j : Int).toNat = j := by omega
  rw [hj] at e
  have hrow : (t.moveI id j).L j = (t.unlink id).L j ++ [(id, w)] := by rw [e, push_row, if_pos rfl]
  have hf' : (t.moveI id j).find id = some (j, w) := hw'.find_of (by rw [hrow]; simp)
  refine ⟨by rw [e]; rfl, by unfold ofL; rw [hf'], by unfold ofW; rw [hf', hf]; rfl, ?_, ?_, ?_⟩
  · unfold rowI
    rw [if_pos (by omega), hj, hrow, List.map_append, List.getLastD_eq_getLast?]
    simp
  · have a := (tot_push (t.unlink id) j id w t.n).1
    have b := (tot_unlink hw hm t.n).1
    rw [if_pos (by omega)] at a
    rw [if_pos (hw.lt hm)] at b
    rw [e, a, b]
  · have a := (tot_push (t.unlink id) j id w t.n).2
    have b := (tot_unlink hw hm t.n).2
    rw [if_pos (by omega)] at a
    rw [if_pos (hw.lt hm)] at b
    rw [e, a, b]
end Ds
end Go.Proofs.Ytecnlciogcanmaa
