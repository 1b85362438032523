/-
  Rows that change by moves, pushes and unlinks stay right, and what all of them weigh and hold: without memory. No condition but those told at each sentence.
-/
import Derived.Test.YtlmcopenbeammaaGrDqB
namespace Go.Proofs.Ytlmcopenbeammaa
open Go.RowKit Go.Deep
namespace Ds
variable {t t' : Ds}
theorem Wf.unlinkW (hw : t.Wf) (id : Int) : (t.unlink id).Wf := by
  refine ⟨hw.cap, fun i hi => ?_, fun i p hp => hw.els i p (List.mem_filter.1 hp).1, fun i j p q hp hq h => hw.uniq i j p q (List.mem_filter.1 hp).1 (List.mem_filter.1 hq).1 h, fun i => ?_⟩
  · show (t.L i).filter _ = []
    rw [hw.past i hi]; rfl
  · exact List.Pairwise.sublist ((List.filter_sublist).map _) (hw.dup i)
theorem Wf.pushW (hw : t.Wf) {l : Nat} {id w : Int} (hl : l < t.n) (h1 : 1 ≤ id ∧ id ≤ 65536) (h2 : 0 ≤ w ∧ w ≤ 2147483648) (hf : ∀ i v, (id, v) ∉ t.L i) : (t.push l id w).Wf := by
  have mem : ∀ {i p}, p ∈ (t.push l id w).L i → p ∈ t.L i ∨ (i = l ∧ p = (id, w)) := fun {i p} hp => by
    rw [push_row] at hp
    split at hp
    · rcases List.mem_append.1 hp with q | q
      · exact .inl q
      · exact .inr ⟨by assumption, by simpa using q⟩
    · exact .inl hp
  refine ⟨hw.cap, fun i hi => ?_, fun i p hp => ?_, fun i j p q hp hq h => ?_, fun i => ?_⟩
  · have hi : t.n ≤ i := hi
    rw [push_row, if_neg (by omega)]; exact hw.past i hi
  · rcases mem hp with q | ⟨_, rfl⟩
    · exact hw.els i p q
    · exact ⟨h1.1, h1.2, h2.1, h2.2⟩
  · rcases mem hp with a | ⟨a, rfl⟩ <;> rcases mem hq with b | ⟨b, rfl⟩
    · exact hw.uniq i j p q a b h
    · exact absurd (show (id, p.2) ∈ t.L i by rw [← show p = (id, p.2) from Prod.ext h rfl]; exact a) (hf i p.2)
    · exact absurd (show (id, q.2) ∈ t.L j by rw [← show q = (id, q.2) from Prod.ext h.symm rfl]; exact b) (hf j q.2)
    · exact ⟨a.trans b.symm, rfl⟩
  · rw [push_row]
    split
    · rw [List.map_append]
      refine List.nodup_append.2 ⟨hw.dup i, by simp, fun a ha b hb e => ?_⟩
      simp at hb
      obtain ⟨p, hp, rfl⟩ := List.mem_map.1 ha
      exact hf i p.2 (by rw [← show p = (id, p.2) from Prod.ext (e.trans hb) rfl]; exact hp)
    · exact hw.dup i
theorem reweigh_row (t : Ds) (id w : Int) (i : Nat) : (t.reweigh id w).L i = (t.L i).map fun p => if p.1 = id then (id, w) else p := rfl
theorem reweigh_fst (t : Ds) (id w : Int) (i : Nat) : ((t.reweigh id w).L i).map (·.1) = (t.L i).map (·.1) := by
  rw [reweigh_row, List.map_map]
  refine List.map_congr_left fun p _ => ?_
  show (if p.1 = id then (id, w) else p).1 = p.1
  split
  · exact Eq.symm (by assumption)
  · rfl
theorem Wf.reweighW (hw : t.Wf) {id w : Int} (h2 : 0 ≤ w ∧ w ≤ 2147483648) : (t.reweigh id w).Wf := by
  have fst : ∀ p : Int × Int, (if p.1 = id then (id, w) else p).1 = p.1 := fun p => by
    split
    · exact Eq.symm (by assumption)
    · rfl
  refine ⟨hw.cap, fun i hi => ?_, fun i p hp => ?_, fun i j p q hp hq h => ?_, fun i => by rw [reweigh_fst]; exact hw.dup i⟩
  · rw [reweigh_row, hw.past i hi]; rfl
  · obtain ⟨p0, h0, rfl⟩ := List.mem_map.1 hp
    have := hw.els i p0 h0
    split
    · have e : p0.1 = id := by assumption
      exact ⟨by rw [← e]; exact this.1, by rw [← e]; exact this.2.1, h2.1, h2.2⟩
    · exact this
  · obtain ⟨p0, h0, rfl⟩ := List.mem_map.1 hp
    obtain ⟨q0, k0, rfl⟩ := List.mem_map.1 hq
    obtain ⟨e1, e2⟩ := hw.uniq i j p0 q0 h0 k0 (by rw [← fst p0, ← fst q0]; exact h)
    exact ⟨e1, by rw [e2]⟩
theorem Wf.find_iff (hw : t.Wf) (id : Int) : (t.find id).isSome = true ↔ ∃ i w, (id, w) ∈ t.L i := by
  constructor
  · intro h
    obtain ⟨⟨i, w⟩, hp⟩ := Option.isSome_iff_exists.1 h
    exact ⟨i, w, find_mem hp⟩
  · rintro ⟨i, w, h⟩
    rw [hw.find_of h]; rfl
theorem Wf.not_found (hw : t.Wf) {id : Int} (h : t.find id = none) : ∀ i v, (id, v) ∉ t.L i := fun i v hm => by
  rw [hw.find_of hm] at h; cases h

/-- The same numbers with the same weights, in other rows maybe. -/
structure Sm (t t' : Ds) : Prop where
  wf : t'.Wf
  n : t'.n = t.n
  tot : t'.tot t.n = t.tot t.n
  cnt : t'.cnt t.n = t.cnt t.n
  mem : ∀ p : Int × Int, (∃ i, p ∈ t'.L i) ↔ ∃ i, p ∈ t.L i
theorem Sm.refl (hw : t.Wf) : Sm t t := ⟨hw, rfl, rfl, rfl, fun _ => Iff.rfl⟩
theorem Sm.trans {t'' : Ds} (h : Sm t t') (k : Sm t' t'') : Sm t t'' := by
  have e := h.n
  refine ⟨k.wf, k.n.trans e, ?_, ?_, fun p => (k.mem p).trans (h.mem p)⟩
  · have := k.tot; rw [e] at this; exact this.trans h.tot
  · have := k.cnt; rw [e] at this; exact this.trans h.cnt
theorem Sm.find (hw : t.Wf) (h : Sm t t') (id : Int) : (t'.find id).isSome = (t.find id).isSome := by
  rw [Bool.eq_iff_iff, h.wf.find_iff, hw.find_iff]
  constructor
  · rintro ⟨i, w, hm⟩
    obtain ⟨j, hj⟩ := (h.mem (id, w)).1 ⟨i, hm⟩
    exact ⟨j, w, hj⟩
  · rintro ⟨i, w, hm⟩
    obtain ⟨j, hj⟩ := (h.mem (id, w)).2 ⟨i, hm⟩
    exact ⟨j, w, hj⟩
theorem Wf.moveW (hw : t.Wf) (id l : Int) : (t.moveI id l).Wf := by
  by_cases h : t.moveE id l = 0
  · obtain ⟨i, w, hf, h1, h2⟩ := moveE_zero h
    rw [moveI_zero h hf]
    have hm := find_mem hf
    have he := hw.els i _ hm
    refine (hw.unlinkW id).pushW (by show l.toNat < t.n; omega) ⟨he.1, he.2.1⟩ ⟨he.2.2.1, he.2.2.2⟩ fun i v hv => ?_
    have := (List.mem_filter.1 hv).2
    simp at this
  · rw [moveI_not h]; exact hw
theorem Wf.move_sm (hw : t.Wf) (id l : Int) : Sm t (t.moveI id l) := by
  by_cases h : t.moveE id l = 0
  · obtain ⟨e1, _, _, _, e5, e6⟩ := hw.moved h (hw.moveW id l)
    obtain ⟨i0, w0, hf, h1, h2⟩ := moveE_zero h
    refine ⟨hw.moveW id l, e1, e5, e6, fun p => ?_⟩
    rw [moveI_zero h hf]
    have hm := find_mem hf
    constructor
    · rintro ⟨i, hp⟩
      rw [push_row, unlink_row] at hp
      split at hp
      · rcases List.mem_append.1 hp with q | q
        · exact ⟨i, (List.mem_filter.1 q).1⟩
        · simp at q; rw [q]; exact ⟨i0, hm⟩
      · exact ⟨i, (List.mem_filter.1 hp).1⟩
    · rintro ⟨i, hp⟩
      by_cases e : p.1 = id
      · obtain ⟨_, e2⟩ := hw.uniq i i0 p (id, w0) hp hm e
        refine ⟨l.toNat, ?_⟩
        rw [push_row, if_pos rfl, e2]; simp
      · refine ⟨i, ?_⟩
        have hq : p ∈ (t.unlink id).L i := List.mem_filter.2 ⟨hp, by simpa using e⟩
        rw [push_row]
        split
        · exact List.mem_append_left _ hq
        · exact hq
  · rw [moveI_not h]; exact Sm.refl hw
/-- What moves leave in the rows that they do not touch. -/
theorem Wf.move_row (hw : t.Wf) {id l : Int} {i j : Nat} {w : Int} (hm : (id, w) ∈ t.L i) (hj : j ≠ i) (hl : (j : Int) ≠ l) : (t.moveI id l).L j = t.L j := by
  by_cases h : t.moveE id l = 0
  · obtain ⟨i0, w0, hf, h1, h2⟩ := moveE_zero h
    rw [moveI_zero h hf, push_row, if_neg (by omega), unlink_row]
    exact filter_not fun v hv => hj (hw.uniq j i (id, v) (id, w) hv hm rfl).1
  · rw [moveI_not h]

/-! ### The first of a row, again and again -/
def wt (t : Ds) (r : Nat) : Int := sumD ((t.L r).map (·.2))
def fst (t : Ds) (r : Nat) : Int := ((t.L r).map (·.1)).headD 0
def lst (t : Ds) (r : Nat) : Int := ((t.L r).map (·.1)).getLastD 0
def shedN (r : Nat) (most : Int) : Nat → Ds → Ds
  | 0, t => t
  | k + 1, t => if most < t.wt r then shedN r most k (t.moveI (t.fst r) 1) else t
theorem shedN_succ (r : Nat) (most : Int) (k : Nat) (t : Ds) : shedN r most (k + 1) t = if most < t.wt r then shedN r most k (t.moveI (t.fst r) 1) else t := rfl
/-- As long as a row weighs more than most its first is moved to row 1. -/
def shed (t : Ds) (r : Nat) (most : Int) : Ds := shedN r most (t.L r).length t
theorem wt_pos {r : Nat} (h : 0 < t.wt r) : ∃ id w l, t.L r = (id, w) :: l ∧ t.fst r = id := by
  unfold wt at h
  unfold fst
  cases e : t.L r with
  | nil => rw [e] at h; simp [sumD] at h
  | cons p l => exact ⟨p.1, p.2, l, rfl, rfl⟩
theorem Wf.first_moves (hw : t.Wf) {r : Nat} {id w : Int} {l : List (Int × Int)} (hr : r ≠ 1) (hn : 1 < t.n) (h : t.L r = (id, w) :: l) : t.moveE id 1 = 0 ∧ (t.moveI id 1).L r = l := by
  have hm : (id, w) ∈ t.L r := by rw [h]; simp
  have hf := hw.find_of hm
  have e : t.moveE id 1 = 0 := by
    unfold moveE
    rw [hf, show t.has 1 = true from decide_eq_true ⟨by omega, by omega⟩]; rfl
  refine ⟨e, ?_⟩
  rw [moveI_zero e hf, push_row, if_neg (by show r ≠ (1 : Int).toNat; exact hr), unlink_row, h]
  have := hw.dup r
  rw [h] at this
  exact filter_head this
theorem Wf.shed_go (hw : t.Wf) {r : Nat} {most : Int} (hr : r ≠ 1) (hn : 1 < t.n) (h0 : 0 ≤ most) (h : most < t.wt r) :
    (t.moveI (t.fst r) 1).shed r most = t.shed r most ∧ ((t.moveI (t.fst r) 1).L r).length < (t.L r).length := by
  obtain ⟨id, w, l, e, ef⟩ := wt_pos (t := t) (r := r) (by omega)
  obtain ⟨_, e2⟩ := hw.first_moves hr hn e
  rw [ef, e2]
  unfold shed
  rw [e2, e]
  refine ⟨?_, by simp⟩
  show _ = shedN r most (l.length + 1) t
  rw [shedN_succ, if_pos h, ef]
theorem shed_stop {r : Nat} {most : Int} (h : ¬ most < t.wt r) : t.shed r most = t := by
  unfold shed
  cases (t.L r).length with
  | zero => rfl
  | succ k => unfold shedN; rw [if_neg h]
theorem shedN_sm {r : Nat} {most : Int} : ∀ (k : Nat) (t : Ds), t.Wf → Sm t (shedN r most k t)
  | 0, t, hw => Sm.refl hw
  | k + 1, t, hw => by
    unfold shedN
    split
    · exact (hw.move_sm _ _).trans (shedN_sm k _ (hw.moveW _ _))
    · exact Sm.refl hw
theorem Wf.shed_sm (hw : t.Wf) (r : Nat) (most : Int) : Sm t (t.shed r most) := shedN_sm _ _ hw
theorem shedN_row {r j : Nat} {most : Int} (h0 : 0 ≤ most) (hj : j ≠ r) (h1 : j ≠ 1) : ∀ (k : Nat) (t : Ds), t.Wf → (shedN r most k t).L j = t.L j
  | 0, t, _ => rfl
  | k + 1, t, hw => by
    unfold shedN
    split
    · have h : most < t.wt r := by assumption
      obtain ⟨id, w, l, e, ef⟩ := wt_pos (t := t) (r := r) (by omega)
      rw [shedN_row h0 hj h1 k _ (hw.moveW _ _), ef]
      exact hw.move_row (i := r) (w := w) (by rw [e]; simp) hj (by omega)
    · rfl
theorem Wf.shed_row (hw : t.Wf) {r j : Nat} {most : Int} (h0 : 0 ≤ most) (hj : j ≠ r) (h1 : j ≠ 1) : (t.shed r most).L j = t.L j := shedN_row h0 hj h1 _ _ hw
theorem tot3 (t : Ds) : t.tot 3 = t.wt 0 + t.wt 1 + t.wt 2 := by
  show ((0 + sumD ((t.L 0).map (·.2))) + sumD ((t.L 1).map (·.2))) + sumD ((t.L 2).map (·.2)) = _
  unfold wt; omega
end Ds
end Go.Proofs.Ytlmcopenbeammaa
