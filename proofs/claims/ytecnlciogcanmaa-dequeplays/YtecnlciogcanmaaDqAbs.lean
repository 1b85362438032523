/-
  Lists of package deque by their rows and their blocks: what New, Push, Unlink, Move, Reweigh, Front, Back, Of, Weight and Len do when they are called, at every argument; and the small case.
-/
import Derived.Test.YtecnlciogcanmaaDqNew
namespace Go.Proofs.Ytecnlciogcanmaa
open Go.RowKit Go.Deep

namespace Ds
structure Wf (t : Ds) : Prop where
  cap : t.n ≤ 16
  past : ∀ i, t.n ≤ i → t.L i = []
  els : ∀ i, ∀ p ∈ t.L i, 1 ≤ p.1 ∧ p.1 ≤ 65536 ∧ 0 ≤ p.2 ∧ p.2 ≤ 2147483648
  uniq : ∀ i j p q, p ∈ t.L i → q ∈ t.L j → p.1 = q.1 → i = j ∧ p = q
  dup : ∀ i, ((t.L i).map (·.1)).Nodup
def zero (n : Nat) : Ds := ⟨n, fun _ => []⟩
/-- The row of that number. -/
def rowI (t : Ds) (l : Int) : List (Int × Int) := if 0 ≤ l then t.L l.toNat else []
/-- The row of a number, and its weight. -/
def find (t : Ds) (id : Int) : Option (Nat × Int) := (List.range t.n).findSome? fun i => ((t.L i).find? fun p => p.1 == id).map fun p => (i, p.2)
def has (t : Ds) (l : Int) : Bool := decide (0 ≤ l ∧ l < (t.n : Int))
def mayBe (id : Int) : Bool := decide (1 ≤ id ∧ id ≤ 65536)
def mayWeigh (w : Int) : Bool := decide (0 ≤ w ∧ w ≤ 2147483648)
def pushE (t : Ds) (l id w : Int) : Int := if t.has l && mayBe id && mayWeigh w then (if (t.find id).isSome then 5 else 0) else 1
def pushI (t : Ds) (l id w : Int) : Ds := if t.pushE l id w = 0 then t.push l.toNat id w else t
def unlinkE (t : Ds) (id : Int) : Int := if (t.find id).isSome then 0 else 3
def unlinkI (t : Ds) (id : Int) : Ds := if (t.find id).isSome then t.unlink id else t
def moveE (t : Ds) (id l : Int) : Int := if (t.find id).isSome then (if t.has l then 0 else 1) else 3
def moveI (t : Ds) (id l : Int) : Ds := if t.moveE id l = 0 then (t.unlink id).push l.toNat id ((t.find id).getD (0, 0)).2 else t
def reweighE (t : Ds) (id w : Int) : Int := if (t.find id).isSome then (if mayWeigh w then 0 else 1) else 3
def reweighI (t : Ds) (id w : Int) : Ds := if t.reweighE id w = 0 then t.reweigh id w else t
def ofL (t : Ds) (id : Int) : Int := match t.find id with
  | some p => (p.1 : Int)
  | none => -1
def ofW (t : Ds) (id : Int) : Int := ((t.find id).getD (0, 0)).2
variable {t : Ds}
theorem Wf.lt (hw : t.Wf) {i : Nat} {p : Int × Int} (hp : p ∈ t.L i) : i < t.n := by
  apply Decidable.byContradiction; intro h
  rw [hw.past i (by omega)] at hp
  exact absurd hp List.not_mem_nil
theorem find_mem {id : Int} {i : Nat} {w : Int} (h : t.find id = some (i, w)) : (id, w) ∈ t.L i := by
  obtain ⟨j, _, hj⟩ := List.exists_of_findSome?_eq_some h
  obtain ⟨p, hp, he⟩ := Option.map_eq_some_iff.1 hj
  have h1 := List.mem_of_find?_eq_some hp
  have h2 := List.find?_some hp
  simp at h2 he
  obtain ⟨rfl, rfl⟩ := he
  rw [← h2]; exact h1
theorem Wf.find_of (hw : t.Wf) {id : Int} {i : Nat} {w : Int} (h : (id, w) ∈ t.L i) : t.find id = some (i, w) := by
  cases hf : t.find id with
  | none =>
    unfold find at hf
    rw [List.findSome?_eq_none_iff] at hf
    have := hf i (List.mem_range.2 (hw.lt h))
    rw [Option.map_eq_none_iff, List.find?_eq_none] at this
    exact absurd (by simp) (this (id, w) h)
  | some p =>
    obtain ⟨j, v⟩ := p
    obtain ⟨e1, e2⟩ := hw.uniq j i (id, v) (id, w) (find_mem hf) h rfl
    cases e2
    rw [e1]
theorem find_none {id : Int} (hf : t.find id = none) {i : Nat} {w : Int} (hi : i < t.n) : (id, w) ∉ t.L i := fun h => by
  unfold find at hf
  rw [List.findSome?_eq_none_iff] at hf
  have := hf i (List.mem_range.2 hi)
  rw [Option.map_eq_none_iff, List.find?_eq_none] at this
  exact absurd (by simp) (this (id, w) h)
end Ds

variable {w w' : World} {X : Nat} {F : Nat → Prop} {t : Ds} {g : Gh} {pr : Option Addr} {cr M : Nat} {m : Int → Option Nat}
theorem Gh.Wf.st (hw : g.Wf) : g.st.Wf := by
  have mem : ∀ {i : Nat} {p : Int × Int}, p ∈ g.st.L i → i < g.n ∧ ∃ b ∈ g.B i, ((g.E b).id, (g.E b).wt) = p := fun {i p} hp => by
    have hp : p ∈ (if i < g.n then g.row i else []) := hp
    split at hp
    · exact ⟨by assumption, List.mem_map.1 hp⟩
    · exact absurd hp List.not_mem_nil
  refine ⟨hw.cap, fun i hi => if_neg (by show ¬ i < g.n; have hi : g.n ≤ i := hi; omega), fun i p hp => ?_, fun i j p q hp hq h => ?_, fun i => ?_⟩
  · obtain ⟨hi, b, hb, rfl⟩ := mem hp
    have := hw.els i hi b hb
    exact ⟨this.1, this.2.1, this.2.2.1, this.2.2.2.1⟩
  · obtain ⟨hi, b, hb, rfl⟩ := mem hp
    obtain ⟨hj, c, hc, rfl⟩ := mem hq
    have e := hw.uniq i j b c hi hj hb hc h
    subst e
    exact ⟨hw.rowOf hi hj hb hc, rfl⟩
  · show ((if i < g.n then g.row i else []).map (·.1)).Nodup
    split
    · have hi : i < g.n := by assumption
      unfold Gh.row
      rw [List.map_map]
      exact List.pairwise_map.2 (List.Pairwise.imp_of_mem (fun {a b} ha hb hne e => hne (hw.uniq i i a b hi hi ha hb e)) (hw.dup i hi))
    · exact List.nodup_nil
theorem Gh.rowI_st (g : Gh) (l : Int) : g.rowI l = g.st.rowI l := by
  unfold Gh.rowI Ds.rowI
  by_cases h : 0 ≤ l
  · by_cases h' : l < (g.n : Int)
    · rw [if_pos ⟨h, h'⟩, if_pos h]; exact (if_pos (by omega)).symm
    · rw [if_neg (fun x => h' x.2), if_pos h]; exact (if_neg (by omega)).symm
  · rw [if_neg (fun x => h x.1), if_neg h]
theorem DqM.find_some (h : DqM w X pr cr M g m) {id : Int} {b : Nat} (hm : m id = some b) : ∃ i, i < g.n ∧ b ∈ g.B i ∧ (g.E b).id = id ∧ (g.E b).ls = (i : Int) ∧ g.st.find id = some (i, (g.E b).wt) := by
  obtain ⟨i, hi, hb, h1, h2⟩ := h.elem hm
  refine ⟨i, hi, hb, h1, h2, h.core.wf.st.find_of ?_⟩
  show (id, (g.E b).wt) ∈ (if i < g.n then g.row i else [])
  rw [if_pos hi, ← h1]
  exact List.mem_map.2 ⟨b, hb, rfl⟩
theorem DqM.find_no (h : DqM w X pr cr M g m) {id : Int} (hm : m id = none) : g.st.find id = none := by
  cases hf : g.st.find id with
  | none => rfl
  | some p =>
    obtain ⟨i, v⟩ := p
    have h1 := Ds.find_mem hf
    have h1 : (id, v) ∈ (if i < g.n then g.row i else []) := h1
    split at h1
    · obtain ⟨b, hb, e⟩ := List.mem_map.1 h1
      have := (h.mp id b).2 ⟨i, by assumption, hb, congrArg Prod.fst e⟩
      rw [hm] at this; cases this
    · exact absurd h1 List.not_mem_nil

/-- Lists at block X with those rows, their blocks F. -/
def Dq (w : World) (X : Nat) (F : Nat → Prop) (t : Ds) : Prop := ∃ pr cr M g m, DqM w X pr cr M g m ∧ g.st = t ∧ F = dfoot X pr M g
namespace Dq
theorem wf (h : Dq w X F t) : t.Wf := by
  obtain ⟨pr, cr, M, g, m, h, rfl, rfl⟩ := h
  exact h.core.wf.st
theorem lt (h : Dq w X F t) {k : Nat} (hk : F k) : k < w.heap.size := by
  obtain ⟨pr, cr, M, g, m, h, rfl, rfl⟩ := h
  exact h.foot_lt hk
theorem out {G : Nat → Prop} (h : Dq w X F t) (o : Out G w w') (hF : ∀ k, F k → ¬ G k) : Dq w' X F t := by
  obtain ⟨pr, cr, M, g, m, h, rfl, rfl⟩ := h
  exact ⟨pr, cr, M, g, m, h.out o hF, rfl, rfl⟩
theorem keep (h : Dq w X F t) (hk : ∀ k, F k → w'.heap[k]? = w.heap[k]?) : Dq w' X F t := by
  obtain ⟨pr, cr, M, g, m, h, rfl, rfl⟩ := h
  exact ⟨pr, cr, M, g, m, h.keep hk, rfl, rfl⟩
theorem grown (h : Dq w X F t) (g : Grown w w') : Dq w' X F t := h.keep fun _ hk => grown_block g (h.lt hk)
theorem drewN (h : Dq w X F t) (n : Nat) : Dq (w.drewN n) X F t := h.keep fun _ _ => rfl
end Dq

theorem new_a (lists : Int) (w : World) : Calls Try.prog 9 #[.int .i64 lists] w fun e w' => ∃ X F, e = .returned (ptr X) ∧ Dq w' X F (Ds.zero (rowsI lists)) ∧ Grown w w' ∧ ∀ k, F k → w.heap.size ≤ k := by
  refine (new_m lists w).mono ?_
  rintro e w' ⟨X, pr, cr, M, g, rfl, h, hn, hg, hf⟩
  refine ⟨X, _, rfl, ⟨pr, cr, M, g, _, h, Gh.st_ext hn fun i => ?_, rfl⟩, hg, hf⟩
  show (if i < g.n then g.row i else []) = []
  split
  · have hi : i < g.n := by assumption
    unfold Gh.row
    cases hB : g.B i with
    | nil => rfl
    | cons b r =>
      have := (h.mp (g.E b).id b).2 ⟨i, hi, by rw [hB]; simp, rfl⟩
      cases this
  · rfl
theorem front_a (h : Dq w X F t) (l : Int) : Calls Try.prog 26 #[ptr X, .int .i64 l] w fun e w' => e = .returned (.int .i64 (((t.rowI l).map (·.1)).headD 0)) ∧ Grown w w' := by
  obtain ⟨pr, cr, M, g, m, h, rfl, rfl⟩ := h
  rw [← Gh.rowI_st]; exact front_m h l
theorem back_a (h : Dq w X F t) (l : Int) : Calls Try.prog 25 #[ptr X, .int .i64 l] w fun e w' => e = .returned (.int .i64 (((t.rowI l).map (·.1)).getLastD 0)) ∧ Grown w w' := by
  obtain ⟨pr, cr, M, g, m, h, rfl, rfl⟩ := h
  rw [← Gh.rowI_st]; exact back_m h l
theorem weight_a (h : Dq w X F t) (l : Int) : Calls Try.prog 24 #[ptr X, .int .i64 l] w fun e w' => e = .returned (.int .i64 (sumI ((t.rowI l).map (·.2)))) ∧ Grown w w' := by
  obtain ⟨pr, cr, M, g, m, h, rfl, rfl⟩ := h
  rw [← Gh.rowI_st]; exact weight_m h l
theorem len_a (h : Dq w X F t) (l : Int) : Calls Try.prog 23 #[ptr X, .int .i64 l] w fun e w' => e = .returned (.int .i64 ((t.rowI l).length : Int)) ∧ Grown w w' := by
  obtain ⟨pr, cr, M, g, m, h, rfl, rfl⟩ := h
  rw [← Gh.rowI_st]; exact len_m h l
theorem of_a (h : Dq w X F t) {id : Int} (hid : (Lit.int .i64 id).wf = true) : Calls Try.prog 19 #[ptr X, .int .i64 id] w fun e w' => e = .returned (.tuple #[.int .i64 (t.ofL id), .int .i64 (t.ofW id)]) ∧ ∃ d, w' = w.drewN d := by
  obtain ⟨pr, cr, M, g, m, h, rfl, rfl⟩ := h
  unfold Ds.ofL Ds.ofW
  cases hm : m id with
  | none => rw [h.find_no hm]; exact of_no h hid hm
  | some b =>
    obtain ⟨i, hi, hb, h1, h2, h3⟩ := h.find_some hm
    rw [h3]
    have := of_yes h hid hm
    rw [h2] at this
    exact this
theorem step_same {w w' : World} {F : Nat → Prop} (hw : w' = w) : Step F F w w' := by subst hw; exact Step.grown _ (Grown.refl _)
theorem push_a (h : Dq w X F t) (l id wt : Int) : Calls Try.prog 11 #[ptr X, .int .i64 l, .int .i64 id, .int .i64 wt] w fun e w' => e = .returned (.int .i64 (t.pushE l id wt)) ∧ ∃ F', Dq w' X F' (t.pushI l id wt) ∧ Step F F' w w' := by
  obtain ⟨pr, cr, M, g, m, h, rfl, rfl⟩ := h
  unfold Ds.pushI
  by_cases hb : (0 ≤ l ∧ l < (g.n : Int)) ∧ (1 ≤ id ∧ id ≤ 65536) ∧ (0 ≤ wt ∧ wt ≤ 2147483648)
  · obtain ⟨q1, q2, q3⟩ := hb
    have e0 : (g.st.has l && Ds.mayBe id && Ds.mayWeigh wt) = true := by
      rw [Bool.and_eq_true, Bool.and_eq_true]
      exact ⟨⟨decide_eq_true q1, decide_eq_true q2⟩, decide_eq_true q3⟩
    cases hm : m id with
    | none =>
      have e1 : g.st.pushE l id wt = 0 := by unfold Ds.pushE; rw [e0, h.find_no hm]; rfl
      rw [e1, if_pos rfl]
      obtain ⟨i, rfl⟩ : ∃ i : Nat, l = i := ⟨l.toNat, by omega⟩
      have hf : ∀ j, j < g.n → w.heap.size ∉ g.h j :: g.B j := fun j hj hx => Nat.lt_irrefl _ (h.core.rfoot_lt ⟨j, hj, Or.inr hx⟩)
      refine (push_ok h i id wt (by omega) q2 q3 hm).mono ?_
      rintro e w' ⟨rfl, h1, h2⟩
      refine ⟨rfl, _, ⟨pr, cr, M, _, _, h1, Gh.st_add (by omega) hf, rfl⟩, h2, fun k hk => ?_⟩
      rcases hk with q | q | q | ⟨j, hj, q⟩
      · exact Or.inl (Or.inl q)
      · exact Or.inl (Or.inr (Or.inl q))
      · exact Or.inl (Or.inr (Or.inr (Or.inl q)))
      · rcases q with q | q
        · exact Or.inl (Or.inr (Or.inr (Or.inr ⟨j, hj, Or.inl q⟩)))
        · have q : k ∈ g.h j :: (if j = i then g.B j ++ [w.heap.size] else g.B j) := q
          by_cases hx : k = w.heap.size
          · exact Or.inr (by omega)
          · refine Or.inl (Or.inr (Or.inr (Or.inr ⟨j, hj, Or.inr ?_⟩)))
            split at q
            · simp at q ⊢
              rcases q with q | q | q
              · exact Or.inl q
              · exact Or.inr q
              · exact absurd q hx
            · exact q
    | some b =>
      obtain ⟨i, hi, hb, h1, h2, h3⟩ := h.find_some hm
      have e1 : g.st.pushE l id wt = 5 := by unfold Ds.pushE; rw [e0, h3]; rfl
      rw [e1, if_neg (by omega)]
      refine (push_twice h l id wt q1 q2 q3 hm).mono ?_
      rintro e w' ⟨rfl, hw'⟩
      exact ⟨rfl, _, ⟨pr, cr, M, g, m, by rw [hw']; exact h, rfl, rfl⟩, step_same hw'⟩
  · have e1 : g.st.pushE l id wt = 1 := by
      unfold Ds.pushE
      rw [if_neg]
      rw [Bool.and_eq_true, Bool.and_eq_true]
      exact fun ⟨⟨a, b⟩, c⟩ => hb ⟨of_decide_eq_true a, of_decide_eq_true b, of_decide_eq_true c⟩
    rw [e1, if_neg (by omega)]
    refine (push_arg h l id wt hb).mono ?_
    rintro e w' ⟨rfl, hw'⟩
    exact ⟨rfl, _, ⟨pr, cr, M, g, m, by rw [hw']; exact h, rfl, rfl⟩, step_same hw'⟩
theorem cut_foot {i b : Nat} {k : Nat} (hk : dfoot X pr M (g.cut i b) k) : dfoot X pr M g k := by
  rcases hk with q | q | q | ⟨j, hj, q⟩
  · exact Or.inl q
  · exact Or.inr (Or.inl q)
  · exact Or.inr (Or.inr (Or.inl q))
  · refine Or.inr (Or.inr (Or.inr ⟨j, hj, q.imp_right fun q => ?_⟩))
    rcases List.mem_cons.1 q with q | q
    · rw [q]; exact List.mem_cons_self ..
    · exact List.mem_cons_of_mem _ (Gh.mem_cut q)
theorem unlink_a (h : Dq w X F t) {id : Int} (hid : (Lit.int .i64 id).wf = true) : Calls Try.prog 13 #[ptr X, .int .i64 id] w fun e w' => e = .returned (.int .i64 (t.unlinkE id)) ∧ ∃ F', Dq w' X F' (t.unlinkI id) ∧ Step F F' w w' := by
  obtain ⟨pr, cr, M, g, m, h, rfl, rfl⟩ := h
  unfold Ds.unlinkI Ds.unlinkE
  cases hm : m id with
  | none =>
    rw [h.find_no hm]
    refine (unlink_no h hid hm).mono ?_
    rintro e w' ⟨rfl, hw'⟩
    exact ⟨rfl, _, ⟨pr, cr, M, g, m, by rw [hw']; exact h, rfl, rfl⟩, step_same hw'⟩
  | some b =>
    obtain ⟨i, hi, hb, h1, h2, h3⟩ := h.find_some hm
    rw [h3]
    refine (unlink_ok h hid hm hi hb).mono ?_
    rintro e w' ⟨rfl, k1, k2⟩
    exact ⟨rfl, _, ⟨pr, cr, M, _, _, k1, by rw [Gh.st_cut h.core.wf hi hb, h1]; rfl, rfl⟩, k2, fun k hk => Or.inl (cut_foot hk)⟩
theorem move_a (h : Dq w X F t) {id : Int} (l : Int) (hid : (Lit.int .i64 id).wf = true) : Calls Try.prog 15 #[ptr X, .int .i64 id, .int .i64 l] w fun e w' => e = .returned (.int .i64 (t.moveE id l)) ∧ ∃ F', Dq w' X F' (t.moveI id l) ∧ Step F F' w w' := by
  obtain ⟨pr, cr, M, g, m, h, rfl, rfl⟩ := h
  unfold Ds.moveI
  cases hm : m id with
  | none =>
    have e1 : g.st.moveE id l = 3 := by unfold Ds.moveE; rw [h.find_no hm]; rfl
    rw [e1, if_neg (by omega)]
    refine (move_no h l hid hm).mono ?_
    rintro e w' ⟨rfl, hw'⟩
    exact ⟨rfl, _, ⟨pr, cr, M, g, m, by rw [hw']; exact h, rfl, rfl⟩, step_same hw'⟩
  | some b =>
    obtain ⟨i, hi, hb, h1, h2, h3⟩ := h.find_some hm
    by_cases q1 : 0 ≤ l ∧ l < (g.n : Int)
    · have e0 : g.st.has l = true := decide_eq_true q1
      have e1 : g.st.moveE id l = 0 := by unfold Ds.moveE; rw [h3, e0]; rfl
      rw [e1, if_pos rfl, h3]
      obtain ⟨j, rfl⟩ : ∃ j : Nat, l = j := ⟨l.toNat, by omega⟩
      refine (move_ok h hid hm hi hb (by omega)).mono ?_
      rintro e w' ⟨rfl, k1, k2⟩
      have hw := h.core.wf
      have hf : ∀ x, x < (g.cut i b).n → b ∉ (g.cut i b).h x :: (g.cut i b).B x := fun x hx q => by
        rcases List.mem_cons.1 q with q | q
        · exact hw.notHead hi hx hb q
        · exact ((Gh.mem_cut_iff hw hi hb hx).1 q).2 rfl
      refine ⟨rfl, _, ⟨pr, cr, M, _, _, k1, ?_, rfl⟩, k2, fun k hk => Or.inl ?_⟩
      · rw [Gh.st_add (show j < (g.cut i b).n by show j < g.n; omega) hf, Gh.st_cut hw hi hb, h1]; rfl
      · rcases hk with q | q | q | ⟨x, hx, q⟩
        · exact Or.inl q
        · exact Or.inr (Or.inl q)
        · exact Or.inr (Or.inr (Or.inl q))
        · refine Or.inr (Or.inr (Or.inr ?_))
          rcases q with q | q
          · exact ⟨x, hx, Or.inl q⟩
          · have q : k ∈ g.h x :: (if x = j then (g.cut i b).B x ++ [b] else (g.cut i b).B x) := q
            by_cases hkb : k = b
            · exact ⟨i, hi, Or.inr (by rw [hkb]; exact List.mem_cons_of_mem _ hb)⟩
            · refine ⟨x, hx, Or.inr ?_⟩
              rcases List.mem_cons.1 q with q | q
              · rw [q]; exact List.mem_cons_self ..
              · refine List.mem_cons_of_mem _ (Gh.mem_cut (i := i) (e := b) ?_)
                split at q
                · rcases List.mem_append.1 q with q | q
                  · exact q
                  · simp at q; exact absurd q hkb
                · exact q
    · have e0 : g.st.has l = false := decide_eq_false q1
      have e1 : g.st.moveE id l = 1 := by unfold Ds.moveE; rw [h3, e0]; rfl
      rw [e1, if_neg (by omega)]
      refine (move_arg h l hid hm q1).mono ?_
      rintro e w' ⟨rfl, hw'⟩
      exact ⟨rfl, _, ⟨pr, cr, M, g, m, by rw [hw']; exact h, rfl, rfl⟩, step_same hw'⟩
theorem reweigh_a (h : Dq w X F t) {id : Int} (wt : Int) (hid : (Lit.int .i64 id).wf = true) : Calls Try.prog 17 #[ptr X, .int .i64 id, .int .i64 wt] w fun e w' => e = .returned (.int .i64 (t.reweighE id wt)) ∧ ∃ F', Dq w' X F' (t.reweighI id wt) ∧ Step F F' w w' := by
  obtain ⟨pr, cr, M, g, m, h, rfl, rfl⟩ := h
  unfold Ds.reweighI
  cases hm : m id with
  | none =>
    have e1 : g.st.reweighE id wt = 3 := by unfold Ds.reweighE; rw [h.find_no hm]; rfl
    rw [e1, if_neg (by omega)]
    refine (reweigh_no h wt hid hm).mono ?_
    rintro e w' ⟨rfl, hw'⟩
    exact ⟨rfl, _, ⟨pr, cr, M, g, m, by rw [hw']; exact h, rfl, rfl⟩, step_same hw'⟩
  | some b =>
    obtain ⟨i, hi, hb, h1, h2, h3⟩ := h.find_some hm
    by_cases q1 : 0 ≤ wt ∧ wt ≤ 2147483648
    · have e1 : g.st.reweighE id wt = 0 := by unfold Ds.reweighE; rw [h3, show Ds.mayWeigh wt = true from decide_eq_true q1]; rfl
      rw [e1, if_pos rfl]
      refine (reweigh_ok h hid hm hi hb q1).mono ?_
      rintro e w' ⟨rfl, k1, k2⟩
      exact ⟨rfl, _, ⟨pr, cr, M, _, _, k1, by rw [Gh.st_weigh h.core.wf hi hb, h1], rfl⟩, k2, fun k hk => Or.inl hk⟩
    · have e1 : g.st.reweighE id wt = 1 := by unfold Ds.reweighE; rw [h3, show Ds.mayWeigh wt = false from decide_eq_false q1]; rfl
      rw [e1, if_neg (by omega)]
      refine (reweigh_arg h wt hid hm q1).mono ?_
      rintro e w' ⟨rfl, hw'⟩
      exact ⟨rfl, _, ⟨pr, cr, M, g, m, by rw [hw']; exact h, rfl, rfl⟩, step_same hw'⟩
end Go.Proofs.Ytecnlciogcanmaa
