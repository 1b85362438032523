/-
  Lists of package deque by their rows and their blocks: what New, Push, Unlink, Move, Reweigh, Front, Back, Of, Weight and Len do when they are called, at every argument; and the small case.
-/
import Derived.Test.YtlmcopenbeammaaDqNew
namespace Go.Proofs.Ytlmcopenbeammaa
open Go.RowKit Go.Deep

namespace Ds
structure Wf (t : Ds) : Prop where
  cap : t.n ≤ 16
  past : ∀ i, t.n ≤ i → t.L i = []
  els : ∀ i, ∀ p ∈ t.L i, 1 ≤ p.1 ∧ p.1 ≤ 65536 ∧ 0 ≤ p.2 ∧ p.2 ≤ 2147483648
  uniq : ∀ i j p q, p ∈ t.L i → q ∈ t.L j → p.1 = q.1 → i = j ∧ p = q
  dup : ∀ i, ((t.L i).map (·.1)).Nodup
def zero (n : Nat) : Ds := ⟨n, fun _ => []⟩
/-- The row of that number. -/
def rowI (t : Ds) (l : Int) : List (Int × Int) := if 0 ≤ l then t.L l.toNat else []
/-- The row of a number, and its weight. -/
def find (t : Ds) (id : Int) : Option (Nat × Int) := (List.range t.n).findSome? fun i => ((t.L i).find? fun p => p.1 == id).map fun p => (i, p.2)
def has (t : Ds) (l : Int) : Bool := decide (0 ≤ l ∧ l < (t.n : Int))
def mayBe (id : Int) : Bool := decide (1 ≤ id ∧ id ≤ 65536)
def mayWeigh (w : Int) : Bool := decide (0 ≤ w ∧ w ≤ 2147483648)
def pushE (t : Ds) (l id w : Int) : Int := if t.has l && mayBe id && mayWeigh w then (if (t.find id).isSome then 5 else 0) else 1
def pushI (t : Ds) (l id w : Int) : Ds := if t.pushE l id w = 0 then t.push l.toNat id w else t
def unlinkE (t : Ds) (id : Int) : Int := if (t.find id).isSome then 0 else 3
def unlinkI (t : Ds) (id : Int) : Ds := if (t.find id).isSome then t.unlink id else t
def moveE (t : Ds) (id l : Int) : Int := if (t.find id).isSome then (if t.has l then 0 else 1) else 3
def moveI (t : Ds) (id l : Int) : Ds := if t.moveE id l = 0 then (t.unlink id).push l.toNat id ((t.find id).getD (0, 0)).2 else t
def reweighE (t : Ds) (id w : Int) : Int := if (t.find id).isSome then (if mayWeigh w then 0 else 1) else 3
def reweighI (t : Ds) (id w : Int) : Ds := if t.reweighE id w = 0 then t.reweigh id w else t
def ofL (t : Ds) (id : Int) : Int := match t.find id with
  | some p => (p.1 : Int)
  | none => -1
def ofW (t : Ds) (id : Int) : Int := ((t.find id).getD (0, 0)).2
variable {t : Ds}
theorem Wf.lt (hw : t.Wf) {i : Nat} {p : Int × Int} (hp : p ∈ t.L i) : i < t.n := by
  apply Decidable.byContradiction; intro h
  rw [hw.past i (by omega)] at hp
  exact absurd hp List.not_mem_nil
theorem find_mem {id : Int} {i : Nat} {w : Int} (h : t.find id = some (i, w)) : (id, w) ∈ t.L i := by
  obtain ⟨j, _, hj⟩ := List.exists_of_findSome?_eq_some h
  obtain ⟨p, hp, he⟩ := Option.map_eq_some_iff.1 hj
  have h1 := List.mem_of_find?_eq_some hp
  have h2 := List.find?_some hp
  simp at h2 he
  obtain ⟨rfl, rfl⟩ := he
  rw [← h2]; exact h1
theorem Wf.find_of (hw : t.Wf) {id : Int} {i : Nat} {w : Int} (h : (id, w) ∈ t.L i) : t.find id = some (i, w) := by
  cases hf : t.find id with
  | none =>
    unfold find at hf
    rw [List.findSome?_eq_none_iff] at hf
    have := hf i (List.mem_range.2 (hw.lt h))
    rw [Option.map_eq_none_iff, List.find?_eq_none] at this
    exact absurd (by simp) (this (id, w) h)
  | some p =>
    obtain ⟨j, v⟩ := p
    obtain ⟨e1, e2⟩ := hw.uniq j i (id, v) (id, w) (find_mem hf) h rfl
    cases e2
    rw [e1]
theorem find_none {id : Int} (hf : t.find id = none) {i : Nat} {w : Int} (hi : i < t.n) : (id, w) ∉ t.L i := fun h => by
  unfold find at hf
  rw [List.findSome?_eq_none_iff] at hf
  have := hf i (List.mem_range.2 hi)
  rw [Option.map_eq_none_iff, List.find?_eq_none] at this
  exact absurd (by simp) (this (id, w) h)
end Ds

variable {w w' : World} {X : Nat} {F : Nat → Prop} {t : Ds} {g : Gh} {pr : Option Addr} {cr M : Nat} {m : Int → Option Nat}
theorem Gh.Wf.st (hw : g.Wf) : g.st.Wf := by
  have mem : ∀ {i : Nat} {p : Int × Int}, p ∈ g.st.L i → i < g.n ∧ ∃ b ∈ g.B i, ((g.E b).id, (g.E b).wt) = p := fun {i p} hp => by
    have hp : p ∈ (if i < g.n then g.row i else []) := hp
    split at hp
    · exact ⟨by assumption, List.mem_map.1 hp⟩
    · exact absurd hp List.not_mem_nil
  refine ⟨hw.cap, fun i hi => if_neg (by show ¬ i < g.n; have hi : g.n ≤ i := hi; omega), fun i p hp => ?_, fun i j p q hp hq h => ?_, fun i => ?_⟩
  · obtain ⟨hi, b, hb, rfl⟩ := mem hp
    have := hw.els i hi b hb
    exact ⟨this.1, this.2.1, this.2.2.1, this.2.2.2.1⟩
  · obtain ⟨hi, b, hb, rfl⟩ := mem hp
    obtain ⟨hj, c, hc, rfl⟩ := mem hq
    have e := hw.uniq i j b c hi hj hb hc h
    subst e
    exact ⟨hw.rowOf hi hj hb hc, rfl⟩
  · show ((if i < g.n then g.row i else []).map (·.1)).Nodup
    split
    · have hi : i < g.n := by assumption
      unfold Gh.row
      rw [List.map_map]
      exact List.pairwise_map.2 (List.Pairwise.imp_of_mem (fun {a b} ha hb hne e => hne (hw.uniq i i a b hi hi ha hb e)) (hw.dup i hi))
    · exact List.nodup_nil
theorem Gh.rowI_st (g : Gh) (l : Int) : g.rowI l = g.st.rowI l := by
  unfold Gh.rowI Ds.rowI
  by_cases h : 0 ≤ l
  · by_cases h' : l < (g.n : Int)
    · rw [if_pos ⟨h, h'⟩, if_pos h]; exact (if_pos (by omega)).symm
    · rw [if_neg (fun x => h' x.2), if_pos h]; exact (if_neg (by omega)).symm
  · rw [if_neg (fun x => h x.1), if_neg h]
theorem DqM.find_some (h : DqM w X pr cr M g m) {id : Int} {b : Nat} (hm : m id = some b) : ∃ i, i < g.n ∧ b ∈ g.B i ∧ (g.E b).id = id ∧ (g.E b).ls = (i : Int) ∧ g.st.find id = some (i, (g.E b).wt) := by
  obtain ⟨i, hi, hb, h1, h2⟩ := h.elem hm
  refine ⟨i, hi, hb, h1, h2, h.core.wf.st.find_of ?_⟩
  show (id, (g.E b).wt) ∈ (if i < g.n then g.row i else [])
  rw [if_pos hi, ← h1]
  exact List.mem_map.2 ⟨b, hb, rfl⟩
theorem DqM.find_no (h : DqM w X pr cr M g m) {id : Int} (hm : m id = none) : g.st.find id = none := by
  cases hf : g.st.find id with
  | none => rfl
  | some p =>
    obtain ⟨i, v⟩ := p
    have h1 := Ds.find_mem hf
    have h1 : (id, v) ∈ (if i < g.n then g.row i else []) := h1
    split at h1
    · obtain ⟨b, hb, e⟩ := List.mem_map.1 h1
      have := (h.mp id b).2 ⟨i, by assumption, hb, congrArg Prod.fst e⟩
      rw [hm] at this; cases this
    · exact absurd h1 List.not_mem_nil

/-- Lists at block X with those rows, their blocks F. -/
def Dq (w : World) (X : Nat) (F : Nat → Prop) (t : Ds) : Prop := ∃ pr cr M g m, DqM w X pr cr M g m ∧ g.st = t ∧ F = dfoot X pr M g
namespace Dq
theorem wf (h : Dq w X F t) : t.Wf := by
  obtain ⟨pr, cr, M, g, m, h, rfl, rfl⟩ := h
  exact h.core.wf.st
theorem lt (h : Dq w X F t) {k : Nat} (hk : F k) : k < w.heap.size := by
  obtain ⟨pr, cr, M, g, m, h, rfl, rfl⟩ := h
  exact h.foot_lt hk
theorem out {G : Nat → Prop} (h : Dq w X F t) (o : Out G w w') (hF : ∀ k, F k → ¬ G k) : Dq w' X F t := by
  obtain ⟨pr, cr, M, g, m, h, rfl, rfl⟩ := h
  exact ⟨pr, cr, M, g, m, h.out o hF, rfl, rfl⟩
theorem keep (h : Dq w X F t) (hk : ∀ k, F k → w'.heap[k]? = w.heap[k]?) : Dq w' X F t := by
  obtain ⟨pr, cr, M, g, m, h, rfl, rfl⟩ := h
  exact ⟨pr, cr, M, g, m, h.keep hk, rfl, rfl⟩
theorem grown (h : Dq w X F t) (g : Grown w w') : Dq w' X F t := h.keep fun _ hk => grown_block g (h.lt hk)
theorem drewN (h : Dq w X F t) (n : Nat) : Dq (w.drewN n) X F t := h.keep fun _ _ => rfl
end Dq

theorem new_a (lists : Int) (w : World) : Calls Try.prog 18 #[.int .i64 lists] w fun e w' => ∃ X F, e = .returned (ptr X) ∧ Dq w' X F (Ds.zero (rowsI lists)) ∧ Grown w w' ∧ ∀ k, F k → w.heap.size ≤ k := by
  refine (new_m lists w).mono ?_
  rintro e w' ⟨X, pr, cr, M, g, rfl, h, hn, hg, hf⟩
  refine ⟨X, _, rfl, ⟨pr, cr, M, g, _, h, Gh.st_ext hn fun i => ?_, rfl⟩, hg, hf⟩
  show (if i < g.n then g.row i else []) = []
  split
  · have hi : i < g.n := by assumption
    unfold Gh.row
    cases hB : g.B i with
    | nil => rfl
    | cons b r =>
      have := (h.mp (g.E b).id b).2 ⟨i, hi, by rw [hB]; simp, rfl⟩
      cases this
  · rfl
theorem front_a (h : Dq w X F t) (l : Int) : Calls Try.prog 72 #[ptr X, .int .i64 l] w fun e w' => e = .returned (.int .i64 (((t.rowI l).map (·.1)).headD 0)) ∧ Grown w w' := by
  obtain ⟨pr, cr, M, g, m, h, rfl, rfl⟩ := h
  rw [← Gh.rowI_st]; exact front_m h l
theorem back_a (h : Dq w X F t) (l : Int) : Calls Try.prog 73 #[ptr X, .int .i64 l] w fun e w' => e = .returned (.int .i64 (((t.rowI l).map (·.1)).getLastD 0)) ∧ Grown w w' := by
  obtain ⟨pr, cr, M, g, m, h, rfl, rfl⟩ := h
  rw [← Gh.rowI_st]; exact back_m h l
theorem weight_a (h : Dq w X F t) (l : Int) : Calls Try.prog 29 #[ptr X, .int .i64 l] w fun e w' => e = .returned (.int .i64 (sumD ((t.rowI l).map (·.2)))) ∧ Grown w w' := by
  obtain ⟨pr, cr, M, g, m, h, rfl, rfl⟩ := h
  rw [← Gh.rowI_st]; exact weight_m h l
theorem of_a (h : Dq w X F t) {id : Int} (hid : (Lit.int .i64 id).wf = true) : Calls Try.prog 47 #[ptr X, .int .i64 id] w fun e w' => e = .returned (.tuple #[.int .i64 (t.ofL id), .int .i64 (t.ofW id)]) ∧ ∃ d, w' = w.drewN d := by
  obtain ⟨pr, cr, M, g, m, h, rfl, rfl⟩ := h
  unfold Ds.ofL Ds.ofW
  cases hm : m id with
  | none => rw [h.find_no hm]; exact of_no h hid hm
  | some b =>
    obtain ⟨i, hi, hb, h1, h2, h3⟩ := h.find_some hm
    rw [h3]
    have := of_yes h hid hm
    rw [h2] at this
    exact this
theorem step_same {w w' : World} {F : Nat → Prop} (hw : w' = w) : Step F F w w' := by subst hw; exact Step.grown _ (Grown.refl _)
theorem push_a (h : Dq w X F t) (l id wt : Int) : Calls Try.prog 45 #[ptr X, .int .i64 l, .int .i64 id, .int .i64 wt] w fun e w' => e = .returned (.int .i64 (t.pushE l id wt)) ∧ ∃ F', Dq w' X F' (t.pushI l id wt) ∧ Step F F' w w' := by
  obtain ⟨pr, cr, M, g, m, h, rfl, rfl⟩ := h
  unfold Ds.pushI
  by_cases hb : (0 ≤ l ∧ l < (g.n : Int)) ∧ (1 ≤ id ∧ id ≤ 65536) ∧ (0 ≤ wt ∧ wt ≤ 2147483648)
  · obtain ⟨q1, q2, q3⟩ := hb
    have e0 : (g.st.has l && Ds.mayBe id && Ds.mayWeigh wt) = true := by
      rw [Bool.and_eq_true, Bool.and_eq_true]
      exact ⟨⟨decide_eq_true q1, decide_eq_true q2⟩, decide_eq_true q3⟩
    cases hm : m id with
    | none =>
      have e1 : g.st.pushE l id wt = 0 := by unfold Ds.pushE; rw [e0, h.find_no hm]; rfl
      rw [e1, if_pos rfl]
      obtain ⟨i, rfl⟩ : ∃ i : Nat, l = i := ⟨l.toNat, by omega⟩
      have hf : ∀ j, j < g.n → w.heap.size ∉ g.h j :: g.B j := fun j hj hx => Nat.lt_irrefl _ (h.core.rfoot_lt ⟨j, hj, Or.inr hx⟩)
      refine (push_ok h i id wt (by omega) q2 q3 hm).mono ?_
      rintro e w' ⟨rfl, h1, h2⟩
      refine ⟨rfl, _, ⟨pr, cr, M, _, _, h1, Gh.st_add (by omega) hf, rfl⟩, h2, fun k hk => ?_⟩
      rcases hk with q | q | q | ⟨j, hj, q⟩
      · exact Or.inl (Or.inl q)
      · exact Or.inl (Or.inr (Or.inl q))
      · exact Or.inl (Or.inr (Or.inr (Or.inl q)))
      · rcases q with q | q
        · exact Or.inl (Or.inr (Or.inr (Or.inr ⟨j, hj, Or.inl q⟩)))
        · have q : k ∈ g.h j :: (if j = i then g.B j ++ [w.heap.size] else g.B j) := q
          by_cases hx : k = w.heap.size
          · exact Or.inr (by omega)
          · refine Or.inl (Or.inr (Or.inr (Or.inr ⟨j, hj, Or.inr ?_⟩)))
            split at q
            · simp at q ⊢
              rcases q with q | q | q
              · exact Or.inl q
              · exact Or.inr q
              · exact absurd q hx
            · exact q
    | some b =>
      obtain ⟨i, hi, hb, h1, h2, h3⟩ := h.find_some hm
      have e1 : g.st.pushE l id wt = 5 := by unfold Ds.pushE; rw [e0, h3]; rfl
      rw [e1, if_neg (by omega)]
      refine (push_twice h l id wt q1 q2 q3 hm).mono ?_
      rintro e w' ⟨rfl, hw'⟩
      exact ⟨rfl, _, ⟨pr, cr, M, g, m, by rw [hw']; exact h, rfl, rfl⟩, step_same hw'⟩
  · have e1 : g.st.pushE l id wt = 1 := by
      unfold Ds.pushE
      rw [if_neg]
      rw [Bool.and_eq_true, Bool.and_eq_true]
      exact fun ⟨⟨a, b⟩, c⟩ => hb ⟨of_decide_eq_true a, of_decide_eq_true b, of_decide_eq_true c⟩
    rw [e1, if_neg (by omega)]
    refine (push_arg h l id wt hb).mono ?_
    rintro e w' ⟨rfl, hw'⟩
    exact ⟨rfl, _, ⟨pr, cr, M, g, m, by rw [hw']; exact h, rfl, rfl⟩, step_same hw'⟩
theorem cut_foot {i b : Nat} {k : Nat} (hk : dfoot X pr M (g.cut i b) k) : dfoot X pr M g k := by
  rcases hk with q | q | q | ⟨j, hj, q⟩
  · exact Or.inl q
  · exact Or.inr (Or.inl q)
  · exact Or.inr (Or.inr (Or.inl q))
  · refine Or.inr (Or.inr (Or.inr ⟨j, hj, q.imp_right fun q => ?_⟩))
    rcases List.mem_cons.1 q with q | q
    · rw [q]; exact List.mem_cons_self ..
    · exact List.mem_cons_of_mem _ (Gh.mem_cut q)
theorem unlink_a (h : Dq w X F t) {id : Int} (hid : (Lit.int .i64 id).wf = true) : Calls Try.prog 50 #[ptr X, .int .i64 id] w fun e w' => e = .returned (.int .i64 (t.unlinkE id)) ∧ ∃ F', Dq w' X F' (t.unlinkI id) ∧ Step F F' w w' := by
  obtain ⟨pr, cr, M, g, m, h, rfl, rfl⟩ := h
  unfold Ds.unlinkI Ds.unlinkE
  cases hm : m id with
  | none =>
    rw [h.find_no hm]
    refine (unlink_no h hid hm).mono ?_
    rintro e w' ⟨rfl, hw'⟩
    exact ⟨rfl, _, ⟨pr, cr, M, g, m, by rw [hw']; exact h, rfl, rfl⟩, step_same hw'⟩
  | some b =>
    obtain ⟨i, hi, hb, h1, h2, h3⟩ := h.find_some hm
    rw [h3]
    refine (unlink_ok h hid hm hi hb).mono ?_
    rintro e w' ⟨rfl, k1, k2⟩
    exact ⟨rfl, _, ⟨pr, cr, M, _, _, k1, by rw [Gh.st_cut h.core.wf hi hb, h1]; rfl, rfl⟩, k2, fun k hk => Or.inl (cut_foot hk)⟩
theorem move_a (h : Dq w X F t) {id : Int} (l : Int) (hid : (Lit.int .i64 id).wf = true) : Calls Try.prog 48 #[ptr X, .int .i64 id, .int .i64 l] w fun e w' => e = .returned (.int .i64 (t.moveE id l)) ∧ ∃ F', Dq w' X F' (t.moveI id l) ∧ Step F F' w w' := by
  obtain ⟨pr, cr, M, g, m, h, rfl, rfl⟩ := h
  unfold Ds.moveI
  cases hm : m id with
  | none =>
    have e1 : g.st.moveE id l = 3 := by unfold Ds.moveE; rw [h.find_no hm]; rfl
    rw [e1, if_neg (by omega)]
    refine (move_no h l hid hm).mono ?_
    rintro e w' ⟨rfl, hw'⟩
    exact ⟨rfl, _, ⟨pr, cr, M, g, m, by rw [hw']; exact h, rfl, rfl⟩, step_same hw'⟩
  | some b =>
    obtain ⟨i, hi, hb, h1, h2, h3⟩ := h.find_some hm
    by_cases q1 : 0 ≤ l ∧ l < (g.n : Int)
    · have e0 : g.st.has l = true := decide_eq_true q1
      have e1 : g.st.moveE id l = 0 := by unfold Ds.moveE; rw [h3, e0]; rfl
      rw [e1, if_pos rfl, h3]
      obtain ⟨j, rfl⟩ : ∃ j : Nat, l = j := ⟨l.toNat, by omega⟩
      refine (move_ok h hid hm hi hb (by omega)).mono ?_
      rintro e w' ⟨rfl, k1, k2⟩
      have hw := h.core.wf
      have hf : ∀ x, x < (g.cut i b).n → b ∉ (g.cut i b).h x :: (g.cut i b).B x := fun x hx q => by
        rcases List.mem_cons.1 q with q | q
        · exact hw.notHead hi hx hb q
        · exact ((Gh.mem_cut_iff hw hi hb hx).1 q).2 rfl
      refine ⟨rfl, _, ⟨pr, cr, M, _, _, k1, ?_, rfl⟩, k2, fun k hk => Or.inl ?_⟩
      · rw [Gh.st_add (show j < (g.cut i b).n by show j < g.n; omega) hf, Gh.st_cut hw hi hb, h1]; rfl
      · rcases hk with q | q | q | ⟨x, hx, q⟩
        · exact Or.inl q
        · exact Or.inr (Or.inl q)
        · exact Or.inr (Or.inr (Or.inl q))
        · refine Or.inr (Or.inr (Or.inr ?_))
          rcases q with q | q
          · exact ⟨x, hx, Or.inl q⟩
          · have q : k ∈ g.h x :: (if x = j then (g.cut i b).B x ++ [b] else (g.cut i b).B x) := q
            by_cases hkb : k = b
            · exact ⟨i, hi, Or.inr (by rw [hkb]; exact List.mem_cons_of_mem _ hb)⟩
            · refine ⟨x, hx, Or.inr ?_⟩
              rcases List.mem_cons.1 q with q | q
              · rw [q]; exact List.mem_cons_self ..
              · refine List.mem_cons_of_mem _ (Gh.mem_cut (i := i) (e := b) ?_)
                split at q
                · rcases List.mem_append.1 q with q | q
                  · exact q
                  · simp at q; exact absurd q hkb
                · exact q
    · have e0 : g.st.has l = false := decide_eq_false q1
      have e1 : g.st.moveE id l = 1 := by unfold Ds.moveE; rw [h3, e0]; rfl
      rw [e1, if_neg (by omega)]
      refine (move_arg h l hid hm q1).mono ?_
      rintro e w' ⟨rfl, hw'⟩
      exact ⟨rfl, _, ⟨pr, cr, M, g, m, by rw [hw']; exact h, rfl, rfl⟩, step_same hw'⟩
theorem reweigh_a (h : Dq w X F t) {id : Int} (wt : Int) (hid : (Lit.int .i64 id).wf = true) : Calls Try.prog 23 #[ptr X, .int .i64 id, .int .i64 wt] w fun e w' => e = .returned (.int .i64 (t.reweighE id wt)) ∧ ∃ F', Dq w' X F' (t.reweighI id wt) ∧ Step F F' w w' := by
  obtain ⟨pr, cr, M, g, m, h, rfl, rfl⟩ := h
  unfold Ds.reweighI
  cases hm : m id with
  | none =>
    have e1 : g.st.reweighE id wt = 3 := by unfold Ds.reweighE; rw [h.find_no hm]; rfl
    rw [e1, if_neg (by omega)]
    refine (reweigh_no h wt hid hm).mono ?_
    rintro e w' ⟨rfl, hw'⟩
    exact ⟨rfl, _, ⟨pr, cr, M, g, m, by rw [hw']; exact h, rfl, rfl⟩, step_same hw'⟩
  | some b =>
    obtain ⟨i, hi, hb, h1, h2, h3⟩ := h.find_some hm
    by_cases q1 : 0 ≤ wt ∧ wt ≤ 2147483648
    · have e1 : g.st.reweighE id wt = 0 := by unfold Ds.reweighE; rw [h3, show Ds.mayWeigh wt = true from decide_eq_true q1]; rfl
      rw [e1, if_pos rfl]
      refine (reweigh_ok h hid hm hi hb q1).mono ?_
      rintro e w' ⟨rfl, k1, k2⟩
      exact ⟨rfl, _, ⟨pr, cr, M, _, _, k1, by rw [Gh.st_weigh h.core.wf hi hb, h1], rfl⟩, k2, fun k hk => Or.inl hk⟩
    · have e1 : g.st.reweighE id wt = 1 := by unfold Ds.reweighE; rw [h3, show Ds.mayWeigh wt = false from decide_eq_false q1]; rfl
      rw [e1, if_neg (by omega)]
      refine (reweigh_arg h wt hid hm q1).mono ?_
      rintro e w' ⟨rfl, hw'⟩
      exact ⟨rfl, _, ⟨pr, cr, M, g, m, by rw [hw']; exact h, rfl, rfl⟩, step_same hw'⟩
end Go.Proofs.Ytlmcopenbeammaa

/-
  The small case; lists and a slice of numbers beside them, all in new memory: what each call leaves of both. No condition but those told at each sentence.
-/
namespace Go.Proofs.Ytlmcopenbeammaa
open Go.RowKit Go.Deep

theorem infoIntD : (Try.prog.info? 3).map (fun i => (i.zero, i.size, i.bytes)) = some (some (.int .i64 0), 1, 8) := by kernel_rfl
/-! ### The small case -/
def s1 : Ds := (Ds.zero 2).pushI 0 5 3
def s2 : Ds := s1.pushI 0 6 4
def s3 : Ds := s2.pushI 1 5 1
def s4 : Ds := s3.moveI 5 0
theorem wfLit {id : Int} (h1 : -9223372036854775808 ≤ id) (h2 : id ≤ 9223372036854775807) : (Lit.int .i64 id).wf = true := by
  simp only [Lit.wf, Bool.and_eq_true, decide_eq_true_eq]
  exact ⟨h1, h2⟩
/-- Lists, and a slice of numbers apart from them, both made since W; of what W held nothing has turned. -/
def Dqi (W w : World) (X : Nat) (t : Ds) (p : Option Addr) (n c : Nat) (f : Nat → Value) : Prop :=
  ∃ F, Dq w X F t ∧ Vec w 3 1 p n c f ∧ (∀ k, In p k → ¬ F k) ∧ Grown W w ∧ (∀ k, F k → W.heap.size ≤ k) ∧ (∀ k, In p k → W.heap.size ≤ k)
variable {W w w' : World} {X : Nat} {t t' : Ds} {p : Option Addr} {n c : Nat} {f : Nat → Value}
namespace Dqi
theorem wf (h : Dqi W w X t p n c f) : t.Wf := by obtain ⟨F, h, _⟩ := h; exact h.wf
theorem old (h : Dqi W w X t p n c f) : Grown W w := by obtain ⟨F, _, _, _, h, _⟩ := h; exact h
theorem vec (h : Dqi W w X t p n c f) : Vec w 3 1 p n c f := by obtain ⟨F, _, h, _⟩ := h; exact h
theorem grown (h : Dqi W w X t p n c f) (g : Grown w w') : Dqi W w' X t p n c f := by
  obtain ⟨F, h1, h2, h3, h4, h5, h6⟩ := h
  exact ⟨F, h1.grown g, h2.grown g, h3, grownTrans h4 g, h5, h6⟩
theorem drewN (h : Dqi W w X t p n c f) (d : Nat) : Dqi W (w.drewN d) X t p n c f := h.grown (grownDrewN (Grown.refl _) d)
theorem step (h : Dqi W w X t p n c f) (hs : ∀ F, Dq w X F t → ∃ F', Dq w' X F' t' ∧ Step F F' w w') : Dqi W w' X t' p n c f := by
  obtain ⟨F, h1, h2, h3, h4, h5, h6⟩ := h
  obtain ⟨F', h7, h8⟩ := hs F h1
  exact ⟨F', h7, h2.out h8.out h3, h8.apart (fun k hk => h2.lt hk) h3, (h8.keeps h4 h5).1, (h8.keeps h4 h5).2, h6⟩
/-- Another slice in the place of the one. -/
theorem vecs {p' : Option Addr} {n' c' : Nat} {f' : Nat → Value} (h : Dqi W w X t p n c f) (hv : Vec w' 3 1 p' n' c' f') (o : Out (In p) w w') (hp : p' = p ∨ ∃ k, p' = some ⟨k, 0, none⟩ ∧ w.heap.size ≤ k) : Dqi W w' X t p' n' c' f' := by
  obtain ⟨F, h1, h2, h3, h4, h5, h6⟩ := h
  refine ⟨F, h1.out o (fun k hk hi => h3 k hi hk), hv, fun k hk hf => ?_, o.grown h4 h6, h5, fun k hk => ?_⟩
  · rcases hp with rfl | ⟨k', rfl, hk'⟩
    · exact h3 k hk hf
    · have := hk.eq; have := h1.lt hf; omega
  · rcases hp with rfl | ⟨k', rfl, hk'⟩
    · exact h6 k hk
    · have := hk.eq; have := h4.2.2; omega
theorem congr {g : Nat → Value} (h : Dqi W w X t p n c f) (hg : ∀ j, j < n → f j = g j) : Dqi W w X t p n c g := by
  obtain ⟨F, h1, h2, h3⟩ := h
  exact ⟨F, h1, h2.congr (fun j hj => hg j (by omega)), h3⟩
/-- append. -/
theorem append {w2 : World} {tmp : Array Value} {y : TypeId} {p' : Option Addr} {n' c' : Nat} {f' : Nat → Value} (h : Dqi W w X t p n c f) (hv : Vec w2 3 1 p' n' c' f') (o : Out (In p) (w.alloc (.cells tmp y)) w2) (hp : p' = p ∨ p' = some ⟨(w.alloc (.cells tmp y)).heap.size, 0, none⟩) : Dqi W w2 X t p' n' c' f' :=
  (h.grown ((Grown.refl _).alloc tmp y)).vecs hv o (hp.imp_right fun e => ⟨_, e, Nat.le_refl _⟩)
/-- The slice's own block. -/
theorem nth (h : Dqi W w X t p n c f) (hn : 0 < n) : ∃ B, p = some ⟨B, 0, none⟩ ∧ B < w.heap.size ∧ (∀ j, j < n → w.cell? ⟨B, j, none⟩ = some (f j)) ∧ n ≤ c := by
  obtain ⟨B, h1, h2, h3, _, h4⟩ := h.vec.opens hn
  exact ⟨B, h1, h2, fun j hj => h3 j (by omega), h4⟩
end Dqi
theorem new_i (lists : Int) (W w : World) (g : Grown W w) : Calls Try.prog 18 #[.int .i64 lists] w fun e w' => ∃ X, e = .returned (ptr X) ∧ Dqi W w' X (Ds.zero (rowsI lists)) none 0 0 (fun _ => .int .i64 0) := by
  refine (new_a lists w).mono ?_
  rintro e w' ⟨X, F, rfl, h, g', b⟩
  exact ⟨X, rfl, F, h, Vec.nil _ _ _ _, fun k hk => absurd hk In.no, grownTrans g g', fun k hk => Nat.le_trans g.2.2 (b k hk), fun k hk => absurd hk In.no⟩
theorem lift_g {P : Program} {fn : FuncId} {args : Array Value} {v : Value} (h : Dqi W w X t p n c f) (hc : ∀ F, Dq w X F t → Calls P fn args w fun e w' => e = .returned v ∧ Grown w w') : Calls P fn args w fun e w' => e = .returned v ∧ Dqi W w' X t p n c f := by
  have h' := h
  obtain ⟨F, h, _⟩ := h
  exact (hc F h).mono fun e w' ⟨a, b⟩ => ⟨a, h'.grown b⟩
theorem lift_s {P : Program} {fn : FuncId} {args : Array Value} {v : Value} (h : Dqi W w X t p n c f) (hc : ∀ F, Dq w X F t → Calls P fn args w fun e w' => e = .returned v ∧ ∃ F', Dq w' X F' t' ∧ Step F F' w w') : Calls P fn args w fun e w' => e = .returned v ∧ Dqi W w' X t' p n c f := by
  obtain ⟨F, h1, h2, h3, h4, h5, h6⟩ := h
  refine (hc F h1).mono ?_
  rintro e w' ⟨rfl, F', h7, h8⟩
  exact ⟨rfl, F', h7, h2.out h8.out h3, h8.apart (fun k hk => h2.lt hk) h3, (h8.keeps h4 h5).1, (h8.keeps h4 h5).2, h6⟩
theorem front_i (h : Dqi W w X t p n c f) (l : Int) : Calls Try.prog 72 #[ptr X, .int .i64 l] w fun e w' => e = .returned (.int .i64 (((t.rowI l).map (·.1)).headD 0)) ∧ Dqi W w' X t p n c f := lift_g h fun _ h => front_a h l
theorem back_i (h : Dqi W w X t p n c f) (l : Int) : Calls Try.prog 73 #[ptr X, .int .i64 l] w fun e w' => e = .returned (.int .i64 (((t.rowI l).map (·.1)).getLastD 0)) ∧ Dqi W w' X t p n c f := lift_g h fun _ h => back_a h l
theorem weight_i (h : Dqi W w X t p n c f) (l : Int) : Calls Try.prog 29 #[ptr X, .int .i64 l] w fun e w' => e = .returned (.int .i64 (sumD ((t.rowI l).map (·.2)))) ∧ Dqi W w' X t p n c f := lift_g h fun _ h => weight_a h l
theorem of_i (h : Dqi W w X t p n c f) {id : Int} (hid : (Lit.int .i64 id).wf = true) : Calls Try.prog 47 #[ptr X, .int .i64 id] w fun e w' => e = .returned (.tuple #[.int .i64 (t.ofL id), .int .i64 (t.ofW id)]) ∧ Dqi W w' X t p n c f :=
  lift_g h fun _ h => (of_a h hid).mono fun _ _ ⟨a, d, b⟩ => ⟨a, by rw [b]; exact grownDrewN (Grown.refl _) d⟩
theorem push_i (h : Dqi W w X t p n c f) (l id wt : Int) : Calls Try.prog 45 #[ptr X, .int .i64 l, .int .i64 id, .int .i64 wt] w fun e w' => e = .returned (.int .i64 (t.pushE l id wt)) ∧ Dqi W w' X (t.pushI l id wt) p n c f := lift_s h fun _ h => push_a h l id wt
theorem unlink_i (h : Dqi W w X t p n c f) {id : Int} (hid : (Lit.int .i64 id).wf = true) : Calls Try.prog 50 #[ptr X, .int .i64 id] w fun e w' => e = .returned (.int .i64 (t.unlinkE id)) ∧ Dqi W w' X (t.unlinkI id) p n c f := lift_s h fun _ h => unlink_a h hid
theorem move_i (h : Dqi W w X t p n c f) {id : Int} (l : Int) (hid : (Lit.int .i64 id).wf = true) : Calls Try.prog 48 #[ptr X, .int .i64 id, .int .i64 l] w fun e w' => e = .returned (.int .i64 (t.moveE id l)) ∧ Dqi W w' X (t.moveI id l) p n c f := lift_s h fun _ h => move_a h l hid
theorem reweigh_i (h : Dqi W w X t p n c f) {id : Int} (wt : Int) (hid : (Lit.int .i64 id).wf = true) : Calls Try.prog 23 #[ptr X, .int .i64 id, .int .i64 wt] w fun e w' => e = .returned (.int .i64 (t.reweighE id wt)) ∧ Dqi W w' X (t.reweighI id wt) p n c f := lift_s h fun _ h => reweigh_a h wt hid
end Go.Proofs.Ytlmcopenbeammaa

/-
  What rows are behind a push, an unlink, a move: without memory. No condition but those told at each sentence.
-/
namespace Go.Proofs.Ytlmcopenbeammaa
open Go.RowKit Go.Deep

theorem wrap_natD (q : Nat) (h : q ≤ 1000000) : IntKind.i64.wrap (q : Int) = q := by
  simp [IntKind.wrap, IntKind.signed, IntKind.bits]; omega
/-- The numbers of a row, as cells. -/
def idsC (l : List (Int × Int)) (j : Nat) : Value := .int .i64 ((l.map (·.1)).getD j 0)
theorem idsC_append (l : List (Int × Int)) (p : Int × Int) (j : Nat) (hj : j < l.length + 1) : (if j < l.length then idsC l j else .int .i64 p.1) = idsC (l ++ [p]) j := by
  unfold idsC
  rw [List.map_append]
  by_cases h : j < l.length
  · rw [if_pos h, List.getD_eq_getElem?_getD, List.getD_eq_getElem?_getD, List.getElem?_append_left (by simpa using h)]
  · have e : j = l.length := by omega
    rw [if_neg h, List.getD_eq_getElem?_getD, List.getElem?_append_right (by simp; omega)]
    simp [e]
theorem idsC_at {l : List (Int × Int)} {k : Nat} {p : Int × Int} {r : List (Int × Int)} (h : l.drop k = p :: r) : idsC l k = .int .i64 p.1 := by
  have h1 : l[k]? = some p := by
    have := congrArg List.head? h
    simpa using this
  unfold idsC
  rw [List.getD_eq_getElem?_getD, List.getElem?_map, h1]
  rfl
namespace Ds
variable {t : Ds}
theorem pushE_zero {l id w : Int} (h : t.pushE l id w = 0) : (0 ≤ l ∧ l < (t.n : Int)) ∧ (1 ≤ id ∧ id ≤ 65536) ∧ (0 ≤ w ∧ w ≤ 2147483648) ∧ t.find id = none := by
  unfold pushE at h
  split at h
  · split at h
    · exact absurd h (by omega)
    · have hb : (t.has l && mayBe id && mayWeigh w) = true := by assumption
      rw [Bool.and_eq_true, Bool.and_eq_true] at hb
      obtain ⟨⟨a, b⟩, c⟩ := hb
      have a := of_decide_eq_true a
      have b := of_decide_eq_true b
      have c := of_decide_eq_true c
      refine ⟨a, b, c, ?_⟩
      cases hf : t.find id with
      | none => rfl
      | some p => exact absurd (by rw [hf]; rfl) (by assumption : ¬ (t.find id).isSome = true)
  · exact absurd h (by omega)
theorem pushI_zero {l id w : Int} (h : t.pushE l id w = 0) : t.pushI l id w = t.push l.toNat id w := if_pos h
theorem pushI_not {l id w : Int} (h : t.pushE l id w ≠ 0) : t.pushI l id w = t := if_neg h
theorem filter_head {id w : Int} {r : List (Int × Int)} (hd : (((id, w) :: r).map (·.1)).Nodup) : (((id, w) :: r).filter fun p => !(p.1 == id)) = r := by
  rw [List.filter_cons]
  simp only [BEq.rfl, Bool.not_true, Bool.false_eq_true, if_false]
  refine List.filter_eq_self.2 fun p hp => ?_
  simp
  intro e
  exact (List.nodup_cons.1 hd).1 (by rw [← e]; exact List.mem_map.2 ⟨p, hp, rfl⟩)
/-- Who unlinks the first leaves the rest. -/
theorem Wf.unlink_head (hw : t.Wf) {i : Nat} {id w : Int} {r : List (Int × Int)} (h : t.L i = (id, w) :: r) : t.unlinkE id = 0 ∧ (t.unlinkI id).L i = r ∧ (t.unlinkI id).n = t.n := by
  have hf := hw.find_of (show (id, w) ∈ t.L i by rw [h]; simp)
  have e1 : (t.find id).isSome = true := by rw [hf]; rfl
  have e2 : t.unlinkI id = t.unlink id := by unfold unlinkI; rw [if_pos e1]
  refine ⟨by unfold unlinkE; rw [if_pos e1], ?_, by rw [e2]; rfl⟩
  rw [e2]
  show (t.L i).filter _ = r
  rw [h]
  have := hw.dup i
  rw [h] at this
  exact filter_head this
end Ds
end Go.Proofs.Ytlmcopenbeammaa

/-
  What all rows weigh together, and how many they hold, behind a push and a move: without memory. No condition but those told at each sentence.
-/
namespace Go.Proofs.Ytlmcopenbeammaa
open Go.RowKit Go.Deep

theorem filter_out {id w : Int} : ∀ {l : List (Int × Int)}, (l.map (·.1)).Nodup → (id, w) ∈ l → sumD ((l.filter fun p => !(p.1 == id)).map (·.2)) + w = sumD (l.map (·.2)) ∧ (l.filter fun p => !(p.1 == id)).length + 1 = l.length
  | [], _, h => absurd h List.not_mem_nil
  | (x, v) :: r, hd, h => by
    obtain ⟨h1, h2⟩ := List.nodup_cons.1 hd
    by_cases hx : x = id
    · subst hx
      have hv : v = w := by
        rcases List.mem_cons.1 h with q | q
        · cases q; rfl
        · exact absurd (List.mem_map.2 ⟨(x, w), q, rfl⟩) h1
      subst hv
      rw [Ds.filter_head hd]
      simp [sumD]; omega
    · have hm : (id, w) ∈ r := by
        rcases List.mem_cons.1 h with q | q
        · cases q; exact absurd rfl hx
        · exact q
      obtain ⟨i1, i2⟩ := filter_out h2 hm
      have hb : (x == id) = false := by simpa using hx
      rw [List.filter_cons]
      simp only [hb, Bool.not_false, if_true, List.map_cons, sumD, List.length_cons]
      omega
theorem filter_not {id : Int} {l : List (Int × Int)} (h : ∀ w, (id, w) ∉ l) : (l.filter fun p => !(p.1 == id)) = l := by
  refine List.filter_eq_self.2 fun p hp => ?_
  simp
  intro e
  exact h p.2 (by rw [← e]; exact hp)
namespace Ds
variable {t : Ds}
/-- What the first k rows weigh; how many they hold. -/
def tot (t : Ds) : Nat → Int
  | 0 => 0
  | k + 1 => t.tot k + sumD ((t.L k).map (·.2))
def cnt (t : Ds) : Nat → Nat
  | 0 => 0
  | k + 1 => t.cnt k + (t.L k).length
theorem tot_succ (t : Ds) (k : Nat) : t.tot (k + 1) = t.tot k + sumD ((t.L k).map (·.2)) := rfl
theorem cnt_succ (t : Ds) (k : Nat) : t.cnt (k + 1) = t.cnt k + (t.L k).length := rfl
theorem push_row (t : Ds) (l : Nat) (id w : Int) (i : Nat) : (t.push l id w).L i = if i = l then t.L i ++ [(id, w)] else t.L i := rfl
theorem unlink_row (t : Ds) (id : Int) (i : Nat) : (t.unlink id).L i = (t.L i).filter fun p => !(p.1 == id) := rfl
theorem tot_push (t : Ds) (l : Nat) (id w : Int) : ∀ k, (t.push l id w).tot k = (if l < k then t.tot k + w else t.tot k) ∧ (t.push l id w).cnt k = if l < k then t.cnt k + 1 else t.cnt k
  | 0 => by simp [tot, cnt]
  | k + 1 => by
    obtain ⟨h1, h2⟩ := tot_push t l id w k
    rw [tot_succ, cnt_succ, tot_succ, cnt_succ, h1, h2, push_row]
    by_cases e : k = l
    · subst e
      simp only [if_pos, if_neg (Nat.lt_irrefl k), if_pos (Nat.lt_succ_self k), List.map_append, sumI_append, List.length_append]
      simp [sumD]; omega
    · rw [if_neg e]
      by_cases q : l < k
      · simp only [if_pos q, if_pos (show l < k + 1 by omega)]; omega
      · simp only [if_neg q, if_neg (show ¬ l < k + 1 by omega)]; simp
theorem tot_unlink (hw : t.Wf) {i : Nat} {id w : Int} (h : (id, w) ∈ t.L i) : ∀ k, ((t.unlink id).tot k + (if i < k then w else 0) = t.tot k) ∧ (t.unlink id).cnt k + (if i < k then 1 else 0) = t.cnt k
  | 0 => by simp [tot, cnt]
  | k + 1 => by
    obtain ⟨h1, h2⟩ := tot_unlink hw h k
    rw [tot_succ, cnt_succ, tot_succ, cnt_succ, unlink_row]
    by_cases e : k = i
    · subst e
      obtain ⟨f1, f2⟩ := filter_out (hw.dup k) h
      simp only [if_neg (Nat.lt_irrefl k), if_pos (Nat.lt_succ_self k)] at h1 h2 ⊢
      omega
    · have hn : ∀ v, (id, v) ∉ t.L k := fun v hv => e (hw.uniq k i (id, v) (id, w) hv h rfl).1
      rw [filter_not hn]
      by_cases q : i < k
      · simp only [if_pos q, if_pos (show i < k + 1 by omega)] at h1 h2 ⊢; omega
      · simp only [if_neg q, if_neg (show ¬ i < k + 1 by omega)] at h1 h2 ⊢; omega
theorem Wf.weight_pos (hw : t.Wf) (i : Nat) : 0 ≤ sumD ((t.L i).map (·.2)) := (sumI_bound (M := 2147483648) (by omega) _ (fun x hx => by
    obtain ⟨p, hp, rfl⟩ := List.mem_map.1 hx
    have := hw.els i p hp
    exact ⟨this.2.2.1, this.2.2.2⟩)).1
theorem Wf.tot_le (hw : t.Wf) {k n : Nat} (h : k ≤ n) : 0 ≤ t.tot k ∧ t.tot k ≤ t.tot n ∧ t.cnt k ≤ t.cnt n := by
  have base : ∀ k, 0 ≤ t.tot k := by
    intro k
    induction k with
    | zero => simp [tot]
    | succ k ih => rw [tot_succ]; have := hw.weight_pos k; omega
  refine ⟨base k, ?_⟩
  obtain ⟨d, rfl⟩ := Nat.le.dest h
  clear h
  induction d with
  | zero => simp
  | succ d ih =>
    have := hw.weight_pos (k + d)
    rw [show k + (d + 1) = k + d + 1 by omega, tot_succ, cnt_succ]
    omega
theorem moveE_zero {id l : Int} (h : t.moveE id l = 0) : ∃ i w, t.find id = some (i, w) ∧ 0 ≤ l ∧ l < (t.n : Int) := by
  unfold moveE at h
  split at h
  · split at h
    · have hs : (t.find id).isSome = true := by assumption
      have hl : t.has l = true := by assumption
      obtain ⟨⟨i, w⟩, hp⟩ := Option.isSome_iff_exists.1 hs
      have := of_decide_eq_true hl
      exact ⟨i, w, hp, this.1, this.2⟩
    · exact absurd h (by omega)
  · exact absurd h (by omega)
theorem moveI_zero {id l : Int} (h : t.moveE id l = 0) {i : Nat} {w : Int} (hf : t.find id = some (i, w)) : t.moveI id l = (t.unlink id).push l.toNat id w := by
  unfold moveI; rw [if_pos h, hf]; rfl
theorem moveI_not {id l : Int} (h : t.moveE id l ≠ 0) : t.moveI id l = t := if_neg h
/-- What is moved is the last of its new row, with the weight that it had; all rows weigh as much, and hold as many. -/
theorem Wf.moved (hw : t.Wf) {id l : Int} (h : t.moveE id l = 0) (hw' : (t.moveI id l).Wf) : (t.moveI id l).n = t.n ∧ (t.moveI id l).ofL id = l ∧ (t.moveI id l).ofW id = t.ofW id ∧ (((t.moveI id l).rowI l).map (·.1)).getLastD 0 = id ∧ (t.moveI id l).tot t.n = t.tot t.n ∧ (t.moveI id l).cnt t.n = t.cnt t.n := by
  obtain ⟨i, w, hf, h1, h2⟩ := moveE_zero h
  obtain ⟨j, rfl⟩ : ∃ j : Nat, l = j := ⟨l.toNat, by omega⟩
  have hm := find_mem hf
  have e := moveI_zero h hf
  have hj : (j : Int).toNat = j := by omega
  rw [hj] at e
  have hrow : (t.moveI id j).L j = (t.unlink id).L j ++ [(id, w)] := by rw [e, push_row, if_pos rfl]
  have hf' : (t.moveI id j).find id = some (j, w) := hw'.find_of (by rw [hrow]; simp)
  refine ⟨by rw [e]; rfl, by unfold ofL; rw [hf'], by unfold ofW; rw [hf', hf]; rfl, ?_, ?_, ?_⟩
  · unfold rowI
    rw [if_pos (by omega), hj, hrow, List.map_append, List.getLastD_eq_getLast?]
    simp
  · have a := (tot_push (t.unlink id) j id w t.n).1
    have b := (tot_unlink hw hm t.n).1
    rw [if_pos (by omega)] at a
    rw [if_pos (hw.lt hm)] at b
    rw [e, a, b]
  · have a := (tot_push (t.unlink id) j id w t.n).2
    have b := (tot_unlink hw hm t.n).2
    rw [if_pos (by omega)] at a
    rw [if_pos (hw.lt hm)] at b
    rw [e, a, b]
end Ds
end Go.Proofs.Ytlmcopenbeammaa
