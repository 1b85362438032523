/-
  Lists of package deque, the map with them: what has, row, Push, Unlink, Move, Reweigh, Of, Front, Back, Weight and Len do when they are called.
-/
import Derived.Test.YtlmcopenbeammaaGrDqA
namespace Go.Proofs.Ytlmcopenbeammaa
open Go.RowKit Go.Deep

def mapC (m : Int → Option Nat) (x : Int) : Value := match m x with
  | some b => ptr b
  | none => .pointer none
theorem mapC_some {m : Int → Option Nat} {x : Int} {b : Nat} (h : m x = some b) : mapC m x = ptr b := by unfold mapC; rw [h]
theorem mapC_none {m : Int → Option Nat} {x : Int} (h : m x = none) : mapC m x = .pointer none := by unfold mapC; rw [h]
/-- Lists at block X. -/
structure DqM (w : World) (X : Nat) (pr : Option Addr) (cr M : Nat) (g : Gh) (m : Int → Option Nat) : Prop where
  core : DqC w X pr cr M g
  map : MapV Try.prog 3 w M 1 65536 (.pointer none) (mapC m)
  mp : ∀ x b, m x = some b ↔ ∃ i, i < g.n ∧ b ∈ g.B i ∧ (g.E b).id = x
def dfoot (X : Nat) (pr : Option Addr) (M : Nat) (g : Gh) (k : Nat) : Prop := k = X ∨ In pr k ∨ k = M ∨ rfoot g k
variable {w w' : World} {X : Nat} {pr : Option Addr} {cr M : Nat} {g : Gh} {m : Int → Option Nat}
theorem zeroEl (w : World) : (zeroValue 85).run Try.prog w = .ok (.pointer none) w := by kernel_rfl
theorem DqC.mne (h : DqC w X pr cr M g) (hm : MapV Try.prog 3 w M 1 65536 (.pointer none) (mapC m)) : X ≠ M ∧ ¬ In pr M ∧ ¬ rfoot g M := by
  refine ⟨hm.apart h.head, fun hi => ?_, fun ⟨i, hi, hk⟩ => ?_⟩
  · rcases h.vec with ⟨rfl, _⟩ | ⟨B, cur, h1, h2, _⟩
    · exact In.no hi
    · rw [h1] at hi
      exact hm.apart h2 hi.eq.symm
  · rcases hk with hk | hk
    · exact hm.apart (h.rows i hi) hk.symm
    · exact hm.apart (h.els i hi M hk) rfl
namespace DqM
theorem foot_lt (h : DqM w X pr cr M g m) {k : Nat} (hk : dfoot X pr M g k) : k < w.heap.size := by
  rcases hk with rfl | hk | rfl | hk
  · exact h.core.lt
  · exact h.core.vec.lt hk
  · exact h.map.lt
  · exact h.core.rfoot_lt hk
theorem keep (h : DqM w X pr cr M g m) (hk : ∀ k, dfoot X pr M g k → w'.heap[k]? = w.heap[k]?) : DqM w' X pr cr M g m :=
  ⟨h.core.keep (hk X (Or.inl rfl)) (fun k hi => hk k (Or.inr (Or.inl hi))) (fun k hi => hk k (Or.inr (Or.inr (Or.inr hi)))), h.map.keep (hk M (Or.inr (Or.inr (Or.inl rfl)))), h.mp⟩
theorem out {F : Nat → Prop} (h : DqM w X pr cr M g m) (o : Out F w w') (hF : ∀ k, dfoot X pr M g k → ¬ F k) : DqM w' X pr cr M g m := h.keep fun k hk => o.block k (h.foot_lt hk) (hF k hk)
theorem grown (h : DqM w X pr cr M g m) (k : Grown w w') : DqM w' X pr cr M g m := h.keep fun _ hk => grown_block k (h.foot_lt hk)
theorem drewN (h : DqM w X pr cr M g m) (d : Nat) : DqM (w.drewN d) X pr cr M g m := h.keep fun _ _ => rfl
theorem cell0 (h : DqM w X pr cr M g m) : w.cell? ⟨X, 0, none⟩ = some (.slice pr g.n cr) := cell_of h.core.head rfl
theorem cell1 (h : DqM w X pr cr M g m) : w.cell? ⟨X, 1, none⟩ = some (.map (some M)) := cell_of h.core.head rfl
theorem nth (h : DqM w X pr cr M g m) {i : Nat} (hi : i < g.n) : ∃ B, pr = some ⟨B, 0, none⟩ ∧ B < w.heap.size ∧ w.cell? ⟨B, i, none⟩ = some (ptr (g.r i)) ∧ g.n ≤ cr := by
  obtain ⟨B, h1, h2, h3, _, h4⟩ := h.core.vec.opens (by omega)
  exact ⟨B, h1, h2, h3 i (by omega), h4⟩
/-- The element of a number. -/
theorem elem (h : DqM w X pr cr M g m) {id : Int} {b : Nat} (hb : m id = some b) : ∃ i, i < g.n ∧ b ∈ g.B i ∧ (g.E b).id = id ∧ (g.E b).ls = (i : Int) := by
  obtain ⟨i, hi, h1, h2⟩ := (h.mp id b).1 hb
  exact ⟨i, hi, h1, h2, (h.core.wf.els i hi b h1).2.2.2.2⟩
end DqM

theorem has_m (h : DqM w X pr cr M g m) (l : Int) :
    Calls Try.prog 68 #[ptr X, .int .i64 l] w fun e w' => e = .returned (.bool (decide (0 ≤ l ∧ l < (g.n : Int)))) ∧ w' = w := by
  have c0 := h.cell0
  have hn := h.core.wf.cap
  clear h
  unfold ptr
  have hc : l < 0 ∨ (0 ≤ l ∧ l < (g.n : Int)) ∨ (0 ≤ l ∧ (g.n : Int) ≤ l) := by omega
  generalize g.n = n at *
  rcases hc with h | ⟨h, h'⟩ | ⟨h, h'⟩
  all_goals
    go_enter Try.func68, Try.ntmps68
    go_wp2
    go_ret
    exact ⟨ret_b (by simp; try omega), rfl⟩

theorem row_in (h : DqM w X pr cr M g m) {i : Nat} (hi : i < g.n) :
    Calls Try.prog 54 #[ptr X, .int .i64 (i : Int)] w fun e w' => e = .returned (ptr (g.r i)) ∧ w' = w := by
  have hh := has_m h (i : Int)
  rw [show decide (0 ≤ (i : Int) ∧ (i : Int) < (g.n : Int)) = true by rw [decide_eq_true_eq]; omega] at hh
  have c0 := h.cell0
  have hn := h.core.wf.cap
  obtain ⟨B, rfl, hB, cB, hcr⟩ := h.nth hi
  clear h
  generalize g.n = n at *
  generalize g.r i = R at *
  unfold ptr at *
  go_enter Try.func54, Try.ntmps54
  go_wp2_with (first | (go_at_call 68; refine hh.mono ?_; rintro e w' ⟨rfl, rfl⟩))
  go_ret
  exact ⟨rfl, rfl⟩
theorem row_no (h : DqM w X pr cr M g m) {l : Int} (hl : ¬ (0 ≤ l ∧ l < (g.n : Int))) :
    Calls Try.prog 54 #[ptr X, .int .i64 l] w fun e w' => e = .returned (ptr (w.heap.size + 1)) ∧ ElOn w' w.heap.size ⟨0, 0, 0, w.heap.size, w.heap.size⟩ ∧ RwOn w' (w.heap.size + 1) w.heap.size 0 0 ∧ Grown w w' := by
  have hh := has_m h l
  rw [show decide (0 ≤ l ∧ l < (g.n : Int)) = false by rw [decide_eq_false_iff_not]; exact hl] at hh
  have nr := newRow_m w
  clear h
  unfold ptr at *
  go_enter Try.func54, Try.ntmps54
  go_wp2_with (first | (go_at_call 68; refine hh.mono ?_; rintro e w' ⟨rfl, rfl⟩) | (go_at_call 34; refine nr.mono ?_; rintro e w2 ⟨rfl, h1, h2, h3⟩))
  go_ret
  exact ⟨rfl, h1, h2, h3⟩

/-- A row that there is, or a new one: its head, what is at both ends, its weight and how many. -/
structure Ends (w : World) (R : Nat) (f b W L : Int) : Prop where
  ex : ∃ H x p n y z, RwOn w R H W L ∧ ElOn w H x ∧ x.pv = p ∧ x.nx = n ∧ ElOn w p y ∧ ElOn w n z ∧ z.id = f ∧ y.id = b
namespace Gh
def rowI (g : Gh) (l : Int) : List (Int × Int) := if 0 ≤ l ∧ l < (g.n : Int) then g.row l.toNat else []
end Gh
theorem row_ends (h : DqM w X pr cr M g m) (l : Int) :
    Calls Try.prog 54 #[ptr X, .int .i64 l] w fun e w' => ∃ R, e = .returned (ptr R) ∧ Ends w' R (((g.rowI l).map (·.1)).headD 0) (((g.rowI l).map (·.1)).getLastD 0) (sumD ((g.rowI l).map (·.2))) ((g.rowI l).length : Int) ∧ Grown w w' := by
  by_cases hl : 0 ≤ l ∧ l < (g.n : Int)
  · obtain ⟨i, rfl⟩ : ∃ i : Nat, l = i := ⟨l.toNat, by omega⟩
    have hi : i < g.n := by omega
    refine (row_in h hi).mono ?_
    rintro e w' ⟨rfl, rfl⟩
    have hw := h.core.wf
    have e0 : g.rowI (i : Int) = g.row i := by unfold Gh.rowI; rw [if_pos hl]; rfl
    rw [e0]
    refine ⟨_, rfl, ⟨g.h i, g.E (g.h i), _, _, g.E (g.E (g.h i)).pv, g.E (g.E (g.h i)).nx, ?_, h.core.els i hi _ (by simp), rfl, rfl, h.core.els i hi _ (hw.headPv hi), ?_, ?_, ?_⟩, Grown.refl _⟩
    · have := h.core.rows i hi
      rw [Gh.sum_row] at this
      rw [show ((g.row i).length : Int) = ((g.B i).length : Int) by unfold Gh.row; simp]
      exact this
    · refine h.core.els i hi _ ?_
      rw [hw.headNx hi]
      cases g.B i <;> simp
    · rw [hw.headNx hi]
      unfold Gh.row
      rw [List.map_map]
      cases hB : g.B i with
      | nil => exact hw.hd i hi
      | cons a r => rfl
    · rw [hw.headBk hi]
      unfold Gh.row
      rw [List.map_map]
      cases hB : g.B i with
      | nil => exact hw.hd i hi
      | cons a r =>
        rw [List.getLastD_eq_getLast?, List.getLastD_eq_getLast?, List.getLast?_map]
        cases hq : (a :: r).getLast? with
        | none => simp at hq
        | some z => rfl
  · refine (row_no h hl).mono ?_
    rintro e w' ⟨rfl, h1, h2, h3⟩
    have e0 : g.rowI l = [] := by unfold Gh.rowI; rw [if_neg hl]
    rw [e0]
    exact ⟨_, rfl, ⟨_, _, _, _, _, _, h2, h1, rfl, rfl, h1, h1, rfl, rfl⟩, h3⟩

theorem front_m (h : DqM w X pr cr M g m) (l : Int) :
    Calls Try.prog 72 #[ptr X, .int .i64 l] w fun e w' => e = .returned (.int .i64 (((g.rowI l).map (·.1)).headD 0)) ∧ Grown w w' := by
  have hr := row_ends h l
  generalize ((g.rowI l).map (·.1)).headD 0 = f at hr ⊢
  clear h
  unfold ptr at *
  go_enter Try.func72, Try.ntmps72
  go_wp2_with (first | (go_at_call 54; refine hr.mono ?_; rintro e w2 ⟨R, rfl, ⟨H, x, p, n, y, z, h1, h2, hp, hn, h3, h4, h5, h6⟩, hg⟩; have c1 : w2.cell? ⟨R, 0, none⟩ = some (.pointer (some ⟨H, 0, none⟩)) := cell_of h1 rfl; have c2 : w2.cell? ⟨H, 4, none⟩ = some (.pointer (some ⟨n, 0, none⟩)) := hn ▸ cell_of h2 rfl; have c3 : w2.cell? ⟨n, 0, none⟩ = some (.int .i64 z.id) := cell_of h4 rfl; have l1 := lt_of h1; have l2 := lt_of h2; have l4 := lt_of h4; clear hp hn; subst h5))
  go_ret
  exact ⟨rfl, hg⟩
theorem back_m (h : DqM w X pr cr M g m) (l : Int) :
    Calls Try.prog 73 #[ptr X, .int .i64 l] w fun e w' => e = .returned (.int .i64 (((g.rowI l).map (·.1)).getLastD 0)) ∧ Grown w w' := by
  have hr := row_ends h l
  generalize ((g.rowI l).map (·.1)).getLastD 0 = f at hr ⊢
  clear h
  unfold ptr at *
  go_enter Try.func73, Try.ntmps73
  go_wp2_with (first | (go_at_call 54; refine hr.mono ?_; rintro e w2 ⟨R, rfl, ⟨H, x, p, n, y, z, h1, h2, hp, hn, h3, h4, h5, h6⟩, hg⟩; have c1 : w2.cell? ⟨R, 0, none⟩ = some (.pointer (some ⟨H, 0, none⟩)) := cell_of h1 rfl; have c2 : w2.cell? ⟨H, 3, none⟩ = some (.pointer (some ⟨p, 0, none⟩)) := hp ▸ cell_of h2 rfl; have c3 : w2.cell? ⟨p, 0, none⟩ = some (.int .i64 y.id) := cell_of h3 rfl; have l1 := lt_of h1; have l2 := lt_of h2; have l4 := lt_of h3; clear hp hn; subst h6))
  go_ret
  exact ⟨rfl, hg⟩
theorem weight_m (h : DqM w X pr cr M g m) (l : Int) :
    Calls Try.prog 29 #[ptr X, .int .i64 l] w fun e w' => e = .returned (.int .i64 (sumD ((g.rowI l).map (·.2)))) ∧ Grown w w' := by
  have hr := row_ends h l
  clear h
  unfold ptr at *
  go_enter Try.func29, Try.ntmps29
  go_wp2_with (first | (go_at_call 54; refine hr.mono ?_; rintro e w2 ⟨R, rfl, ⟨H, x, p, n, y, z, h1, h2, rfl, rfl, h3, h4, h5, h6⟩, hg⟩; have c1 := cell_of h1 (k := 1) rfl; have l1 := lt_of h1))
  go_ret
  exact ⟨rfl, hg⟩
theorem of_no (h : DqM w X pr cr M g m) {id : Int} (hid : (Lit.int .i64 id).wf = true) (hm : m id = none) :
    Calls Try.prog 47 #[ptr X, .int .i64 id] w fun e w' => e = .returned (.tuple #[.int .i64 (-1), .int .i64 0]) ∧ ∃ d, w' = w.drewN d := by
  have c1 := h.cell1
  have hl := h.core.lt
  have HM : Hid (MapV Try.prog 3 w M 1 65536 (.pointer none) (mapC m)) := h.map
  have hv := mapC_none hm
  clear h
  unfold ptr at *
  go_enter Try.func47, Try.ntmps47
  go_wp2_with (first | (at_lookup; refine wpList_look_map rfl _ _ 71 rfl Try.underlying3 Try.underlying71 (zeroEl _) HM.out rfl rfl hid hv ?_))
  go_ret2
  exact ⟨rfl, 0, rfl⟩
theorem of_yes (h : DqM w X pr cr M g m) {id : Int} {b : Nat} (hid : (Lit.int .i64 id).wf = true) (hm : m id = some b) :
    Calls Try.prog 47 #[ptr X, .int .i64 id] w fun e w' => e = .returned (.tuple #[.int .i64 (g.E b).ls, .int .i64 (g.E b).wt]) ∧ ∃ d, w' = w.drewN d := by
  have c1 := h.cell1
  have hl := h.core.lt
  have HM : Hid (MapV Try.prog 3 w M 1 65536 (.pointer none) (mapC m)) := h.map
  have hv := mapC_some hm
  obtain ⟨i, hi, hb, -, -⟩ := h.elem hm
  have he := h.core.els i hi b (List.mem_cons_of_mem _ hb)
  have e1 : w.cell? ⟨b, 1, none⟩ = some (.int .i64 (g.E b).wt) := cell_of he rfl
  have e2 : w.cell? ⟨b, 2, none⟩ = some (.int .i64 (g.E b).ls) := cell_of he rfl
  have le := lt_of he
  generalize (g.E b).wt = wt at *
  generalize (g.E b).ls = ls at *
  clear h he hb
  unfold ptr at *
  go_enter Try.func47, Try.ntmps47
  go_wp2_with (first | (at_lookup; refine wpList_look_map rfl _ _ 71 rfl Try.underlying3 Try.underlying71 (zeroEl _) HM.out rfl rfl hid hv ?_))
  go_quiet (fail)
  go_wp2
  go_ret2
  exact ⟨rfl, _, rfl⟩
end Go.Proofs.Ytlmcopenbeammaa
