/-
  Is a number among some; in which row a node is, ahead of a read and behind it. No condition but those told at each sentence.
-/
import Derived.Test.YtlmcopenbeammaaPoKeep
namespace Go.Proofs.Ytlmcopenbeammaa.Po
open Go.RowKit Go.Deep Cm
set_option maxHeartbeats 1000000 in
theorem has_q {w : World} {p : Option Addr} {n c : Nat} {l : List Int} (hv : Vec w 3 1 p n c (idL l)) (hn : n = l.length) (hb : n ≤ 1000000) (id : Int) :
    Calls Try.prog 8 #[.slice p n c, .int .i64 id] w fun e w' => e = .returned (.bool (decide (id ∈ l))) ∧ w' = w := by
  obtain ⟨r, hr⟩ : ∃ r, r = decide (id ∈ l) := ⟨_, rfl⟩
  rw [← hr]
  have HR : Hid (r = decide (id ∈ l) ∧ n = l.length) := ⟨hr, hn⟩
  have HV : Hid (Vec w 3 1 p n c (idL l)) := hv
  clear hr hn hv
  go_enter Try.func8, Try.ntmps8
  go_wp2
  go_loopw [5] (fun i wr => ∃ k : Nat, i = .int .i64 k ∧ k ≤ n ∧ wr = w ∧ Hid (∀ j, j < k → l[j]? ≠ some id)) (fun i _ => n - (intOf i).toNat)
  case atStart => exact ⟨0, rfl, by omega, rfl, fun j hj => by omega⟩
  case round =>
    obtain ⟨k, rfl, hk, rfl, HK⟩ := hrel
    by_cases hlt : k < n
    · obtain ⟨B, rfl, _, hc, _⟩ := HV.out.opens (by omega)
      have ck : wr.cell? ⟨B, k, none⟩ = some (.int .i64 (l.getD k 0)) := hc k (by omega)
      obtain ⟨x, hx⟩ : ∃ x, x = l.getD k 0 := ⟨_, rfl⟩
      have hxl : l[k]? = some x := by
        rw [hx, List.getD_eq_getElem?_getD, List.getElem?_eq_getElem (by have := HR.out.2; omega)]; rfl
      rw [← hx] at ck
      have HX : Hid (l[k]? = some x) := hxl
      have hd : decide ((k : Int) < (n : Int)) = true := by rw [decide_eq_true_eq]; omega
      clear hc hx hxl
      by_cases he : x = id
      · have e1 : (x == id) = true := by simpa using he
        have hr : r = true := by rw [HR.out.1, decide_eq_true_eq]; exact List.mem_of_getElem? (HX.out.trans (by rw [he]))
        have HRT : Hid (r = true) := hr
        clear he hr
        go_wp2
        go_ret
        exact ⟨congrArg (fun z => Ending.returned (.bool z)) HRT.out.symm, rfl⟩
      · have e1 : (x == id) = false := by simpa using he
        have HE : Hid (x ≠ id) := he
        clear he
        go_wp2
        exact ⟨⟨k + 1, by go_num, by omega, trivial, fun j hj => by
          by_cases q : j = k
          · rw [q, HX.out]; intro h; cases h; exact HE.out rfl
          · exact HK.out j (by omega)⟩, by simp [intOf]; omega⟩
    · obtain rfl : k = n := by omega
      have hd : decide ((k : Int) < (k : Int)) = false := by rw [decide_eq_false_iff_not]; omega
      have hr : r = false := by
        rw [HR.out.1, decide_eq_false_iff_not]
        intro hm
        obtain ⟨j, hj, e⟩ := List.getElem_of_mem hm
        exact HK.out j (by have := HR.out.2; omega) (by rw [List.getElem?_eq_getElem hj, e])
      have HRF : Hid (r = false) := hr
      clear hr
      go_wp2
      go_ret
      exact ⟨congrArg (fun z => Ending.returned (.bool z)) HRF.out.symm, rfl⟩
theorem ofL_iff {t : Ds} (hw : t.Wf) {k : Nat} (id : Int) : id ∈ (t.L k).map (·.1) ↔ t.ofL id = (k : Int) := by
  constructor
  · intro h
    obtain ⟨p, hp, e⟩ := List.mem_map.1 h
    have hm : (id, p.2) ∈ t.L k := by rw [← e]; exact hp
    unfold Ds.ofL
    rw [hw.find_of hm]
  · intro h
    unfold Ds.ofL at h
    split at h
    · rename_i q hq
      obtain ⟨i, v⟩ := q
      have hm := Ds.find_mem hq
      have : i = k := by
        have h : (i : Int) = k := h
        omega
      subst this
      exact List.mem_map.2 ⟨_, hm, rfl⟩
    · omega
theorem ofL_range {t : Ds} (hw : t.Wf) (hn : t.n = 3) (id : Int) : (t.ofL id = -1 ∧ (t.find id).isSome = false) ∨ (0 ≤ t.ofL id ∧ t.ofL id < 3 ∧ (t.find id).isSome = true) := by
  unfold Ds.ofL
  split
  · rename_i q hq
    obtain ⟨i, v⟩ := q
    have := hw.lt (Ds.find_mem hq)
    refine .inr ⟨by show (0 : Int) ≤ (i : Int); omega, by show (i : Int) < 3; omega, by rw [hq]; rfl⟩
  · rename_i hq
    exact .inl ⟨rfl, by rw [hq]; rfl⟩
/-- The row in which a number is, of the first k. -/
def wasAt (t : Ds) (id : Int) (k : Nat) : Int := if t.ofL id < (k : Int) then t.ofL id else -1
theorem wasAt_zero {t : Ds} (hw : t.Wf) (hn : t.n = 3) (id : Int) : wasAt t id 0 = -1 := by
  unfold wasAt
  have := ofL_range hw hn id
  split <;> omega
theorem wasAt_three {t : Ds} (hw : t.Wf) (hn : t.n = 3) (id : Int) : wasAt t id 3 = t.ofL id := by
  unfold wasAt
  have := ofL_range hw hn id
  split <;> omega
theorem wasAt_next {t : Ds} (id : Int) (k : Nat) : wasAt t id (k + 1) = if t.ofL id = (k : Int) then (k : Int) else wasAt t id k := by
  unfold wasAt
  split <;> split <;> (try split) <;> omega
/-- A read lets a node be in the window only if it was. -/
theorem rd_row {C seed : Int} {mw : Nat} {y : Ps} (h : Fine C y) {id : Int} (hf : (y.t.find id).isSome = true) : (y.t.ofL id = 0 ↔ (y.rd C seed mw id).t.ofL id = 0) ∧ 0 ≤ (y.rd C seed mw id).t.ofL id := by
  obtain ⟨z, hz⟩ : ∃ z, z = y.rec1 seed mw ((y.k id).getD 0) := ⟨_, rfl⟩
  have hzt : z.t = y.t := by rw [hz]; rfl
  have hzq : z.q = y.q := by rw [hz]; rfl
  have hrd : y.rd C seed mw id = (z.mv C id).hit C true := by rw [hz]; rfl
  have s := rd_sm (C := C) (seed := seed) (mw := mw) h.wf id
  have hr : 0 ≤ y.t.ofL id ∧ y.t.ofL id < 3 := by
    rcases ofL_range h.wf h.n id with ⟨_, e⟩ | ⟨a, b, _⟩
    · rw [hf] at e; cases e
    · exact ⟨a, b⟩
  have hr' := ofL_range s.wf (s.n.trans h.n) id
  have hf' : ((y.rd C seed mw id).t.find id).isSome = true := by rw [s.find h.wf id]; exact hf
  have hp1 : 0 ≤ pr C z.q.x := by rw [hzq]; exact (pr_pos h.cap h.win).1
  have mvw := (mv_sm (C := C) (y := z) (by rw [hzt]; exact h.wf) id).wf
  have hw2 : inWin C (z.mv C id).q.x := by show inWin C z.q.x; rw [hzq]; exact h.win
  have e1 : (y.rd C seed mw id).t.L 0 = (z.mv C id).t.L 0 := by
    rw [hrd]
    exact mvw.shed_row (pr_pos h.cap (nx_win (p := 10 * wid C) (b := true) h.cap hw2)).1 (by decide) (by decide)
  have w1 : ∀ r, (y.t.moveI id r).Wf := fun r => h.wf.moveW id r
  have e2 : ∃ r, (z.mv C id).t.L 0 = (y.t.moveI id r).L 0 ∧ 0 ≤ r ∧ r < 3 ∧ (r = 0 ↔ y.t.ofL id = 0) := by
    by_cases h1 : y.t.ofL id = 1
    · refine ⟨2, ?_, by decide, by decide, fun h => absurd h (by decide), fun h => absurd (h1.symm.trans h) (by decide)⟩
      rw [mv_p1 z C id (by rw [hzt]; exact h1)]
      show ((z.t.moveI id 2).shed 2 (pr C z.q.x)).L 0 = _
      rw [hzt]
      exact (w1 2).shed_row hp1 (by decide) (by decide)
    · refine ⟨y.t.ofL id, ?_, hr.1, hr.2, Iff.rfl⟩
      rw [mv_p2 z C id (by rw [hzt]; exact h1)]
      show (z.t.moveI id (z.t.ofL id)).L 0 = _
      rw [hzt]
  obtain ⟨r, e3, r0, r1, r2⟩ := e2
  have hmv : y.t.moveE id r = 0 := by
    unfold Ds.moveE
    rw [if_pos hf, show y.t.has r = true from decide_eq_true ⟨r0, by rw [h.n]; exact r1⟩]; rfl
  have hof := (h.wf.moved hmv (w1 r)).2.1
  have hlast : 0 ≤ (y.rd C seed mw id).t.ofL id := by
    rcases hr' with ⟨_, e⟩ | ⟨a, _, _⟩
    · rw [hf'] at e; cases e
    · exact a
  refine ⟨?_, hlast⟩
  have a := ofL_iff s.wf (k := 0) id
  have b := ofL_iff (w1 r) (k := 0) id
  rw [e1, e3] at a
  rw [b, hof] at a
  have a : r = 0 ↔ (y.rd C seed mw id).t.ofL id = 0 := a
  exact r2.symm.trans a
end Go.Proofs.Ytlmcopenbeammaa.Po
