/-
  A policy's state behind an event, and what holds of it: without memory, but for refusal of package policy, which tells why an event may not happen. No condition but those told at each sentence.
-/
import Derived.Test.YtlmcopenbeammaaPoIn
namespace Go.Proofs.Ytlmcopenbeammaa
open Go.RowKit Go.Deep
theorem map_not {id w : Int} {l : List (Int × Int)} (h : ∀ v, (id, v) ∉ l) : (l.map fun p => if p.1 = id then (id, w) else p) = l := by
  rw [List.map_congr_left (g := fun p => p) fun p hp => if_neg fun e => h p.2 (by rw [← e]; exact hp)]
  simp
theorem map_out {id w0 w : Int} : ∀ {l : List (Int × Int)}, (l.map (·.1)).Nodup → (id, w0) ∈ l → sumD ((l.map fun p => if p.1 = id then (id, w) else p).map (·.2)) + w0 = sumD (l.map (·.2)) + w
  | [], _, h => absurd h List.not_mem_nil
  | (x, v) :: r, hd, h => by
    obtain ⟨h1, h2⟩ := List.nodup_cons.1 hd
    by_cases hx : x = id
    · subst hx
      have hv : v = w0 := by
        rcases List.mem_cons.1 h with q | q
        · cases q; rfl
        · exact absurd (List.mem_map.2 ⟨(x, w0), q, rfl⟩) h1
      subst hv
      have e : (r.map fun p => if p.1 = x then (x, w) else p) = r := map_not fun u hu => h1 (List.mem_map.2 ⟨(x, u), hu, rfl⟩)
      simp only [List.map_cons, if_true, sumD]
      rw [e]; omega
    · have hm : (id, w0) ∈ r := by
        rcases List.mem_cons.1 h with q | q
        · cases q; exact absurd rfl hx
        · exact q
      have ih := map_out (w := w) h2 hm
      simp only [List.map_cons, if_neg hx, sumD]
      omega
namespace Ds
variable {t : Ds}
theorem tot_reweigh (hw : t.Wf) {i : Nat} {id w0 w : Int} (h : (id, w0) ∈ t.L i) : ∀ k, ((t.reweigh id w).tot k + (if i < k then w0 else 0) = t.tot k + (if i < k then w else 0)) ∧ (t.reweigh id w).cnt k = t.cnt k
  | 0 => by simp [tot, cnt]
  | k + 1 => by
    obtain ⟨h1, h2⟩ := tot_reweigh hw (w := w) h k
    rw [tot_succ, cnt_succ, tot_succ, cnt_succ, reweigh_row, List.length_map, h2]
    refine ⟨?_, rfl⟩
    by_cases e : k = i
    · subst e
      have := map_out (w := w) (hw.dup k) h
      simp only [if_neg (Nat.lt_irrefl k), if_pos (Nat.lt_succ_self k)] at h1 ⊢
      omega
    · have hn : ∀ v, (id, v) ∉ t.L k := fun v hv => e (hw.uniq k i (id, v) (id, w0) hv h rfl).1
      rw [map_not hn]
      by_cases q : i < k
      · simp only [if_pos q, if_pos (show i < k + 1 by omega)] at h1 ⊢; omega
      · simp only [if_neg q, if_neg (show ¬ i < k + 1 by omega)] at h1 ⊢; omega
end Ds
namespace Po
open Cm
variable {C seed : Int} {mw : Nat} {y : Ps}
/-- What holds of a policy between events. -/
structure Fine (C : Int) (y : Ps) : Prop where
  wf : y.t.Wf
  n : y.t.n = 3
  cap : wh C = C
  win : inWin C y.q.x
  tot : y.t.tot 3 ≤ C
  keys : ∀ id, (y.k id).isSome = (y.t.find id).isSome
/-- .. within an event: all may weigh more. -/
structure Half (C : Int) (y : Ps) : Prop where
  wf : y.t.Wf
  n : y.t.n = 3
  cap : wh C = C
  win : inWin C y.q.x
  tot : y.t.tot 3 ≤ 4611686020574871551
  keys : ∀ id, (y.k id).isSome = (y.t.find id).isSome
theorem Fine.half (h : Fine C y) : Half C y := ⟨h.wf, h.n, h.cap, h.win, by have := wh_le C; rw [h.cap] at this; have := h.tot; omega, h.keys⟩
theorem Half.same (h : Half C y) {t : Ds} (s : Ds.Sm y.t t) : Half C { y with t := t } := by
  refine ⟨s.wf, s.n.trans h.n, h.cap, h.win, ?_, fun id => (h.keys id).trans (s.find h.wf id).symm⟩
  have := s.tot
  rw [h.n] at this
  show t.tot 3 ≤ _
  rw [this]; exact h.tot
theorem hit_sm (hw : y.t.Wf) (b : Bool) : Ds.Sm y.t (y.hit C b).t := hw.shed_sm 2 _
theorem Half.hit (h : Half C y) (b : Bool) : Half C (y.hit C b) := by
  have k := h.same (hit_sm (C := C) h.wf b)
  exact ⟨k.wf, k.n, k.cap, nx_win h.cap h.win, k.tot, k.keys⟩
theorem Half.rec1 (h : Half C y) (key : Int) : Half C (y.rec1 seed mw key) := ⟨h.wf, h.n, h.cap, h.win, h.tot, h.keys⟩
theorem mv_sm (hw : y.t.Wf) (id : Int) : Ds.Sm y.t (y.mv C id).t := by
  unfold Ps.mv
  show Ds.Sm y.t (if _ then _ else _)
  split
  · exact (hw.move_sm id 2).trans ((hw.moveW id 2).shed_sm 2 _)
  · exact hw.move_sm id _
theorem Half.mv (h : Half C y) (id : Int) : Half C (y.mv C id) := h.same (mv_sm h.wf id)
theorem rd_sm (hw : y.t.Wf) (id : Int) : Ds.Sm y.t (y.rd C seed mw id).t := (mv_sm (C := C) (y := y.rec1 seed mw ((y.k id).getD 0)) hw id).trans (hit_sm (mv_sm (C := C) (y := y.rec1 seed mw ((y.k id).getD 0)) hw id).wf true)
theorem Half.rd (h : Half C y) (id : Int) : Half C (y.rd C seed mw id) := ((h.rec1 _).mv id).hit true
theorem Fine.of_half (h : Half C y) (ht : y.t.tot 3 ≤ C) : Fine C y := ⟨h.wf, h.n, h.cap, h.win, ht, h.keys⟩
theorem Fine.rd (h : Fine C y) (id : Int) : Fine C (y.rd C seed mw id) := by
  have s := (rd_sm (C := C) (seed := seed) (mw := mw) h.wf id).tot
  rw [h.n] at s
  exact .of_half (h.half.rd id) (by rw [s]; exact h.tot)
theorem find_push {t : Ds} (hw : t.Wf) {l : Nat} {n v : Int} (hw' : (t.push l n v).Wf) (x : Int) : ((t.push l n v).find x).isSome = (decide (x = n) || (t.find x).isSome) := by
  rw [Bool.eq_iff_iff, hw'.find_iff, Bool.or_eq_true, hw.find_iff, decide_eq_true_eq]
  constructor
  · rintro ⟨i, w, hm⟩
    rw [Ds.push_row] at hm
    split at hm
    · rcases List.mem_append.1 hm with q | q
      · exact .inr ⟨i, w, q⟩
      · simp at q; exact .inl q.1
    · exact .inr ⟨i, w, hm⟩
  · rintro (rfl | ⟨i, w, hm⟩)
    · exact ⟨l, v, by rw [Ds.push_row, if_pos rfl]; simp⟩
    · refine ⟨i, w, ?_⟩
      rw [Ds.push_row]
      split
      · exact List.mem_append_left _ hm
      · exact hm
/-- A node is put. -/
theorem Half.put (h : Half C y) (n k v : Int) (h1 : 1 ≤ n ∧ n ≤ 65536) (h2 : 0 ≤ v ∧ v ≤ 2147483648) (hk : (y.k n).isSome = false) (ht : y.t.tot 3 + v ≤ 4611686020574871551) : Half C (y.put n k v) ∧ (y.put n k v).t = y.t.push 0 n v := by
  have hf : y.t.find n = none := by
    have := h.keys n
    rw [hk] at this
    exact Option.not_isSome_iff_eq_none.1 (by rw [← this]; decide)
  have e0 : (y.put n k v).t = y.t.push 0 n v := by
    show y.t.pushI 0 n v = _
    refine Ds.pushI_zero ?_
    unfold Ds.pushE
    rw [hf, show y.t.has 0 = true from decide_eq_true ⟨by omega, by rw [h.n]; decide⟩, show Ds.mayBe n = true from decide_eq_true h1, show Ds.mayWeigh v = true from decide_eq_true h2]
    rfl
  have hw := h.wf.pushW (l := 0) (id := n) (w := v) (by rw [h.n]; decide) h1 h2 (h.wf.not_found hf)
  refine ⟨⟨by rw [e0]; exact hw, by rw [e0]; exact h.n, h.cap, h.win, ?_, fun id => ?_⟩, e0⟩
  · rw [e0, (Ds.tot_push y.t 0 n v 3).1, if_pos (by decide)]; exact ht
  · rw [e0, find_push h.wf hw]
    show (if id = n then some k else y.k id).isSome = _
    by_cases e : id = n
    · rw [if_pos e, decide_eq_true e]; rfl
    · rw [if_neg e, decide_eq_false e, h.keys id]; rfl
theorem find_reweigh {t : Ds} (hw : t.Wf) {n v : Int} (hv : 0 ≤ v ∧ v ≤ 2147483648) (x : Int) : ((t.reweigh n v).find x).isSome = (t.find x).isSome := by
  rw [Bool.eq_iff_iff, (hw.reweighW hv).find_iff, hw.find_iff]
  constructor
  · rintro ⟨i, w, hm⟩
    rw [Ds.reweigh_row] at hm
    obtain ⟨p, hp, e⟩ := List.mem_map.1 hm
    split at e
    · have q : p.1 = n := by assumption
      have : n = x := (Prod.mk.inj e).1
      exact ⟨i, p.2, by rw [← this, ← q]; exact hp⟩
    · exact ⟨i, p.2, by rw [show x = p.1 by rw [e]]; exact hp⟩
  · rintro ⟨i, w, hm⟩
    by_cases e : x = n
    · exact ⟨i, v, by rw [Ds.reweigh_row, e]; exact List.mem_map.2 ⟨(x, w), hm, by simp [e]⟩⟩
    · exact ⟨i, w, by rw [Ds.reweigh_row]; exact List.mem_map.2 ⟨(x, w), hm, by simp [e]⟩⟩
def Ps.wtd (y : Ps) (n v : Int) : Ps := { y with t := y.t.reweighI n v }
theorem Half.wtd (h : Half C y) (n v : Int) (h2 : 0 ≤ v ∧ v ≤ 2147483648) (hk : (y.k n).isSome = true) (ht : y.t.tot 3 + v ≤ 4611686020574871551) : Half C (y.wtd n v) ∧ (y.wtd n v).t = y.t.reweigh n v := by
  have hf : (y.t.find n).isSome = true := by rw [← h.keys n]; exact hk
  have e0 : (y.wtd n v).t = y.t.reweigh n v := by
    show y.t.reweighI n v = _
    unfold Ds.reweighI Ds.reweighE
    rw [if_pos hf, if_pos (show Ds.mayWeigh v = true from decide_eq_true h2), if_pos rfl]
  obtain ⟨i, w0, hm⟩ := (h.wf.find_iff n).1 hf
  have hb := h.wf.els i _ hm
  have hi := h.wf.lt hm
  have t1 := (Ds.tot_reweigh h.wf (w := v) hm 3).1
  have hn := h.n
  rw [if_pos (by omega), if_pos (by omega)] at t1
  refine ⟨⟨by rw [e0]; exact h.wf.reweighW h2, by rw [e0]; exact h.n, h.cap, h.win, by rw [e0]; omega, fun id => ?_⟩, e0⟩
  rw [e0, find_reweigh h.wf h2]
  exact h.keys id
theorem unlink_find {t : Ds} (hw : t.Wf) (id x : Int) : ((t.unlink id).find x).isSome = (!decide (x = id) && (t.find x).isSome) := by
  rw [Bool.eq_iff_iff, (hw.unlinkW id).find_iff, Bool.and_eq_true, hw.find_iff, Bool.not_eq_true', decide_eq_false_iff_not]
  constructor
  · rintro ⟨i, w, hm⟩
    obtain ⟨h1, h2⟩ := List.mem_filter.1 hm
    simp at h2
    exact ⟨h2, i, w, h1⟩
  · rintro ⟨h1, i, w, hm⟩
    exact ⟨i, w, List.mem_filter.2 ⟨hm, by simpa using h1⟩⟩
theorem Half.rm (h : Half C y) {id v : Int} {i : Nat} (hm : (id, v) ∈ y.t.L i) : Half C (y.rm id) := by
  obtain ⟨r1, r2, r3, r4, r5⟩ := rm_facts h.wf h.n hm
  have := (h.wf.els i _ hm).2.2.1
  refine ⟨r1, r2, h.cap, h.win, by have := h.tot; omega, fun x => ?_⟩
  rw [r5, unlink_find h.wf]
  show (if x = id then none else y.k x).isSome = _
  by_cases e : x = id
  · rw [if_pos e, decide_eq_true e]; rfl
  · rw [if_neg e, decide_eq_false e, h.keys x]; rfl
/-- What holds behind all who have to go went. -/
structure Gone (C : Int) (y y' : Ps) (l : List Int) : Prop where
  fine : Fine C y'
  nodup : l.Nodup
  was : ∀ id ∈ l, ∃ i v, (id, v) ∈ y.t.L i
  mem : ∀ p : Int × Int, (∃ i, p ∈ y'.t.L i) ↔ (∃ i, p ∈ y.t.L i) ∧ p.1 ∉ l
  q : y'.q = y.q
  f : y'.f = y.f
  cnt : y'.t.cnt 3 + l.length = y.t.cnt 3
  none : y.t.tot 3 ≤ C → l = [] ∧ y' = y
theorem goneN_ok (hC : 0 ≤ C) : ∀ (n : Nat) (y : Ps), Half C y → y.t.cnt 3 = n → Gone C y (goneN C seed mw n y).1 (goneN C seed mw n y).2
  | 0, y, h, hc => by
    have := Ds.cnt3_zero hc
    exact ⟨.of_half h (by show y.t.tot 3 ≤ C; omega), List.nodup_nil, fun id hid => absurd hid List.not_mem_nil, fun p => ⟨fun x => ⟨x, List.not_mem_nil⟩, fun x => x.1⟩, rfl, rfl, rfl, fun _ => ⟨rfl, rfl⟩⟩
  | n + 1, y, h, hc => by
    rw [goneN_succ]
    by_cases hlt : C < y.t.tot 3
    · rw [if_pos hlt]
      obtain ⟨i, v, hm⟩ := goes_mem (seed := seed) (mw := mw) h.wf (by omega)
      obtain ⟨id, eid⟩ : ∃ id, id = y.goes seed mw := ⟨_, rfl⟩
      rw [← eid] at hm ⊢
      obtain ⟨r1, r2, r3, r4, r5⟩ := rm_facts h.wf h.n hm
      have ih := goneN_ok hC n (y.rm id) (h.rm hm) (by omega)
      have hmem : ∀ p : Int × Int, (∃ i, p ∈ (y.rm id).t.L i) ↔ (∃ i, p ∈ y.t.L i) ∧ p.1 ≠ id := fun p => by
        rw [r5]
        constructor
        · rintro ⟨j, hj⟩
          obtain ⟨h1, h2⟩ := List.mem_filter.1 hj
          exact ⟨⟨j, h1⟩, by simpa using h2⟩
        · rintro ⟨⟨j, hj⟩, h2⟩
          exact ⟨j, List.mem_filter.2 ⟨hj, by simpa using h2⟩⟩
      refine ⟨ih.fine, List.nodup_cons.2 ⟨fun hin => ?_, ih.nodup⟩, fun x hx => ?_, fun p => ?_, ih.q, ih.f, by have := ih.cnt; simp only [List.length_cons]; omega, fun hle => absurd hlt (by omega)⟩
      · obtain ⟨j, u, hj⟩ := ih.was id hin
        exact ((hmem (id, u)).1 ⟨j, hj⟩).2 rfl
      · rcases List.mem_cons.1 hx with rfl | hx
        · exact ⟨i, v, hm⟩
        · obtain ⟨j, u, hj⟩ := ih.was x hx
          obtain ⟨⟨j', hj'⟩, _⟩ := (hmem (x, u)).1 ⟨j, hj⟩
          exact ⟨j', u, hj'⟩
      · rw [ih.mem p, hmem p, List.mem_cons, not_or]
        constructor
        · rintro ⟨⟨a, b⟩, c⟩; exact ⟨a, b, c⟩
        · rintro ⟨a, b, c⟩; exact ⟨⟨a, b⟩, c⟩
    · rw [if_neg hlt]
      exact ⟨.of_half h (by show y.t.tot 3 ≤ C; omega), List.nodup_nil, fun id hid => absurd hid List.not_mem_nil, fun p => ⟨fun x => ⟨x, List.not_mem_nil⟩, fun x => x.1⟩, rfl, rfl, rfl, fun _ => ⟨rfl, rfl⟩⟩
/-- Behind settling. -/
theorem set_ok (h : Half C y) : Gone C { y with t := y.t.shed 0 y.q.x } (y.set C seed mw).1 (y.set C seed mw).2 := by
  have hC := (wh_le C).1
  rw [h.cap] at hC
  exact goneN_ok hC _ _ (h.same (h.wf.shed_sm 0 y.q.x)) rfl

/-- Behind an event: who goes. -/
def Ps.ev (y : Ps) (C seed : Int) (mw : Nat) (d n k v : Int) : Ps × List Int :=
  if refE y C d n v = 0 then (if d = 1 then (y.ad C seed mw n k v).set C seed mw else if d = 3 then ((y.wtd n v).rd C seed mw n).set C seed mw else if d = 2 then (y.rd C seed mw n, []) else (y.rm n, [])) else (y, [])
end Po
end Go.Proofs.Ytlmcopenbeammaa
