/-
  What is there behind each event: numbers with their weights, in a list; what an event does to it. Mathematics alone. No condition but those told at each sentence.
-/
import Derived.Test.YtlmcopenbeammaaPoHot
namespace Go.Proofs.Ytlmcopenbeammaa
open Go.RowKit Go.Deep
theorem sumD_perm {l m : List Int} (h : l.Perm m) : sumD l = sumD m := by
  induction h with
  | nil => rfl
  | cons x _ ih => simp only [sumD]; omega
  | swap x y l => simp only [sumD]; omega
  | trans _ _ h1 h2 => exact h1.trans h2
theorem nodup_of_map : ∀ {I : List (Int × Int)}, (I.map (·.1)).Nodup → I.Nodup
  | [], _ => List.nodup_nil
  | p :: r, h => by
    obtain ⟨h1, h2⟩ := List.nodup_cons.1 h
    exact List.nodup_cons.2 ⟨fun hm => h1 (List.mem_map.2 ⟨p, hm, rfl⟩), nodup_of_map h2⟩
namespace Ds
variable {t : Ds}
theorem rows_nodup (hw : t.Wf) : (t.L 0 ++ t.L 1 ++ t.L 2).Nodup := by
  have hd : ∀ i j p q, p ∈ t.L i → q ∈ t.L j → i ≠ j → p ≠ q := fun i j p q hp hq hij e => hij (hw.uniq i j p q hp hq (by rw [e])).1
  have hn : ∀ i, (t.L i).Nodup := fun i => nodup_of_map (hw.dup i)
  rw [List.nodup_append, List.nodup_append]
  refine ⟨⟨hn 0, hn 1, fun p hp q hq => hd 0 1 p q hp hq (by decide)⟩, hn 2, fun p hp q hq => ?_⟩
  rcases List.mem_append.1 hp with hp | hp
  · exact hd 0 2 p q hp hq (by decide)
  · exact hd 1 2 p q hp hq (by decide)
theorem push_mem (t : Ds) (n v : Int) (p : Int × Int) : (∃ i, p ∈ (t.push 0 n v).L i) ↔ p = (n, v) ∨ ∃ i, p ∈ t.L i := by
  constructor
  · rintro ⟨i, h⟩
    rw [push_row] at h
    split at h
    · rcases List.mem_append.1 h with q | q
      · exact .inr ⟨i, q⟩
      · exact .inl (by simpa using q)
    · exact .inr ⟨i, h⟩
  · rintro (rfl | ⟨i, h⟩)
    · exact ⟨0, by rw [push_row, if_pos rfl]; simp⟩
    · refine ⟨i, ?_⟩
      rw [push_row]
      split
      · exact List.mem_append_left _ h
      · exact h
theorem reweigh_mem (t : Ds) (n v : Int) (p : Int × Int) : (∃ i, p ∈ (t.reweigh n v).L i) ↔ ∃ q : Int × Int, (∃ i, q ∈ t.L i) ∧ (if q.1 = n then (n, v) else q) = p := by
  constructor
  · rintro ⟨i, h⟩
    rw [reweigh_row] at h
    obtain ⟨q, hq, e⟩ := List.mem_map.1 h
    exact ⟨q, ⟨i, hq⟩, e⟩
  · rintro ⟨q, ⟨i, hq⟩, e⟩
    exact ⟨i, by rw [reweigh_row]; exact List.mem_map.2 ⟨q, hq, e⟩⟩
theorem unlink_mem (t : Ds) (n : Int) (p : Int × Int) : (∃ i, p ∈ (t.unlink n).L i) ↔ (∃ i, p ∈ t.L i) ∧ p.1 ≠ n := by
  constructor
  · rintro ⟨i, h⟩
    rw [unlink_row] at h
    obtain ⟨h1, h2⟩ := List.mem_filter.1 h
    exact ⟨⟨i, h1⟩, by simpa using h2⟩
  · rintro ⟨⟨i, h⟩, h2⟩
    exact ⟨i, by rw [unlink_row]; exact List.mem_filter.2 ⟨h, by simpa using h2⟩⟩
end Ds
namespace Po
open Cm
variable {C seed : Int} {mw : Nat} {y : Ps} {I : List (Int × Int)}
/-- All that is there, with its weights. -/
structure Inv (y : Ps) (I : List (Int × Int)) : Prop where
  nodup : (I.map (·.1)).Nodup
  mem : ∀ p, p ∈ I ↔ ∃ i, p ∈ y.t.L i
theorem Inv.sums (h : Inv y I) (hw : y.t.Wf) (hn : y.t.n = 3) : I.length = y.t.cnt 3 ∧ sumD (I.map (·.2)) = y.t.tot 3 := by
  have hp : I.Perm (y.t.L 0 ++ y.t.L 1 ++ y.t.L 2) := (List.perm_ext_iff_of_nodup (nodup_of_map h.nodup) (Ds.rows_nodup hw)).2 fun p => by
    rw [h.mem p, List.mem_append, List.mem_append]
    constructor
    · rintro ⟨i, hi⟩
      rcases Ds.L_lt hw hn hi with rfl | rfl | rfl
      · exact .inl (.inl hi)
      · exact .inl (.inr hi)
      · exact .inr hi
    · rintro ((hi | hi) | hi)
      · exact ⟨0, hi⟩
      · exact ⟨1, hi⟩
      · exact ⟨2, hi⟩
  refine ⟨?_, ?_⟩
  · rw [hp.length_eq, List.length_append, List.length_append]
    show _ = 0 + (y.t.L 0).length + (y.t.L 1).length + (y.t.L 2).length
    rw [Nat.zero_add]
  · rw [sumD_perm (hp.map _), List.map_append, List.map_append, sumI_append, sumI_append, Ds.tot3]; rfl
theorem Inv.zero (C : Int) : Inv (Ps.zero C) [] := ⟨List.nodup_nil, fun _ => ⟨fun h => absurd h List.not_mem_nil, fun ⟨_, h⟩ => absurd h List.not_mem_nil⟩⟩
theorem Inv.key (h : Inv y I) (hf : Fine C y) (n : Int) : (y.k n).isSome = true ↔ n ∈ I.map (·.1) := by
  rw [hf.keys, hf.wf.find_iff]
  constructor
  · rintro ⟨i, w, hm⟩
    exact List.mem_map.2 ⟨(n, w), (h.mem _).2 ⟨i, hm⟩, rfl⟩
  · intro hm
    obtain ⟨p, hp, e⟩ := List.mem_map.1 hm
    obtain ⟨i, hi⟩ := (h.mem p).1 hp
    exact ⟨i, p.2, by rw [← e]; exact hi⟩
/-- One entry behind an event that told r. -/
def upd (n v r d : Int) (p : Int × Int) : Int × Int := if p.1 = n ∧ r = 0 ∧ d = 3 then (p.1, v) else p
def keepB (G : List Int) (n r d : Int) (p : Int × Int) : Bool := !decide (p.1 ∈ G) && (!decide (p.1 = n) || !decide (r = 0) || !decide (d = 4))
def inS (I : List (Int × Int)) (n v r d : Int) : List (Int × Int) := if r = 0 ∧ d = 1 then I ++ [(n, v)] else I
def leftS (I : List (Int × Int)) (G : List Int) (n v r d : Int) : List (Int × Int) := (I.map (upd n v r d)).filter (keepB G n r d)
theorem upd_fst (n v r d : Int) (p : Int × Int) : (upd n v r d p).1 = p.1 := by unfold upd; split <;> rfl
theorem upd_three (n v : Int) (q : Int × Int) : upd n v 0 3 q = if q.1 = n then (n, v) else q := by
  unfold upd
  by_cases h : q.1 = n
  · rw [if_pos ⟨h, rfl, rfl⟩, if_pos h, h]
  · rw [if_neg fun x => h x.1, if_neg h]
theorem left_nodup {G : List Int} {n v r d : Int} (h : (I.map (·.1)).Nodup) : ((leftS I G n v r d).map (·.1)).Nodup := by
  unfold leftS
  have hs : (((I.map (upd n v r d)).filter (keepB G n r d)).map (·.1)).Sublist ((I.map (upd n v r d)).map (·.1)) := (List.filter_sublist).map _
  refine hs.nodup ?_
  rw [List.map_map]
  have e : ((fun x : Int × Int => x.1) ∘ upd n v r d) = fun p => p.1 := funext fun p => upd_fst n v r d p
  rw [e]; exact h
theorem left_mem {G : List Int} {n v r d : Int} (p : Int × Int) : p ∈ leftS I G n v r d ↔ (∃ q ∈ I, upd n v r d q = p) ∧ p.1 ∉ G ∧ (p.1 ≠ n ∨ r ≠ 0 ∨ d ≠ 4) := by
  unfold leftS
  rw [List.mem_filter, List.mem_map]
  unfold keepB
  simp [Bool.and_eq_true, or_assoc]
/-- What an event does to all that is there. -/
structure Stp (C : Int) (y y' : Ps) (I : List (Int × Int)) (G : List Int) (n v r d : Int) : Prop where
  inv : Inv y' (leftS (inS I n v r d) G n v r d)
  len : (leftS (inS I n v r d) G n v r d).length + G.length = (inS I n v r d).length ∨ (r = 0 ∧ d = 4 ∧ (leftS (inS I n v r d) G n v r d).length + 1 = (inS I n v r d).length)
  gone : G ≠ [] → r = 0 ∧ (d = 1 ∨ d = 3 ∧ ∀ w0, (n, w0) ∈ I → w0 < v)
  there : r = 0 → d ≠ 1 → n ∈ I.map (·.1)
theorem ev_stp (h : Fine C y) (hI : Inv y I) (d n k v : Int) : Stp C y (y.ev C seed mw d n k v).1 I (y.ev C seed mw d n k v).2 n v (refE y C d n v) d := by
  have hc := wh_le C
  rw [h.cap] at hc
  have f' := (ev_ok (seed := seed) (mw := mw) h d n k v).1
  obtain ⟨r, hr⟩ : ∃ r, r = refE y C d n v := ⟨_, rfl⟩
  obtain ⟨l0, s0⟩ := hI.sums h.wf h.n
  have e : y.ev C seed mw d n k v = if refE y C d n v = 0 then (if d = 1 then (y.ad C seed mw n k v).set C seed mw else if d = 3 then ((y.wtd n v).rd C seed mw n).set C seed mw else if d = 2 then (y.rd C seed mw n, []) else (y.rm n, [])) else (y, []) := rfl
  rw [e] at f' ⊢
  clear e
  by_cases hz : refE y C d n v = 0
  · rw [if_pos hz] at f' ⊢
    rw [hz]
    rcases refE_zero hz with ⟨rfl, n1, n2, hv, hk⟩ | ⟨rfl, hk, hv⟩ | ⟨rfl, hk⟩ | ⟨rfl, hk⟩
    · rw [if_pos rfl] at f' ⊢
      obtain ⟨v0, v1, v2⟩ := heavy_zero hv
      have hs := hit_sm (C := C) (y := y.rec1 seed mw k) h.wf false
      have hsn : ((y.rec1 seed mw k).t.n) = 3 := h.n
      have h1 := (h.half.rec1 (seed := seed) (mw := mw) k).hit false
      have hpt := h1.put n k v ⟨n1, n2⟩ ⟨v0, v1⟩ hk (by
        have s := hs.tot
        rw [hsn] at s
        rw [s]
        have := h.tot
        show y.t.tot 3 + v ≤ _
        omega)
      have hb : Half C (y.ad C seed mw n k v) := hpt.1
      have hbt : (y.ad C seed mw n k v).t = ((y.rec1 seed mw k).hit C false).t.push 0 n v := hpt.2
      have g := set_ok (seed := seed) (mw := mw) hb
      have s2 := hb.wf.shed_sm 0 (y.ad C seed mw n k v).q.x
      have hin : inS I n v 0 1 = I ++ [(n, v)] := if_pos ⟨rfl, rfl⟩
      have hnI : n ∉ I.map (·.1) := fun hm => by rw [(hI.key h n).2 hm] at hk; cases hk
      have hnd : ((I ++ [(n, v)]).map (·.1)).Nodup := by
        rw [List.map_append, List.nodup_append]
        refine ⟨hI.nodup, by simp, fun a ha b hb' => ?_⟩
        have : b = n := by simpa using hb'
        rintro rfl
        exact hnI (by rw [← this]; exact ha)
      have inv : Inv ((y.ad C seed mw n k v).set C seed mw).1 (leftS (inS I n v 0 1) ((y.ad C seed mw n k v).set C seed mw).2 n v 0 1) := by
        rw [hin]
        refine ⟨left_nodup hnd, fun p => ?_⟩
        rw [left_mem, g.mem p]
        have e1 : (∃ i, p ∈ ((y.ad C seed mw n k v).t.shed 0 (y.ad C seed mw n k v).q.x).L i) ↔ p = (n, v) ∨ p ∈ I := by
          rw [s2.mem p, hbt, Ds.push_mem, hs.mem p, hI.mem p]; rfl
        have e2 : (∃ i, p ∈ ({ y.ad C seed mw n k v with t := (y.ad C seed mw n k v).t.shed 0 (y.ad C seed mw n k v).q.x } : Ps).t.L i) ↔ p = (n, v) ∨ p ∈ I := e1
        rw [e2]
        have e3 : (∃ q ∈ I ++ [(n, v)], upd n v 0 1 q = p) ↔ p = (n, v) ∨ p ∈ I := by
          have u : ∀ q, upd n v 0 1 q = q := fun q => if_neg fun h => absurd h.2.2 (by decide)
          constructor
          · rintro ⟨q, hq, e⟩
            rw [u] at e
            subst e
            rcases List.mem_append.1 hq with a | a
            · exact .inr a
            · exact .inl (by simpa using a)
          · rintro (rfl | a)
            · exact ⟨_, List.mem_append_right _ List.mem_cons_self, u _⟩
            · exact ⟨p, List.mem_append_left _ a, u _⟩
        rw [e3]
        exact ⟨fun ⟨a, b, _⟩ => ⟨a, b⟩, fun ⟨a, b⟩ => ⟨a, b, .inr (.inr (by decide))⟩⟩
      refine ⟨inv, .inl ?_, fun _ => ⟨rfl, .inl rfl⟩, fun _ hd => absurd rfl hd⟩
      have c1 := (inv.sums f'.wf f'.n).1
      have c2 : ((y.ad C seed mw n k v).set C seed mw).1.t.cnt 3 + ((y.ad C seed mw n k v).set C seed mw).2.length = ((y.ad C seed mw n k v).t.shed 0 (y.ad C seed mw n k v).q.x).cnt 3 := g.cnt
      have c3 := s2.cnt
      rw [hb.n] at c3
      have c4 := (Ds.tot_push ((y.rec1 seed mw k).hit C false).t 0 n v 3).2
      rw [← hbt, if_pos (by decide)] at c4
      have c5 := hs.cnt
      rw [hsn] at c5
      have c6 : (y.rec1 seed mw k).t.cnt 3 = y.t.cnt 3 := rfl
      rw [c1, hin, List.length_append, l0]
      simp only [List.length_cons, List.length_nil]
      omega
    · rw [if_neg (by decide), if_pos rfl] at f' ⊢
      obtain ⟨v0, v1, v2⟩ := heavy_zero hv
      have hwt := h.half.wtd n v ⟨v0, v1⟩ hk (by have := h.tot; omega)
      have hb := hwt.1.rd (seed := seed) (mw := mw) n
      have g := set_ok (seed := seed) (mw := mw) hb
      have s1 := rd_sm (C := C) (seed := seed) (mw := mw) hwt.1.wf n
      have s2 := hb.wf.shed_sm 0 ((y.wtd n v).rd C seed mw n).q.x
      have s3 := s1.trans s2
      have hin : inS I n v 0 3 = I := if_neg fun h => absurd h.2 (by decide)
      have hnI := (hI.key h n).1 hk
      have hn3 : (y.wtd n v).t.n = 3 := hwt.1.n
      have inv : Inv (((y.wtd n v).rd C seed mw n).set C seed mw).1 (leftS (inS I n v 0 3) (((y.wtd n v).rd C seed mw n).set C seed mw).2 n v 0 3) := by
        rw [hin]
        refine ⟨left_nodup hI.nodup, fun p => ?_⟩
        rw [left_mem, g.mem p]
        have e2 : (∃ i, p ∈ ({ (y.wtd n v).rd C seed mw n with t := ((y.wtd n v).rd C seed mw n).t.shed 0 ((y.wtd n v).rd C seed mw n).q.x } : Ps).t.L i) ↔ ∃ q ∈ I, upd n v 0 3 q = p := by
          have e1 := s3.mem p
          rw [hwt.2, Ds.reweigh_mem] at e1
          refine e1.trans ?_
          constructor
          · rintro ⟨q, hq, e⟩
            exact ⟨q, (hI.mem q).2 hq, (upd_three n v q).trans e⟩
          · rintro ⟨q, hq, e⟩
            exact ⟨q, (hI.mem q).1 hq, (upd_three n v q).symm.trans e⟩
        rw [e2]
        exact ⟨fun ⟨a, b, _⟩ => ⟨a, b⟩, fun ⟨a, b⟩ => ⟨a, b, .inr (.inr (by decide))⟩⟩
      obtain ⟨i, w1, hm⟩ := (h.wf.find_iff n).1 (by rw [← h.keys n]; exact hk)
      obtain ⟨t1, t2⟩ := Ds.tot_reweigh h.wf (w := v) hm 3
      rw [← hwt.2] at t1 t2
      have hi3 := h.wf.lt hm
      rw [h.n] at hi3
      rw [if_pos hi3, if_pos hi3] at t1
      refine ⟨inv, .inl ?_, fun hG => ⟨rfl, .inr ⟨rfl, fun w0 hw0 => ?_⟩⟩, fun _ _ => hnI⟩
      · have c1 := (inv.sums f'.wf f'.n).1
        have c2 : (((y.wtd n v).rd C seed mw n).set C seed mw).1.t.cnt 3 + (((y.wtd n v).rd C seed mw n).set C seed mw).2.length = (((y.wtd n v).rd C seed mw n).t.shed 0 ((y.wtd n v).rd C seed mw n).q.x).cnt 3 := g.cnt
        have c3 := s3.cnt
        rw [hn3] at c3
        rw [c1, hin, l0]
        omega
      · obtain ⟨j, hj⟩ := (hI.mem _).1 hw0
        have hw : w0 = w1 := (Prod.mk.inj (h.wf.uniq j i _ _ hj hm rfl).2).2
        refine Int.lt_of_not_ge fun hle => hG (g.none ?_).1
        have c3 := s3.tot
        rw [hn3] at c3
        show (((y.wtd n v).rd C seed mw n).t.shed 0 ((y.wtd n v).rd C seed mw n).q.x).tot 3 ≤ C
        have := h.tot
        omega
    · rw [if_neg (by decide), if_neg (by decide), if_pos rfl] at f' ⊢
      have s1 := rd_sm (C := C) (seed := seed) (mw := mw) h.wf n
      have hin : inS I n v 0 2 = I := if_neg fun h => absurd h.2 (by decide)
      have inv : Inv (y.rd C seed mw n) (leftS (inS I n v 0 2) [] n v 0 2) := by
        rw [hin]
        refine ⟨left_nodup hI.nodup, fun p => ?_⟩
        rw [left_mem, s1.mem p, ← hI.mem p]
        have u : ∀ q, upd n v 0 2 q = q := fun q => if_neg fun h => absurd h.2.2 (by decide)
        constructor
        · rintro ⟨⟨q, hq, e⟩, _⟩
          rw [u] at e; rw [← e]; exact hq
        · exact fun hp => ⟨⟨p, hp, u p⟩, List.not_mem_nil, .inr (.inr (by decide))⟩
      refine ⟨inv, .inl ?_, fun hG => absurd rfl hG, fun _ _ => (hI.key h n).1 hk⟩
      have c1 := (inv.sums f'.wf f'.n).1
      have c3 := s1.cnt
      rw [h.n] at c3
      rw [c1, hin, l0, c3]; rfl
    · rw [if_neg (by decide), if_neg (by decide), if_neg (by decide)] at f' ⊢
      obtain ⟨i, w1, hm⟩ := (h.wf.find_iff n).1 (by rw [← h.keys n]; exact hk)
      obtain ⟨_, _, r3, r4, r5⟩ := rm_facts h.wf h.n hm
      have hin : inS I n v 0 4 = I := if_neg fun h => absurd h.2 (by decide)
      have inv : Inv (y.rm n) (leftS (inS I n v 0 4) [] n v 0 4) := by
        rw [hin]
        refine ⟨left_nodup hI.nodup, fun p => ?_⟩
        rw [left_mem, r5, Ds.unlink_mem, ← hI.mem p]
        have u : ∀ q, upd n v 0 4 q = q := fun q => if_neg fun h => absurd h.2.2 (by decide)
        constructor
        · rintro ⟨⟨q, hq, e⟩, _, e2⟩
          rw [u] at e
          rw [← e] at e2 ⊢
          rcases e2 with a | a | a
          · exact ⟨hq, a⟩
          · exact absurd rfl a
          · exact absurd rfl a
        · exact fun ⟨hp, hq⟩ => ⟨⟨p, hp, u p⟩, List.not_mem_nil, .inl hq⟩
      refine ⟨inv, .inr ⟨rfl, rfl, ?_⟩, fun hG => absurd rfl hG, fun _ _ => (hI.key h n).1 hk⟩
      have c1 := (inv.sums f'.wf f'.n).1
      rw [c1, hin, l0, r3]
  · rw [if_neg hz] at f' ⊢
    have hin : inS I n v (refE y C d n v) d = I := if_neg fun h => hz h.1
    have u : ∀ q, upd n v (refE y C d n v) d q = q := fun q => if_neg fun h => hz h.2.1
    have inv : Inv y (leftS (inS I n v (refE y C d n v) d) [] n v (refE y C d n v) d) := by
      rw [hin]
      refine ⟨left_nodup hI.nodup, fun p => ?_⟩
      rw [left_mem, ← hI.mem p]
      constructor
      · rintro ⟨⟨q, hq, e⟩, _⟩
        rw [u] at e; rw [← e]; exact hq
      · exact fun hp => ⟨⟨p, hp, u p⟩, List.not_mem_nil, .inr (.inl hz)⟩
    refine ⟨inv, .inl ?_, fun hG => absurd rfl hG, fun h0 => absurd h0 hz⟩
    rw [(inv.sums h.wf h.n).1, hin, l0]; rfl
end Po
end Go.Proofs.Ytlmcopenbeammaa
