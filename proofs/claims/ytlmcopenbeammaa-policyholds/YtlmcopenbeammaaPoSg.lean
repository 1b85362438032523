/-
  Nodes of one key that come one by one, none read: who goes. Mathematics alone. No condition but those told at each sentence.
-/
import Derived.Test.YtlmcopenbeammaaPoDo
namespace Go.Proofs.Ytlmcopenbeammaa
open Go.RowKit Go.Deep
theorem Ds.L_lt {t : Ds} (hw : t.Wf) (hn : t.n = 3) {r : Nat} {p : Int × Int} (h : p ∈ t.L r) : r = 0 ∨ r = 1 ∨ r = 2 := by have := hw.lt h; omega
namespace Po
open Cm
theorem ev_ok {C seed : Int} {mw : Nat} {y : Ps} (h : Fine C y) (d n k v : Int) : Fine C (y.ev C seed mw d n k v).1 ∧ y.f.a ≤ (y.ev C seed mw d n k v).1.f.a ∧ (y.ev C seed mw d n k v).1.f.a ≤ y.f.a + 1 := by
  have hc := wh_le C
  rw [h.cap] at hc
  unfold Ps.ev
  by_cases hz : refE y C d n v = 0
  · rw [if_pos hz]
    rcases refE_zero hz with ⟨rfl, n1, n2, hv, hk⟩ | ⟨rfl, hk, hv⟩ | ⟨rfl, hk⟩ | ⟨rfl, hk⟩
    · rw [if_pos rfl]
      obtain ⟨v0, v1, v2⟩ := heavy_zero hv
      have h1 := (h.half.rec1 (seed := seed) (mw := mw) k).hit false
      have hb : Half C (y.ad C seed mw n k v) := by
        refine (h1.put n k v ⟨n1, n2⟩ ⟨v0, v1⟩ hk ?_).1
        have s := (hit_sm (C := C) (y := y.rec1 seed mw k) h.wf false).tot
        rw [show (y.rec1 seed mw k).t.n = 3 from h.n] at s
        rw [s]
        have := h.tot
        show y.t.tot 3 + v ≤ _
        omega
      have g := set_ok (seed := seed) (mw := mw) hb
      refine ⟨g.fine, ?_⟩
      rw [g.f]
      exact Fs.come_abd y.f _ mw
    · rw [if_neg (by decide), if_pos rfl]
      obtain ⟨v0, v1, v2⟩ := heavy_zero hv
      have hb := (h.half.wtd n v ⟨v0, v1⟩ hk (by have := h.tot; omega)).1.rd (seed := seed) (mw := mw) n
      have g := set_ok (seed := seed) (mw := mw) hb
      refine ⟨g.fine, ?_⟩
      rw [g.f]
      exact Fs.come_abd y.f _ mw
    · rw [if_neg (by decide), if_neg (by decide), if_pos rfl]
      exact ⟨h.rd n, Fs.come_abd y.f _ mw⟩
    · rw [if_neg (by decide), if_neg (by decide), if_neg (by decide)]
      have hf : (y.t.find n).isSome = true := by rw [← h.keys n]; exact hk
      obtain ⟨i, v, hm⟩ := (h.wf.find_iff n).1 hf
      obtain ⟨_, _, _, r4, _⟩ := rm_facts h.wf h.n hm
      have := (h.wf.els i _ hm).2.2.1
      exact ⟨.of_half (h.half.rm hm) (by show (y.rm n).t.tot 3 ≤ C; have := h.tot; omega), by show y.f.a ≤ y.f.a; omega, by show y.f.a ≤ y.f.a + 1; omega⟩
  · rw [if_neg hz]
    exact ⟨h, by show y.f.a ≤ y.f.a; omega, by show y.f.a ≤ y.f.a + 1; omega⟩
theorem zero_fine {C : Int} (h : wh C = C) : Fine C (Ps.zero C) := by
  have hc := (wh_le C).1
  rw [h] at hc
  refine ⟨⟨by show (3 : Nat) ≤ 16; decide, fun i hi => rfl, fun i p hp => absurd hp List.not_mem_nil, fun i j p q hp => absurd hp List.not_mem_nil, fun i => List.nodup_nil⟩, rfl, h, ?_, hc, fun id => rfl⟩
  have := wo_le C
  rw [h] at this
  exact this

def ones (m : Nat) : List (Int × Int) := (List.range m).map fun j : Nat => ((j : Int) + 1, 1)
theorem ones_succ (m : Nat) : ones (m + 1) = ones m ++ [((m : Int) + 1, 1)] := by unfold ones; rw [List.range_succ, List.map_append]; rfl
theorem ones_mem {m : Nat} {p : Int × Int} (h : p ∈ ones m) : 1 ≤ p.1 ∧ p.1 ≤ m ∧ p.2 = 1 := by
  obtain ⟨j, hj, rfl⟩ := List.mem_map.1 h
  have := List.mem_range.1 hj
  exact ⟨by show (1 : Int) ≤ (j : Int) + 1; omega, by show (j : Int) + 1 ≤ m; omega, rfl⟩
theorem ones_sum : ∀ m : Nat, sumD ((ones m).map (·.2)) = m
  | 0 => rfl
  | m + 1 => by rw [ones_succ, List.map_append, sumI_append, ones_sum m]; simp [sumD]
theorem cc_small {x : Int} (h0 : 0 ≤ x) (h1 : x ≤ 1000000) : cc x = x := by
  unfold cc mid
  rw [Int.min_eq_left (by omega), Int.max_eq_right h0]
/-- Behind i adds. -/
structure Sg (c : Nat) (x : BitVec 64) (mw i : Nat) (y : Ps) : Prop where
  fine : Fine (c : Int) y
  L0 : y.t.L 0 = if i = 0 then [] else [((i : Int), 1)]
  L1 : y.t.L 1 = ones (min i c - 1)
  L2 : y.t.L 2 = []
  key : ∀ r p, p ∈ y.t.L r → y.k p.1 = some 7
  f : y.f = if i = 0 then Fs.zero else one x mw (i - 1)
  h : y.q.h = 0
  m : y.q.m = i
  w : y.q.x = 1
theorem Sg.start {c : Nat} (x : BitVec 64) (mw : Nat) (h1 : 2 ≤ c) (h2 : c ≤ 50) : Sg c x mw 0 (Ps.zero (c : Int)) := by
  have hc : wh (c : Int) = c := by unfold wh mid; omega
  refine ⟨zero_fine hc, rfl, ?_, rfl, fun r p hp => absurd hp List.not_mem_nil, rfl, rfl, rfl, ?_⟩
  · rw [show min 0 c - 1 = 0 by omega]; rfl
  · show wo (c : Int) = 1
    unfold wo; rw [hc]; unfold mid; omega
theorem Sg.next {c : Nat} {x : BitVec 64} {mw i : Nat} {y : Ps} {seed : Int} (h : Sg c x mw i y) (hx : x = mixB seed 7) (m1 : 1 ≤ mw) (h1 : 2 ≤ c) (h2 : c ≤ 50) (hi : i + 1 < 10 * c) :
    refE y c 1 ((i : Int) + 1) 1 = 0 ∧ Sg c x mw (i + 1) (y.ev c seed mw 1 ((i : Int) + 1) 7 1).1 ∧ (y.ev c seed mw 1 ((i : Int) + 1) 7 1).2 = if i + 1 ≤ c then [] else [(i : Int)] := by
  have hfin := h.fine
  have hk : (y.k ((i : Int) + 1)).isSome = false := by
    rw [hfin.keys]
    cases e : (y.t.find ((i : Int) + 1)).isSome with
    | false => rfl
    | true =>
      obtain ⟨r, v, hm⟩ := (hfin.wf.find_iff _).1 e
      rcases Ds.L_lt hfin.wf hfin.n hm with rfl | rfl | rfl
      · rw [h.L0] at hm
        split at hm
        · exact absurd hm List.not_mem_nil
        · simp at hm; omega
      · rw [h.L1] at hm
        have := ones_mem hm
        simp only at this
        omega
      · rw [h.L2] at hm; exact absurd hm List.not_mem_nil
  have hhv : heavyE (c : Int) 1 = 0 := by unfold heavyE; rw [if_neg (by decide), if_neg (by omega)]
  have href : refE y c 1 ((i : Int) + 1) 1 = 0 := by
    unfold refE refAdd
    rw [if_pos rfl, if_neg (by omega), hhv, if_neg (by simp), hk]; rfl
  have hev : y.ev c seed mw 1 ((i : Int) + 1) 7 1 = (y.ad c seed mw ((i : Int) + 1) 7 1).set c seed mw := by unfold Ps.ev; rw [if_pos href, if_pos rfl]
  refine ⟨href, ?_⟩
  -- behind the count
  have hp0 : 0 ≤ pr (c : Int) 1 := by have := (pr_pos hfin.cap hfin.win).1; rw [h.w] at this; exact this
  have hnx : y.q.nx c (10 * wid c) false = y.q.cnt false := by
    unfold Cq.nx
    refine if_neg fun hh => ?_
    have e1 : (y.q.cnt false).h = 0 := by show cc y.q.h = 0; rw [h.h]; exact cc_small (by omega) (by omega)
    have e2 : (y.q.cnt false).m = (i : Int) + 1 := by show cc (cc y.q.m + 1) = _; rw [h.m, cc_small (x := (i : Int)) (by omega) (by omega)]; exact cc_small (by omega) (by omega)
    rw [e1, e2] at hh
    have e3 : cc 0 = 0 := cc_small (by omega) (by omega)
    have e4 : cc ((i : Int) + 1) = (i : Int) + 1 := cc_small (by omega) (by omega)
    have e5 : wid (c : Int) = c := by unfold wid; omega
    rw [e3, e4, e5] at hh
    omega
  obtain ⟨z, hz⟩ : ∃ z, z = (y.rec1 seed mw 7).hit c false := ⟨_, rfl⟩
  have hzq : z.q = y.q.cnt false := by rw [hz]; exact hnx
  have hzt : z.t = y.t := by
    rw [hz]
    show y.t.shed 2 (pr c (y.q.nx c (10 * wid c) false).x) = y.t
    refine Ds.shed_stop ?_
    rw [hnx]
    show ¬ pr c y.q.x < y.t.wt 2
    rw [h.w]
    unfold Ds.wt
    rw [h.L2]
    show ¬ pr c 1 < 0
    omega
  have hzk : z.k = y.k := by rw [hz]; rfl
  have hzf : z.f = one x mw i := by
    rw [hz]
    show y.f.come (mixB seed 7) mw = _
    rw [← hx, h.f]
    split
    · have e : i = 0 := by assumption
      rw [e]; exact come_zero x mw
    · rw [come_one x mw _ m1]; congr 1; omega
  have hzw : z.q.x = 1 := by rw [hzq]; exact h.w
  have hzm : z.q.m = (i : Int) + 1 := by rw [hzq]; show cc (cc y.q.m + 1) = _; rw [h.m, cc_small (x := (i : Int)) (by omega) (by omega)]; exact cc_small (by omega) (by omega)
  have hzh : z.q.h = 0 := by rw [hzq]; show cc y.q.h = 0; rw [h.h]; exact cc_small (by omega) (by omega)
  have hzH : Half (c : Int) z := by rw [hz]; exact (hfin.half.rec1 7).hit false
  have htot := hfin.tot
  obtain ⟨hH, hput⟩ := hzH.put ((i : Int) + 1) 7 1 ⟨by omega, by omega⟩ ⟨by decide, by decide⟩ (by rw [hzk]; exact hk) (by rw [hzt]; omega)
  have had : y.ad c seed mw ((i : Int) + 1) 7 1 = z.put ((i : Int) + 1) 7 1 := by rw [hz]; rfl
  rw [hev, had]
  obtain ⟨u, hu⟩ : ∃ u, u = z.put ((i : Int) + 1) 7 1 := ⟨_, rfl⟩
  rw [← hu] at hH hput ⊢
  have huk : ∀ id, u.k id = if id = (i : Int) + 1 then some 7 else y.k id := fun id => by rw [hu, ← hzk]; rfl
  have huq : u.q = z.q := by rw [hu]; rfl
  have huf : u.f = one x mw i := by rw [hu]; exact hzf
  rw [hzt] at hput
  have U0 : u.t.L 0 = (if i = 0 then [] else [((i : Int), 1)]) ++ [((i : Int) + 1, 1)] := by rw [hput, Ds.push_row, if_pos rfl, h.L0]
  have U1 : u.t.L 1 = ones (min i c - 1) := by rw [hput, Ds.push_row, if_neg (by decide), h.L1]
  have U2 : u.t.L 2 = [] := by rw [hput, Ds.push_row, if_neg (by decide), h.L2]
  have ukey : ∀ r p, p ∈ u.t.L r → u.k p.1 = some 7 := fun r p hp => by
    rw [huk]
    split
    · rfl
    · rw [hput, Ds.push_row] at hp
      split at hp
      · rcases List.mem_append.1 hp with q | q
        · exact h.key r p q
        · simp at q; rename_i hne _; exact absurd (by rw [q]) hne
      · exact h.key r p hp
  have hset : u.set c seed mw = Ps.gone { u with t := u.t.shed 0 1 } c seed mw := by
    show Ps.gone { u with t := u.t.shed 0 u.q.x } c seed mw = _
    rw [huq, hzw]
  have hG := set_ok (seed := seed) (mw := mw) hH
  rw [hset] at hG ⊢
  clear hset hev had hu hput hz
  have hwf := hH.wf
  have hn3 := hH.n
  by_cases h0 : i = 0
  · subst h0
    have U0 : u.t.L 0 = [(((0 : Nat) : Int) + 1, 1)] := U0
    have hs : u.t.shed 0 1 = u.t := Ds.shed_stop (by unfold Ds.wt; rw [U0]; decide)
    rw [hs] at hG ⊢
    have ht : u.t.tot 3 ≤ (c : Int) := by
      rw [Ds.tot3]; unfold Ds.wt; rw [U0, U1, U2, ones_sum]
      simp [sumD]; omega
    have hg : Ps.gone { u with t := u.t } c seed mw = ({ u with t := u.t }, []) := gone_stop (by show ¬ (c : Int) < u.t.tot 3; omega)
    rw [hg] at hG ⊢
    refine ⟨⟨hG.fine, by rw [if_neg (by omega)]; exact U0, ?_, U2, ukey, by rw [if_neg (by omega)]; exact huf, by rw [← hzh, ← huq], by rw [show ((0 + 1 : Nat) : Int) = ((0 : Nat) : Int) + 1 by omega, ← hzm, ← huq], by rw [← hzw, ← huq]⟩, by rw [if_pos (by omega)]⟩
    show u.t.L 1 = _
    rw [U1, show min 0 c - 1 = 0 by omega, show min (0 + 1) c - 1 = 0 by omega]
  · rw [if_neg h0] at U0
    have U0 : u.t.L 0 = [((i : Int), 1), ((i : Int) + 1, 1)] := U0
    have hfst : u.t.fst 0 = (i : Int) := by unfold Ds.fst; rw [U0]; rfl
    obtain ⟨g1, _⟩ := hwf.shed_go (r := 0) (most := 1) (by decide) (by rw [hn3]; decide) (by decide) (by unfold Ds.wt; rw [U0]; simp [sumD])
    rw [hfst] at g1
    obtain ⟨f1, f2⟩ := hwf.first_moves (r := 0) (by decide) (by rw [hn3]; decide) U0
    have hm : ((i : Int), (1 : Int)) ∈ u.t.L 0 := by rw [U0]; simp
    have hmv := Ds.moveI_zero f1 (hwf.find_of hm)
    have hni : ∀ v, ((i : Int), v) ∉ u.t.L 1 := fun v hv => by
      have := (hwf.uniq 1 0 _ _ hv hm rfl).1; omega
    have M1 : (u.t.moveI i 1).L 1 = ones (min i c - 1) ++ [((i : Int), 1)] := by
      rw [hmv, Ds.push_row, if_pos (by rfl), Ds.unlink_row, filter_not hni, U1]
    have M2 : (u.t.moveI i 1).L 2 = [] := by
      rw [hmv, Ds.push_row, if_neg (by decide), Ds.unlink_row, U2]; rfl
    have hs : u.t.shed 0 1 = u.t.moveI i 1 := by
      rw [← g1]
      exact Ds.shed_stop (by unfold Ds.wt; rw [f2]; simp [sumD])
    have hsm := hwf.move_sm (i : Int) 1
    have hsw := hsm.wf
    have hsn := hsm.n.trans hn3
    rw [hs] at hG ⊢
    obtain ⟨T, hT⟩ : ∃ T, T = u.t.moveI i 1 := ⟨_, rfl⟩
    rw [← hT] at f2 M1 M2 hG hsm hsw hsn ⊢
    have kT : ∀ r p, p ∈ T.L r → u.k p.1 = some 7 := fun r p hp => by
      obtain ⟨r', hp'⟩ := (hsm.mem p).1 ⟨r, hp⟩
      exact ukey r' p hp'
    have ht : T.tot 3 = (min i c - 1 : Nat) + 2 := by
      rw [Ds.tot3]; unfold Ds.wt; rw [f2, M1, M2, List.map_append, sumI_append, ones_sum]
      simp [sumD]; omega
    clear hT hs g1 hmv hwf U0 U1 U2
    by_cases hle : i + 1 ≤ c
    · have hg : Ps.gone { u with t := T } c seed mw = ({ u with t := T }, []) := gone_stop (by show ¬ (c : Int) < T.tot 3; rw [ht]; omega)
      rw [hg] at hG ⊢
      refine ⟨⟨hG.fine, by rw [if_neg (by omega)]; exact f2, ?_, M2, kT, by rw [if_neg (by omega)]; exact huf, by rw [← hzh, ← huq], by rw [show ((i + 1 : Nat) : Int) = (i : Int) + 1 by omega, ← hzm, ← huq], by rw [← hzw, ← huq]⟩, by rw [if_pos hle]⟩
      show T.L 1 = _
      rw [M1, show min (i + 1) c - 1 = (i - 1) + 1 by omega, ones_succ, show min i c - 1 = i - 1 by omega, show ((i - 1 : Nat) : Int) + 1 = i by omega]
    · have e1 : min i c - 1 = c - 1 := by omega
      rw [e1] at M1 ht
      have hgo : Ps.goes { u with t := T } seed mw = (i : Int) := by
        have a1 : T.fst 1 = 1 := by
          unfold Ds.fst
          rw [M1, show c - 1 = (c - 2) + 1 by omega]
          have : ∀ m : Nat, ((ones (m + 1)).map (·.1)).headD 0 = 1 := fun m => by
            unfold ones; rw [List.range_succ_eq_map]; rfl
          rw [List.map_append]
          have h2 := this (c - 2)
          revert h2
          cases ones (c - 2 + 1) with
          | nil => intro h; exact absurd h (by decide)
          | cons a r => intro h; exact h
        have a2 : T.lst 1 = i := by unfold Ds.lst; rw [M1, List.map_append, List.getLastD_eq_getLast?]; simp
        have k1 : u.k (T.fst 1) = some 7 := by
          obtain ⟨p, q, hp, _, e, _⟩ := lst_mem (t := T) (r := 1) (by rw [a1]; decide)
          rw [e]; exact kT 1 p hp
        have k2 : u.k (T.lst 1) = some 7 := by
          obtain ⟨p, q, _, hq, _, e⟩ := lst_mem (t := T) (r := 1) (by rw [a1]; decide)
          rw [e]; exact kT 1 q hq
        show (if T.fst 1 = 0 then _ else if u.f.oft (mixB seed ((u.k (T.fst 1)).getD 0)) mw < u.f.oft (mixB seed ((u.k (T.lst 1)).getD 0)) mw then _ else T.lst 1) = _
        rw [if_neg (by rw [a1]; decide), k1, k2, if_neg (Int.lt_irrefl _), a2]
      have hmi : ((i : Int), (1 : Int)) ∈ T.L 1 := by rw [M1]; simp
      obtain ⟨r1, r2, r3, r4, r5⟩ := rm_facts (y := { u with t := T }) hsw hsn hmi
      have hg := gone_go (y := { u with t := T }) (C := (c : Int)) (seed := seed) (mw := mw) hsw hsn (by omega) (by show (c : Int) < T.tot 3; rw [ht]; omega)
      rw [hgo] at hg
      obtain ⟨v, hv⟩ : ∃ v, v = Ps.rm { u with t := T } (i : Int) := ⟨_, rfl⟩
      rw [← hv] at hg r1 r2 r4 r5
      have r5 : v.t = T.unlink i := r5
      have r4 : v.t.tot 3 + 1 = T.tot 3 := r4
      have hst : v.gone c seed mw = (v, []) := gone_stop (by omega)
      rw [hst] at hg
      rw [hg] at hG ⊢
      have V0 : v.t.L 0 = [((i : Int) + 1, 1)] := by rw [r5, Ds.unlink_row, f2]; simp; omega
      have V1 : v.t.L 1 = ones (c - 1) := by
        rw [r5, Ds.unlink_row, M1, List.filter_append, filter_not fun w hw => by have := (ones_mem hw).2.1; simp only at this; omega]
        simp
      have V2 : v.t.L 2 = [] := by rw [r5, Ds.unlink_row, M2]; rfl
      have hvq : v.q = z.q := by rw [hv]; exact huq
      have hvf : v.f = one x mw i := by rw [hv]; exact huf
      refine ⟨⟨hG.fine, by rw [if_neg (by omega)]; exact V0, ?_, V2, fun r p hp => ?_, by rw [if_neg (by omega)]; exact hvf, by rw [← hzh, ← hvq], by rw [show ((i + 1 : Nat) : Int) = (i : Int) + 1 by omega, ← hzm, ← hvq], by rw [← hzw, ← hvq]⟩, by rw [if_neg hle]⟩
      · show v.t.L 1 = _
        rw [V1, show min (i + 1) c - 1 = c - 1 by omega]
      · have hp : p ∈ v.t.L r := hp
        rw [r5] at hp
        obtain ⟨q1, q2⟩ := List.mem_filter.1 hp
        simp at q2
        show v.k p.1 = some 7
        rw [hv]
        show (if p.1 = (i : Int) then none else u.k p.1) = some 7
        rw [if_neg q2]
        exact kT r p q1
end Po
end Go.Proofs.Ytlmcopenbeammaa
