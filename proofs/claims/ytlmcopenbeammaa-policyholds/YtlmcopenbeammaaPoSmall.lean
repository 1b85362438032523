/-
  Policies by their blocks; slices of the same numbers; the small case. No condition but those told at each sentence.
-/
import Derived.Test.YtlmcopenbeammaaPoSg
namespace Go.Proofs.Ytlmcopenbeammaa.Po
open Go.RowKit Go.Deep Cm

/-- Two slices that hold the same numbers. -/
theorem ints_l {w : World} {p q : Option Addr} {n c d : Nat} {l : List Int} (hp : Vec w 3 1 p n c (idL l)) (hq : Vec w 3 1 q n d (idL l)) (hn : n ≤ 1000000) :
    Calls Try.prog 13 #[.slice p n c, .slice q n d] w fun e w' => e = .returned (.bool true) ∧ ∃ m, w' = w.drewN m := by
  have hx : ((n : Int) != (n : Int)) = false := by simp
  go_enter Try.func13, Try.ntmps13
  go_wp2
  go_loopw [5] (fun i wr => ∃ k d : Nat, k ≤ n ∧ i = .int .i64 k ∧ wr = w.drewN d) (fun i _ => n - (intOf i).toNat)
  case atStart => exact ⟨0, 0, by omega, rfl, rfl⟩
  case round =>
    obtain ⟨k, m, hk, rfl, rfl⟩ := hrel
    by_cases hlt : k < n
    · obtain ⟨A, rfl, lA, hA, _, nA⟩ := hp.opens (by omega)
      obtain ⟨B, rfl, lB, hB, _, nB⟩ := hq.opens (by omega)
      have c1 : w.cell? ⟨A, k, none⟩ = some (.int .i64 (l.getD k 0)) := hA k (by omega)
      have c2 : w.cell? ⟨B, k, none⟩ = some (.int .i64 (l.getD k 0)) := hB k (by omega)
      obtain ⟨z, hz⟩ : ∃ z, z = l.getD k 0 := ⟨_, rfl⟩
      rw [← hz] at c1 c2
      have hd : decide ((k : Int) < (n : Int)) = true := by rw [decide_eq_true_eq]; omega
      have hzz : (z != z) = false := by simp
      clear hp hq hA hB hz
      go_wp2
      go_quiet (fail)
      go_wp2
      go_roundw
      case rel => exact ⟨k + 1, _, by omega, by go_num, rfl⟩
      case measure => simp [intOf]; omega
    · obtain rfl : k = n := by omega
      have hd : decide ((k : Int) < (k : Int)) = false := by rw [decide_eq_false_iff_not]; omega
      go_wp2
      go_ret
      exact ⟨rfl, _, rfl⟩
theorem idsC_idL (D : List (Int × Int)) : idsC D = idL (D.map (·.1)) := rfl
variable {w w' : World} {A : Nat} {Φ Ψ : Nat → Prop} {C seed : Int} {mw : Nat} {y : Ps}
theorem Pol.wf (h : Pol w A Φ C seed mw y) : y.t.Wf := by
  obtain ⟨S, F, X, M, G, h, rfl⟩ := h
  exact h.dq.wf
theorem do_q (h : Pol w A Φ C seed mw y) (hf : Fine C y) (ha : 0 ≤ y.f.a ∧ y.f.a ≤ 2305843009213693952) (d n k v : Int) (hid : (Lit.int .i64 n).wf = true) :
    Calls Try.prog 9 #[ptr A, evV d n k v] w fun e w' => ∃ p g c Φ', e = .returned (.tuple #[.slice p g c, .int .i64 (refE y C d n v)]) ∧ g = (y.ev C seed mw d n k v).2.length ∧ Vec w' 3 1 p g c (idL (y.ev C seed mw d n k v).2) ∧ Pol w' A Φ' C seed mw (y.ev C seed mw d n k v).1 ∧ Step Φ Φ' w w' ∧ ∀ i, In p i → ¬ Φ' i ∧ w.heap.size ≤ i := by
  obtain ⟨S, F, X, M, G, h, rfl⟩ := h
  refine (do_p h hf ha d n k v hid).mono ?_
  rintro e w' ⟨p, g, c, rfl, G', h1, h2, h3, h4, h5⟩
  exact ⟨p, g, c, _, rfl, h1, h2, ⟨S, F, X, M, G', h3, rfl⟩, h4, h5⟩
theorem row_q (h : Pol w A Φ C seed mw y) (row : Int) :
    Calls Try.prog 10 #[ptr A, .int .i64 row] w fun e w' => ∃ p c k, e = .returned (.slice p k c) ∧ k = (y.t.rowI row).length ∧ Vec w' 3 1 p k c (idsC (y.t.rowI row)) ∧ Grown w w' ∧ ∀ x, In p x → w.heap.size ≤ x := by
  obtain ⟨S, F, X, M, G, h, rfl⟩ := h
  exact row_p h row
theorem weight_q (h : Pol w A Φ C seed mw y) (ht : y.t.tot 3 ≤ 9223372036854775807) : Calls Try.prog 11 #[ptr A] w fun e w' => e = .returned (.int .i64 (y.t.tot 3)) ∧ Grown w w' := by
  obtain ⟨S, F, X, M, G, h, rfl⟩ := h
  exact weight_p h ht
theorem key_q (h : Pol w A Φ C seed mw y) {id : Int} (hid : (Lit.int .i64 id).wf = true) : Calls Try.prog 14 #[ptr A, .int .i64 id] w fun e w' => e = .returned (.tuple #[.int .i64 ((y.k id).getD 0), .bool (y.k id).isSome]) ∧ w' = w := by
  obtain ⟨S, F, X, M, G, h, rfl⟩ := h
  exact key_p h hid
theorem often_q (h : Pol w A Φ C seed mw y) (key : Int) : Calls Try.prog 15 #[ptr A, .int .i64 key] w fun e w' => e = .returned (.int .i64 (y.f.oft (mixB seed key) mw)) ∧ Grown w w' := by
  obtain ⟨S, F, X, M, G, h, rfl⟩ := h
  exact often_p h key
theorem Sg.age {c : Nat} {x : BitVec 64} {i : Nat} (h : Sg c x mw i y) : y.f.a = 0 := by
  rw [h.f]; split <;> rfl
theorem Sg.tot {c : Nat} {x : BitVec 64} {i : Nat} (h : Sg c x mw i y) (hc : 1 ≤ c) : y.t.tot 3 = (min i c : Nat) := by
  rw [Ds.tot3]; unfold Ds.wt; rw [h.L0, h.L1, h.L2, ones_sum]
  split
  · simp [sumD]; omega
  · simp [sumD]; omega
theorem Sg.oft {c : Nat} {x : BitVec 64} {i : Nat} (h : Sg c x mw i y) (hi : 1 ≤ i) : y.f.oft x mw = min (i : Int) 16 := by
  rw [h.f, if_neg (by omega), oft_one]
  congr 1; omega
theorem sg_do {c i : Nat} {x : BitVec 64} (hp : Pol w A Φ (c : Int) seed mw y) (h : Sg c x mw i y) (hx : x = mixB seed 7) (m1 : 1 ≤ mw) (h1 : 2 ≤ c) (h2 : c ≤ 50) (hi : i + 1 < 10 * c) :
    Calls Try.prog 9 #[ptr A, evV 1 ((i : Int) + 1) 7 1] w fun e w' => ∃ p g cc Φ' y', e = .returned (.tuple #[.slice p g cc, .int .i64 0]) ∧ Sg c x mw (i + 1) y' ∧ Pol w' A Φ' (c : Int) seed mw y' ∧ Step Φ Φ' w w' ∧ (i + 1 ≤ c → g = 0) ∧ (¬ i + 1 ≤ c → g = 1 ∧ Vec w' 3 1 p 1 cc (idL [(i : Int)])) ∧ ∀ k, In p k → ¬ Φ' k ∧ w.heap.size ≤ k := by
  obtain ⟨e1, e2, e3⟩ := h.next hx m1 h1 h2 hi
  refine (do_q hp h.fine (by rw [h.age]; omega) 1 ((i : Int) + 1) 7 1 (wf_small ⟨by omega, by omega⟩)).mono ?_
  rintro e w' ⟨p, g, cc, Φ', rfl, hg, hv, hP, hS, hin⟩
  refine ⟨p, g, cc, Φ', _, by rw [e1], e2, hP, hS, fun hle => ?_, fun hle => ?_, hin⟩
  · rw [hg, e3, if_pos hle]; rfl
  · rw [e3, if_neg hle] at hg hv
    have hg : g = 1 := hg
    subst hg
    exact ⟨rfl, hv⟩
theorem heavy_q (hp : Pol w A Φ (2 : Nat) seed mw y) {x : BitVec 64} {i : Nat} (h : Sg 2 x mw i y) :
    Calls Try.prog 9 #[ptr A, evV 1 4 7 3] w fun e w' => ∃ p c Φ', e = .returned (.tuple #[.slice p 0 c, .int .i64 4]) ∧ Pol w' A Φ' (2 : Nat) seed mw y ∧ Step Φ Φ' w w' := by
  have er : refE y ((2 : Nat) : Int) 1 4 3 = 4 := by
    unfold refE refAdd
    rw [if_pos rfl, if_neg (by decide), show heavyE ((2 : Nat) : Int) 3 = 4 from by decide]; rfl
  have ee : y.ev ((2 : Nat) : Int) seed mw 1 4 7 3 = (y, []) := by unfold Ps.ev; rw [if_neg (by rw [er]; decide)]
  refine (do_q hp h.fine (by rw [h.age]; omega) 1 4 7 3 (wf_small ⟨by decide, by decide⟩)).mono ?_
  rintro e w' ⟨p, g, cc, Φ', rfl, hg, hv, hP, hS, hin⟩
  rw [ee] at hg hP
  have hg : g = 0 := hg
  subst hg
  exact ⟨p, cc, Φ', by rw [er], hP, hS⟩

theorem ints_1 {w : World} {p : Option Addr} {c : Nat} (z : Int) (hp : Vec w 3 1 p 1 c (idL [z])) :
    Calls Try.prog 13 #[.slice p 1 c, .slice (some ⟨w.heap.size, 0, none⟩) 1 1] (w.alloc (.cells #[.int .i64 z] 3)) fun e w' => e = .returned (.bool true) ∧ Grown w w' := by
  have g : Grown w (w.alloc (.cells #[.int .i64 z] 3)) := (Grown.refl _).alloc _ _
  refine (ints_l (l := [z]) (hp.grown g) (Vec.laid w 3 #[.int .i64 z] 1 1 (by decide) rfl (idL [z]) (fun j hj => by
    have : j = 0 := by omega
    subst this; rfl)) (by decide)).mono ?_
  rintro e w' ⟨rfl, m, rfl⟩
  exact ⟨rfl, grownDrewN g m⟩
set_option maxRecDepth 100000 in
set_option maxHeartbeats 4000000 in
theorem small_q (w : World) : Calls Try.prog 6 #[] w fun e w' => e = .returned (.bool true) ∧ Grown w w' := by
  have NW := new_p 2 1 w
  have hw2 : wh 2 = ((2 : Nat) : Int) := by decide
  have hm1 := (mwid_is 2).1
  rw [hw2] at NW
  obtain ⟨mw, hmw⟩ : ∃ m, m = mwid 2 := ⟨_, rfl⟩
  rw [← hmw] at NW hm1
  have ST : Hid (Sg 2 (mixB 1 7) mw 0 (Ps.zero ((2 : Nat) : Int))) := Sg.start _ _ (by omega) (by omega)
  have D1 : ∀ A W Φ y, Pol W A Φ ((2 : Nat) : Int) 1 mw y → Hid (Sg 2 (mixB 1 7) mw 0 y) → Calls Try.prog 9 #[ptr A, evV 1 1 7 1] W fun e w' => ∃ p c Φ' y', e = .returned (.tuple #[.slice p 0 c, .int .i64 0]) ∧ Hid (Sg 2 (mixB 1 7) mw 1 y') ∧ Pol w' A Φ' ((2 : Nat) : Int) 1 mw y' ∧ Step Φ Φ' W w' := fun A W Φ y h s => by
    refine (sg_do h s.out rfl hm1 (by omega) (by omega) (by omega)).mono ?_
    rintro e w' ⟨p, g, c, Φ', y', rfl, h1, h2, h3, h4, _, _⟩
    have := h4 (by omega)
    subst this
    exact ⟨p, c, Φ', y', rfl, h1, h2, h3⟩
  have D2 : ∀ A W Φ y, Pol W A Φ ((2 : Nat) : Int) 1 mw y → Hid (Sg 2 (mixB 1 7) mw 1 y) → Calls Try.prog 9 #[ptr A, evV 1 2 7 1] W fun e w' => ∃ p c Φ' y', e = .returned (.tuple #[.slice p 0 c, .int .i64 0]) ∧ Hid (Sg 2 (mixB 1 7) mw 2 y') ∧ Pol w' A Φ' ((2 : Nat) : Int) 1 mw y' ∧ Step Φ Φ' W w' := fun A W Φ y h s => by
    refine (sg_do h s.out rfl hm1 (by omega) (by omega) (by omega)).mono ?_
    rintro e w' ⟨p, g, c, Φ', y', rfl, h1, h2, h3, h4, _, _⟩
    have := h4 (by omega)
    subst this
    exact ⟨p, c, Φ', y', rfl, h1, h2, h3⟩
  have D3 : ∀ A W Φ y, Pol W A Φ ((2 : Nat) : Int) 1 mw y → Hid (Sg 2 (mixB 1 7) mw 2 y) → Calls Try.prog 9 #[ptr A, evV 1 3 7 1] W fun e w' => ∃ p c Φ' y', e = .returned (.tuple #[.slice p 1 c, .int .i64 0]) ∧ Hid (Sg 2 (mixB 1 7) mw 3 y') ∧ Pol w' A Φ' ((2 : Nat) : Int) 1 mw y' ∧ Step Φ Φ' W w' ∧ Vec w' 3 1 p 1 c (idL [2]) ∧ ∀ k, In p k → ¬ Φ' k ∧ W.heap.size ≤ k := fun A W Φ y h s => by
    refine (sg_do h s.out rfl hm1 (by omega) (by omega) (by omega)).mono ?_
    rintro e w' ⟨p, g, c, Φ', y', rfl, h1, h2, h3, _, h4, h5⟩
    obtain ⟨rfl, h6⟩ := h4 (by omega)
    exact ⟨p, c, Φ', y', rfl, h1, h2, h3, h6, h5⟩
  have D4 : ∀ A W Φ y, Pol W A Φ ((2 : Nat) : Int) 1 mw y → Hid (Sg 2 (mixB 1 7) mw 3 y) → Calls Try.prog 9 #[ptr A, evV 1 4 7 3] W fun e w' => ∃ p c Φ', e = .returned (.tuple #[.slice p 0 c, .int .i64 4]) ∧ Pol w' A Φ' ((2 : Nat) : Int) 1 mw y ∧ Step Φ Φ' W w' := fun A W Φ y h s => heavy_q h s.out
  have RW : ∀ A W Φ y, Pol W A Φ ((2 : Nat) : Int) 1 mw y → Hid (Sg 2 (mixB 1 7) mw 2 y) → Calls Try.prog 10 #[ptr A, .int .i64 0] W fun e w' => ∃ p c, e = .returned (.slice p 1 c) ∧ Vec w' 3 1 p 1 c (idL [2]) ∧ Grown W w' ∧ ∀ x, In p x → W.heap.size ≤ x := fun A W Φ y h s => by
    refine (row_q h 0).mono ?_
    rintro e w' ⟨p, c, k, rfl, hk, hv, hg, hi⟩
    have e0 : y.t.rowI 0 = [(((2 : Nat) : Int), 1)] := s.out.L0
    rw [e0] at hk hv
    have hk : k = 1 := hk
    subst hk
    exact ⟨p, c, rfl, hv, hg, hi⟩
  have R1 : ∀ A W Φ y, Pol W A Φ ((2 : Nat) : Int) 1 mw y → Hid (Sg 2 (mixB 1 7) mw 3 y) → Calls Try.prog 10 #[ptr A, .int .i64 1] W fun e w' => ∃ p c, e = .returned (.slice p 1 c) ∧ Vec w' 3 1 p 1 c (idL [1]) ∧ Grown W w' := fun A W Φ y h s => by
    refine (row_q h 1).mono ?_
    rintro e w' ⟨p, c, k, rfl, hk, hv, hg, hi⟩
    have e0 : y.t.rowI 1 = [((1 : Int), 1)] := s.out.L1
    rw [e0] at hk hv
    have hk : k = 1 := hk
    subst hk
    exact ⟨p, c, rfl, hv, hg⟩
  have KY : ∀ A W Φ y, Pol W A Φ ((2 : Nat) : Int) 1 mw y → Hid (Sg 2 (mixB 1 7) mw 3 y) → Calls Try.prog 14 #[ptr A, .int .i64 3] W fun e w' => e = .returned (.tuple #[.int .i64 7, .bool true]) ∧ w' = W := fun A W Φ y h s => by
    have k3 : y.k 3 = some 7 := s.out.key 0 (((3 : Nat) : Int), 1) (by rw [s.out.L0]; simp)
    have := key_q h (id := 3) (wf_small ⟨by decide, by decide⟩)
    rw [k3] at this
    exact this
  have WT : ∀ A W Φ y, Pol W A Φ ((2 : Nat) : Int) 1 mw y → Hid (Sg 2 (mixB 1 7) mw 3 y) → Calls Try.prog 11 #[ptr A] W fun e w' => e = .returned (.int .i64 2) ∧ Grown W w' := fun A W Φ y h s => by
    have ht := s.out.tot (by omega)
    have := weight_q h (by rw [ht]; omega)
    rw [ht] at this
    exact this
  have OF : ∀ A W Φ y, Pol W A Φ ((2 : Nat) : Int) 1 mw y → Hid (Sg 2 (mixB 1 7) mw 3 y) → Calls Try.prog 15 #[ptr A, .int .i64 7] W fun e w' => e = .returned (.int .i64 3) ∧ Grown W w' := fun A W Φ y h s => by
    have := often_q h 7
    rw [s.out.oft (by omega)] at this
    exact this
  clear hw2 hmw hm1
  unfold ptr evV at *
  go_enter Try.func6, Try.ntmps6
  go_wp2_with (first | (go_at_call 7; refine NW.mono ?_; rintro e w1 ⟨A, Φ0, rfl, P0, g0, b0⟩) | (go_at_call 9; with_reducible refine (D1 _ _ _ _ P0 ST).mono ?_; rintro e w2 ⟨p1, c1, Φ1, y1, rfl, s1, P1, S1⟩; clear P0 D1) | (go_at_call 9; with_reducible refine (D2 _ _ _ _ P1 s1).mono ?_; rintro e w3 ⟨p2, c2, Φ2, y2, rfl, s2, P2, S2⟩; clear P1 D2) | (go_at_call 10; with_reducible refine (RW _ _ _ _ P2 s2).mono ?_; rintro e w4 ⟨p3, c3, rfl, v4, g4, i4⟩; have a4 : ∀ k, In p3 k → ¬ Φ2 k := (fun k hk hf => by have := P2.lt hf; have := i4 k hk; omega); have P4 := P2.grown g4; clear RW P2) | (go_at_call 9; with_reducible refine (D3 _ _ _ _ P4 s2).mono ?_; rintro e w5 ⟨p5, c5, Φ5, y5, rfl, s5, P5, S5, v5, i5⟩; have a5 := S5.apart (G := In p3) (fun k hk => v4.lt hk) a4; have u5 := v4.out S5.out a4; clear D3 P4 v4) | (go_at_call 9; with_reducible refine (D4 _ _ _ _ P5 s5).mono ?_; rintro e w6 ⟨p6, c6, Φ6, rfl, P6, S6⟩; have u6 := u5.out S6.out a5; have v6 := v5.out S6.out (fun k hk => (i5 k hk).1); clear D4 P5 u5 v5) | (go_at_call 14; with_reducible refine (KY _ _ _ _ P6 s5).mono ?_; rintro e w7 ⟨rfl, hw⟩; have hw := hw.symm; subst hw) | (go_at_call 13; with_reducible refine (ints_1 2 u6).mono ?_; rintro e w8 ⟨rfl, g8⟩; have v8 := v6.grown g8; have P8 := P6.grown g8; clear u6) | (go_at_call 13; with_reducible refine (ints_1 2 v8).mono ?_; rintro e w9 ⟨rfl, g9⟩; have P9 := P8.grown g9; clear v8) | (go_at_call 11; with_reducible refine (WT _ _ _ _ P9 s5).mono ?_; rintro e w10 ⟨rfl, g10⟩; have P10 := P9.grown g10) | (go_at_call 15; with_reducible refine (OF _ _ _ _ P10 s5).mono ?_; rintro e w11 ⟨rfl, g11⟩; have P11 := P10.grown g11) | (go_at_call 10; with_reducible refine (R1 _ _ _ _ P11 s5).mono ?_; rintro e w12 ⟨p12, c12, rfl, v12, g12⟩) | (go_at_call 13; with_reducible refine (ints_1 1 v12).mono ?_; rintro e w13 ⟨rfl, g13⟩))
  have k1 := S1.keeps g0 b0
  have k2 := S2.keeps k1.1 k1.2
  have k5 := S5.keeps (grownTrans k2.1 g4) k2.2
  have k6 := S6.keeps k5.1 k5.2
  have kk := grownTrans k6.1 (grownTrans (grownTrans g8 (grownTrans g9 g10)) (grownTrans g11 (grownTrans g12 g13)))
  go_ret
  exact ⟨rfl, kk⟩
end Go.Proofs.Ytlmcopenbeammaa.Po
