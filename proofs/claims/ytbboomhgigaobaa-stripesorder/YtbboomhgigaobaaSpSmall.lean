/-
  Stripes of one ring; a slice beside one that was written out; the small case of layer 13's statements. Condition: numbers of the lost up to a million.
-/
import Derived.Test.YtbboomhgigaobaaSpRefN
namespace Go.Proofs.Ytbboomhgigaobaa.Rn
open Go.RowKit Go.Deep
variable {W w w' w2 : World} {l m : List Ob} {i j k n s N : Nat} {X : Sp} {st : St} {q q' : List Int} {L L' : Int} {p p' : Option Addr} {c c' n' : Nat}

/-- A slice, and one that was written out. -/
theorem ints_lit (h : Apt W w l) (hi : l[i]? = some (obV p c q)) (cs : Array Value) (hn : cs.size = q.length) (hc : ∀ j, j < q.length → cs[j]? = some (ivL q j)) (hq : q.length ≤ 1000000) :
    Calls Try.prog 12 #[.slice p q.length c, .slice (some ⟨w.heap.size, 0, none⟩) q.length q.length] (w.alloc (.cells cs 3)) fun e w' => e = .returned (.bool true) ∧ Apt W w' l := by
  have g : Grown w (w.alloc (.cells cs 3)) := (Grown.refl _).alloc _ _
  have v : Vec (w.alloc (.cells cs 3)) 3 1 (some ⟨w.heap.size, 0, none⟩) q.length q.length (ivL q) := Vec.laid w 3 cs q.length 1 (by unfold maxLen; omega) (by omega) (ivL q) fun j hj => hc j (by omega)
  have h1 : Apt W _ (l ++ [obV (some ⟨w.heap.size, 0, none⟩) q.length q]) := h.add g v fun k hk => by
    have hk : In (some ⟨w.heap.size, 0, none⟩) k := hk
    rw [hk.eq]; exact Nat.le_refl _
  have hil : i < l.length := (List.getElem?_eq_some_iff.1 hi).1
  refine (ints_s h1 (p := p) (c := c) (q := q) (i := i) (j := l.length) (by rw [List.getElem?_append_left hil]; exact hi) (last_at _ _) hq).mono ?_
  rintro e w' ⟨rfl, h2⟩
  exact ⟨rfl, h2.front⟩
theorem one_at (h : Apt W w l) (hi : l[i]? = some (obSp X [(q, L)])) (t : Int) : X.k = 1 ∧ ofT X.seed X.k t = 0 := by
  obtain ⟨h1, h2, _⟩ := sp_head h hi
  have h1 : 1 = X.k := h1
  have := (ofT_lt X.seed t h2).1
  omega
theorem offer_1 (h : Apt W w l) (hi : l[i]? = some (obSp X [(q, L)])) (t n : Int) (hL : 0 ≤ L ∧ L ≤ 1000000) :
    Calls Try.prog 15 #[ptr X.S, .int .i64 t, .int .i64 n] w fun e w' => e = .returned (.bool (decide (q.length < X.N))) ∧ Apt W w' (l.set i (obSp X [(offQ X.N q n, offL X.N q L)])) := by
  have e := (one_at h hi t).2
  have := offer_p h hi t n (q := q) (L := L) (by rw [e]; rfl) hL
  rw [e] at this
  exact this
theorem drain_1 (h : Apt W w l) (hi : l[i]? = some (obSp X [(q, L)])) :
    Calls Try.prog 13 #[ptr X.S] w fun e w' => ∃ p c, e = .returned (.slice p q.length c) ∧ Apt W w' (l.set i (obSp X [([], L)]) ++ [obV p c q]) := by
  have := drain_p h hi
  have e : allN [(q, L)] = q := by simp [allN]
  rw [e] at this
  exact this
theorem small_s (w : World) : Calls Try.prog 7 #[] w fun e w' => e = .returned (.bool true) ∧ Grown w w' := by
  have e1 : ceilI 1 1 64 = ((1 : Nat) : Int) := by decide +kernel
  have e2 : ceilI 2 1 4096 = ((2 : Nat) : Int) := by decide +kernel
  have n0 := new_p (Apt.none (Grown.refl w)) 1 2 5 (by decide) (by decide) e1 (by decide) (by decide) e2
  have o1 : ∀ (X : Sp) w1, X.N = 2 → Apt w w1 [obSp X [([], 0)]] → Calls Try.prog 15 #[ptr X.S, .int .i64 3, .int .i64 7] w1 fun e w' => e = .returned (.bool true) ∧ Apt w w' [obSp X [([7], 0)]] := fun X w1 hN h => by
    have := offer_1 h (i := 0) rfl 3 7 (by decide)
    simp [offQ, offL, hN] at this
    exact this
  have o2 : ∀ (X : Sp) w1, X.N = 2 → Apt w w1 [obSp X [([7], 0)]] → Calls Try.prog 15 #[ptr X.S, .int .i64 4, .int .i64 8] w1 fun e w' => e = .returned (.bool true) ∧ Apt w w' [obSp X [([7, 8], 0)]] := fun X w1 hN h => by
    have := offer_1 h (i := 0) rfl 4 8 (by decide)
    simp [offQ, offL, hN] at this
    exact this
  have o3 : ∀ (X : Sp) w1, X.N = 2 → Apt w w1 [obSp X [([7, 8], 0)]] → Calls Try.prog 15 #[ptr X.S, .int .i64 3, .int .i64 9] w1 fun e w' => e = .returned (.bool false) ∧ Apt w w' [obSp X [([7, 8], 1)]] := fun X w1 hN h => by
    have := offer_1 h (i := 0) rfl 3 9 (by decide)
    simp [offQ, offL, hN] at this
    exact this
  have d1 : ∀ (X : Sp) w1, Apt w w1 [obSp X [([7, 8], 1)]] → Calls Try.prog 13 #[ptr X.S] w1 fun e w' => ∃ p c, e = .returned (.slice p 2 c) ∧ Apt w w' [obSp X [([], 1)], obV p c [7, 8]] := fun X w1 h => drain_1 h (i := 0) rfl
  have i1 : ∀ (X : Sp) p c w1, Apt w w1 [obSp X [([], 1)], obV p c [7, 8]] → Calls Try.prog 12 #[.slice p 2 c, .slice (some ⟨w1.heap.size, 0, none⟩) 2 2] (w1.alloc (.cells #[.int .i64 7, .int .i64 8] 3)) fun e w' => e = .returned (.bool true) ∧ Apt w w' [obSp X [([], 1)], obV p c [7, 8]] := fun X p c w1 h =>
    ints_lit h (p := p) (c := c) (i := 1) rfl _ rfl (fun j hj => by
      have hj : j < 2 := hj
      rcases j with _ | _ | j
      · rfl
      · rfl
      · omega) (by decide)
  have l1 : ∀ (X : Sp) p c w1, Apt w w1 [obSp X [([], 1)], obV p c [7, 8]] → Calls Try.prog 21 #[ptr X.S] w1 fun e w' => e = .returned (.int .i64 1) ∧ w' = w1 := fun X p c w1 h => lost_p h (i := 0) rfl (by decide)
  have l2 : ∀ (X : Sp) p c w1, Apt w w1 [obSp X [([], 1)], obV p c [7, 8]] → Calls Try.prog 19 #[ptr X.S] w1 fun e w' => e = .returned (.int .i64 0) ∧ w' = w1 := fun X p c w1 h => len_p h (i := 0) rfl
  have p1 : ∀ (X : Sp) p c w1, Apt w w1 [obSp X [([], 1)], obV p c [7, 8]] → Calls Try.prog 17 #[ptr X.S, .int .i64 9] w1 fun e w' => e = .returned (.int .i64 0) ∧ Apt w w' [obSp X [([], 1)], obV p c [7, 8]] := fun X p c w1 h => by
    refine (place_s h (i := 0) rfl 9).mono ?_
    rintro e w' ⟨rfl, m, rfl⟩
    refine ⟨by rw [(one_at h (i := 0) rfl 9).2]; rfl, h.drewN m⟩
  have l3 : ∀ (X : Sp) p c w1, Apt w w1 [obSp X [([], 1)], obV p c [7, 8]] → Calls Try.prog 23 #[ptr X.S] w1 fun e w' => ∃ p2 c2, e = .returned (.slice p2 1 c2) ∧ Apt w w' [obSp X [([], 1)], obV p c [7, 8], obV p2 c2 [0]] := fun X p c w1 h => by
    have e := (one_at h (i := 0) rfl 9).1
    refine (lens_p h (i := 0) rfl).mono ?_
    rintro e w' ⟨p2, c2, rfl, _, h2⟩
    exact ⟨p2, c2, by rw [e], h2⟩
  have i2 : ∀ (X : Sp) p c p2 c2 w1, Apt w w1 [obSp X [([], 1)], obV p c [7, 8], obV p2 c2 [0]] → Calls Try.prog 12 #[.slice p2 1 c2, .slice (some ⟨w1.heap.size, 0, none⟩) 1 1] (w1.alloc (.cells #[.int .i64 0] 3)) fun e w' => e = .returned (.bool true) ∧ Apt w w' [obSp X [([], 1)], obV p c [7, 8], obV p2 c2 [0]] := fun X p c p2 c2 w1 h =>
    ints_lit h (p := p2) (c := c2) (i := 2) rfl _ rfl (fun j hj => by
      have hj : j < 1 := hj
      rcases j with _ | j
      · rfl
      · omega) (by decide)
  clear e1 e2
  unfold ptr at *
  go_enter Try.func7, Try.ntmps7
  go_wp2_with (first
    | (go_at_call 8; refine n0.mono ?_; rintro e w1 ⟨X, rfl, _, hN, _, h1⟩; clear n0; have hN : Hid (X.N = 2) := hN; have h1 : Hid (Apt w w1 [obSp X [([], 0)]]) := h1)
    | (go_at_call 15; refine (o1 _ _ hN.out h1.out).mono ?_; rintro e w2 ⟨rfl, h2⟩; clear o1 h1; have h2 : Hid (Apt w w2 [obSp X [([7], 0)]]) := h2)
    | (go_at_call 15; refine (o2 _ _ hN.out h2.out).mono ?_; rintro e w3 ⟨rfl, h3⟩; clear o2 h2; have h3 : Hid (Apt w w3 [obSp X [([7, 8], 0)]]) := h3)
    | (go_at_call 15; refine (o3 _ _ hN.out h3.out).mono ?_; rintro e w4 ⟨rfl, h4⟩; clear o3 h3; have h4 : Hid (Apt w w4 [obSp X [([7, 8], 1)]]) := h4)
    | (go_at_call 13; refine (d1 _ _ h4.out).mono ?_; rintro e w5 ⟨p, c, rfl, h5⟩; clear d1 h4; have h5 : Hid (Apt w w5 [obSp X [([], 1)], obV p c [7, 8]]) := h5)
    | (go_at_call 12; refine (i1 _ _ _ _ h5.out).mono ?_; rintro e w6 ⟨rfl, h6⟩; clear i1 h5; have h6 : Hid (Apt w w6 [obSp X [([], 1)], obV p c [7, 8]]) := h6)
    | (go_at_call 21; refine (l1 _ _ _ _ h6.out).mono ?_; rintro e w' ⟨rfl, hw⟩; have hw := hw.symm; subst hw)
    | (go_at_call 19; refine (l2 _ _ _ _ h6.out).mono ?_; rintro e w' ⟨rfl, hw⟩; have hw := hw.symm; subst hw)
    | (go_at_call 17; refine (p1 _ _ _ _ h6.out).mono ?_; rintro e w7 ⟨rfl, h7⟩; clear p1 h6; have h7 : Hid (Apt w w7 [obSp X [([], 1)], obV p c [7, 8]]) := h7)
    | (go_at_call 23; refine (l3 _ _ _ _ h7.out).mono ?_; rintro e w8 ⟨p2, c2, rfl, h8⟩; clear l3 h7; have h8 : Hid (Apt w w8 [obSp X [([], 1)], obV p c [7, 8], obV p2 c2 [0]]) := h8)
    | (go_at_call 12; refine (i2 _ _ _ _ _ _ h8.out).mono ?_; rintro e w9 ⟨rfl, h9⟩; clear i2 h8; have h9 : Hid (Apt w w9 [obSp X [([], 1)], obV p c [7, 8], obV p2 c2 [0]]) := h9))
  go_ret
  exact ⟨rfl, h9.out.grown⟩
end Go.Proofs.Ytbboomhgigaobaa.Rn
