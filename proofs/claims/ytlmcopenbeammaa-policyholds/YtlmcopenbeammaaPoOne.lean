/-
  A policy, and slices beside it, each in a block of its own. No condition but those told at each sentence.
-/
import Derived.Test.YtlmcopenbeammaaPoInv
import Derived.Test.YtlmcopenbeammaaGenArgs
namespace Go.Proofs.Ytlmcopenbeammaa.Po
open Go.RowKit Go.Deep Cm

def numv (p : Option Addr) (n c : Nat) (l : List Int) : Vd := ⟨3, 1, p, n, c, idL l⟩
/-- An event in a block of its own. -/
def box (b : Nat) (d n k v : Int) : Vd := ⟨28, 4, some ⟨b, 0, none⟩, 1, 1, fun j => .int .i64 (if j = 0 then d else if j = 1 then n else if j = 2 then k else v)⟩
theorem box_new {w : World} {b : Nat} {d n k v : Int} (h : EvB w b d n k v) : (box b d n k v).On w :=
  .inr ⟨b, _, rfl, h, Nat.le_refl _, (by decide : (1 : Nat) ≤ maxLen), rfl, fun j hj => by
    have hj : j < 4 := hj
    rcases j with _ | _ | _ | _ | j
    · rfl
    · rfl
    · rfl
    · rfl
    · omega⟩
theorem box_cells {w : World} {b : Nat} {d n k v : Int} (h : (box b d n k v).On w) : w.cell? ⟨b, 0, none⟩ = some (.int .i64 d) ∧ w.cell? ⟨b, 1, none⟩ = some (.int .i64 n) ∧ w.cell? ⟨b, 3, none⟩ = some (.int .i64 v) ∧ w.rangeAt b 0 [.int .i64 d, .int .i64 n, .int .i64 k, .int .i64 v] := by
  obtain ⟨b', e, _, hc, _⟩ := Vec.opens h (Nat.lt_succ_self 0)
  cases e
  have h0 := hc 0 (show 0 < 1 * 4 by decide)
  have h1 := hc 1 (show 1 < 1 * 4 by decide)
  have h2 := hc 2 (show 2 < 1 * 4 by decide)
  have h3 := hc 3 (show 3 < 1 * 4 by decide)
  refine ⟨h0, h1, h3, fun j x hx => ?_⟩
  have hj : j < 4 := by have := (List.getElem?_eq_some_iff.1 hx).1; simpa using this
  rw [Nat.zero_add]
  rcases j with _ | _ | _ | _ | j
  · rw [h0]; cases hx; rfl
  · rw [h1]; cases hx; rfl
  · rw [h2]; cases hx; rfl
  · rw [h3]; cases hx; rfl
  · omega
structure One (W w : World) (A : Nat) (C seed : Int) (mw : Nat) (y : Ps) (vs : List Vd) : Prop where
  ex : ∃ Φ : Nat → Prop, Pol w A Φ C seed mw y ∧ Grown W w ∧ (∀ k, Φ k → W.heap.size ≤ k) ∧ ∀ V ∈ vs, V.On w ∧ ∀ k, In V.p k → ¬ Φ k ∧ W.heap.size ≤ k
  ap : vs.Pairwise fun U V : Vd => ∀ k, In U.p k → ¬ In V.p k
variable {W w w' : World} {A : Nat} {C seed : Int} {mw : Nat} {y : Ps} {vs l1 l2 : List Vd}
namespace One
theorem old (h : One W w A C seed mw y vs) : Grown W w := by obtain ⟨Φ, _, h, _⟩ := h.ex; exact h
theorem on (h : One W w A C seed mw y vs) {V : Vd} (hV : V ∈ vs) : V.On w := by obtain ⟨Φ, _, _, _, h⟩ := h.ex; exact (h V hV).1
theorem less (h : One W w A C seed mw y vs) {us : List Vd} (hs : us.Sublist vs) : One W w A C seed mw y us := by
  obtain ⟨Φ, h1, h2, h3, h4⟩ := h.ex
  exact ⟨⟨Φ, h1, h2, h3, fun V hV => h4 V (hs.subset hV)⟩, h.ap.sublist hs⟩
theorem grown (h : One W w A C seed mw y vs) (g : Grown w w') : One W w' A C seed mw y vs := by
  obtain ⟨Φ, h1, h2, h3, h4⟩ := h.ex
  exact ⟨⟨Φ, h1.grown g, grownTrans h2 g, h3, fun V hV => ⟨Vec.grown (h4 V hV).1 g, (h4 V hV).2⟩⟩, h.ap⟩
/-- A new slice beside the others. -/
theorem add (h : One W w A C seed mw y vs) {V : Vd} (g : Grown w w') (hV : V.On w') (hn : ∀ k, In V.p k → w.heap.size ≤ k) : One W w' A C seed mw y (V :: vs) := by
  have h' := h.grown g
  obtain ⟨Φ, h1, h2, h3, h4⟩ := h.ex
  refine ⟨⟨Φ, h1.grown g, grownTrans h2 g, h3, fun U hU => ?_⟩, List.pairwise_cons.2 ⟨fun U hU k hk hu => ?_, h.ap⟩⟩
  · rcases List.mem_cons.1 hU with rfl | hU
    · exact ⟨hV, fun k hk => ⟨fun hf => by have := h1.lt hf; have := hn k hk; omega, Nat.le_trans h2.2.2 (hn k hk)⟩⟩
    · exact ⟨Vec.grown (h4 U hU).1 g, (h4 U hU).2⟩
  · have := Vec.lt (h4 U hU).1 hu
    have := hn k hk
    omega
/-- A slice is written to, or another one takes its place. -/
theorem write {V V' : Vd} (h : One W w A C seed mw y (l1 ++ V :: l2)) (o : Out (In V.p) w w') (hV' : V'.On w') (hp : V'.p = V.p ∨ ∀ k, In V'.p k → w.heap.size ≤ k) : One W w' A C seed mw y (l1 ++ V' :: l2) := by
  obtain ⟨Φ, h1, h2, h3, h4⟩ := h.ex
  obtain ⟨a1, a2, a3⟩ := List.pairwise_append.1 h.ap
  obtain ⟨a4, a5⟩ := List.pairwise_cons.1 a2
  have hVm : V ∈ l1 ++ V :: l2 := List.mem_append_right _ (List.mem_cons_self ..)
  obtain ⟨v1, v2⟩ := h4 V hVm
  have hin : ∀ U, U ∈ l1 ∨ U ∈ l2 → U ∈ l1 ++ V :: l2 := fun U hU => by
    rcases hU with hU | hU
    · exact List.mem_append_left _ hU
    · exact List.mem_append_right _ (List.mem_cons_of_mem _ hU)
  have hd : ∀ U, U ∈ l1 ∨ U ∈ l2 → ∀ k, In U.p k → ¬ In V.p k := fun U hU => by
    rcases hU with hU | hU
    · exact a3 U hU V (List.mem_cons_self ..)
    · exact fun k hk hv => a4 U hU k hv hk
  have hd' : ∀ U, U ∈ l1 ∨ U ∈ l2 → ∀ k, In U.p k → ¬ In V'.p k := fun U hU k hk hv => by
    rcases hp with e | e
    · rw [e] at hv; exact hd U hU k hk hv
    · have := Vec.lt (h4 U (hin U hU)).1 hk
      have := e k hv
      omega
  refine ⟨⟨Φ, h1.out o (fun k hk hv => (v2 k hv).1 hk), o.grown h2 (fun k hk => (v2 k hk).2), h3, fun U hU => ?_⟩, ?_⟩
  · have hc : U = V' ∨ U ∈ l1 ∨ U ∈ l2 := by
      rcases List.mem_append.1 hU with q | q
      · exact .inr (.inl q)
      · rcases List.mem_cons.1 q with q | q
        · exact .inl q
        · exact .inr (.inr q)
    rcases hc with rfl | hc
    · refine ⟨hV', fun k hk => ?_⟩
      rcases hp with e | e
      · rw [e] at hk; exact v2 k hk
      · have := e k hk
        exact ⟨fun hf => by have := h1.lt hf; omega, Nat.le_trans h2.2.2 this⟩
    · exact ⟨Vec.out (h4 U (hin U hc)).1 o (hd U hc), (h4 U (hin U hc)).2⟩
  · refine List.pairwise_append.2 ⟨a1, List.pairwise_cons.2 ⟨fun U hU k hk hu => hd' U (.inr hU) k hu hk, a5⟩, fun U hU X hX => ?_⟩
    rcases List.mem_cons.1 hX with rfl | hX
    · exact hd' U (.inl hU)
    · exact a3 U hU X (List.mem_cons_of_mem _ hX)
/-- .. by an append of one number. -/
theorem appended {p p' : Option Addr} {n c c' : Nat} {L : List Int} {v : Int} (h : One W w A C seed mw y (l1 ++ numv p n c L :: l2)) (hn : n = L.length)
    (hv : Vec w' 3 1 p' (n + 1) c' (fun j => if j < n * 1 then idL L j else .int .i64 v)) (o : Out (In p) (w.alloc (.cells #[.int .i64 v] 3)) w') (hp : p' = p ∨ p' = some ⟨(w.alloc (.cells #[.int .i64 v] 3)).heap.size, 0, none⟩) :
    One W w' A C seed mw y (l1 ++ numv p' (n + 1) c' (L ++ [v]) :: l2) := by
  have g1 : Grown w (w.alloc (.cells #[.int .i64 v] 3)) := (Grown.refl _).alloc _ _
  refine h.write (V := numv p n c L) (V' := numv p' (n + 1) c' (L ++ [v])) (Out.after g1 o) ?_ ?_
  · show Vec w' 3 1 p' (n + 1) c' (idL (L ++ [v]))
    refine hv.congr fun j hj => ?_
    have hj : j < n + 1 := by omega
    unfold idL
    rw [List.getD_eq_getElem?_getD, List.getD_eq_getElem?_getD]
    by_cases q : j < n
    · rw [if_pos (by omega), List.getElem?_append_left (by omega)]
    · obtain rfl : j = n := by omega
      rw [if_neg (by omega), hn, List.getElem?_append_right (Nat.le_refl _)]
      simp
  · rcases hp with e | e
    · exact .inl e
    · refine .inr fun k hk => ?_
      have hk : In p' k := hk
      rw [e] at hk
      have := hk.eq
      have := g1.2.2
      omega
theorem vec (h : One W w A C seed mw y vs) {p : Option Addr} {n c : Nat} {L : List Int} (hV : numv p n c L ∈ vs) : Vec w 3 1 p n c (idL L) := h.on hV
end One
theorem do_one (h : One W w A C seed mw y vs) (hf : Fine C y) (ha : 0 ≤ y.f.a ∧ y.f.a ≤ 2305843009213693952) (d n k v : Int) (hid : (Lit.int .i64 n).wf = true) :
    Calls Try.prog 9 #[ptr A, evV d n k v] w fun e w' => ∃ p g c, e = .returned (.tuple #[.slice p g c, .int .i64 (refE y C d n v)]) ∧ g = (y.ev C seed mw d n k v).2.length ∧ One W w' A C seed mw (y.ev C seed mw d n k v).1 (numv p g c (y.ev C seed mw d n k v).2 :: vs) := by
  have hap := h.ap
  obtain ⟨Φ, h1, h2, h3, h4⟩ := h.ex
  refine (do_q h1 hf ha d n k v hid).mono ?_
  rintro e w' ⟨p, g, c, Φ', rfl, hg, hv, hp, hs, hi⟩
  refine ⟨p, g, c, rfl, hg, ⟨Φ', hp, (hs.keeps h2 h3).1, (hs.keeps h2 h3).2, fun U hU => ?_⟩, List.pairwise_cons.2 ⟨fun U hU k hk hu => ?_, hap⟩⟩
  · rcases List.mem_cons.1 hU with rfl | hU
    · exact ⟨hv, fun k hk => ⟨(hi k hk).1, Nat.le_trans h2.2.2 (hi k hk).2⟩⟩
    · obtain ⟨u1, u2⟩ := h4 U hU
      exact ⟨Vec.out u1 hs.out fun k hk => (u2 k hk).1, fun k hk => ⟨hs.apart (G := In U.p) (fun k hk => Vec.lt u1 hk) (fun k hk => (u2 k hk).1) k hk, (u2 k hk).2⟩⟩
  · have := Vec.lt (h4 U hU).1 hu
    have := (hi k hk).2
    omega
theorem row_one (h : One W w A C seed mw y vs) (row : Nat) : Calls Try.prog 10 #[ptr A, .int .i64 row] w fun e w' => ∃ p c k, e = .returned (.slice p k c) ∧ k = ((y.t.L row).map (·.1)).length ∧ One W w' A C seed mw y (numv p k c ((y.t.L row).map (·.1)) :: vs) := by
  have h' := h
  obtain ⟨Φ, h1, _⟩ := h.ex
  refine (row_q h1 (row : Int)).mono ?_
  rintro e w' ⟨p, c, k, rfl, hk, hv, hg, hi⟩
  rw [rowI_nat] at hk hv
  exact ⟨p, c, k, rfl, by rw [List.length_map]; exact hk, h'.add (V := numv p k c ((y.t.L row).map fun q : Int × Int => q.1)) hg hv hi⟩
theorem weight_one (h : One W w A C seed mw y vs) (ht : y.t.tot 3 ≤ 9223372036854775807) : Calls Try.prog 11 #[ptr A] w fun e w' => e = .returned (.int .i64 (y.t.tot 3)) ∧ One W w' A C seed mw y vs := by
  have h' := h
  obtain ⟨Φ, h1, _⟩ := h.ex
  exact (weight_q h1 ht).mono fun e w' ⟨e1, g⟩ => ⟨e1, h'.grown g⟩
theorem new_one (cap seed : Int) (W w : World) (g : Grown W w) :
    Calls Try.prog 7 #[.int .i64 cap, .int .i64 seed] w fun e w' => ∃ A, e = .returned (ptr A) ∧ One W w' A (wh cap) seed (mwid cap) (Ps.zero (wh cap)) [] := by
  refine (new_p cap seed w).mono ?_
  rintro e w' ⟨A, Φ, rfl, hP, hg, hn⟩
  exact ⟨A, rfl, ⟨Φ, hP, grownTrans g hg, fun k hk => Nat.le_trans g.2.2 (hn k hk), fun V hV => absurd hV List.not_mem_nil⟩, List.Pairwise.nil⟩
end Go.Proofs.Ytlmcopenbeammaa.Po
