/-
  Two policies, and slices that were told of them, all made since one world. No condition but those told at each sentence.
-/
import Derived.Test.YtlmcopenbeammaaGreatPoPlay
import Derived.Test.YtlmcopenbeammaaGreatGenArgs
namespace Go.Proofs.YtlmcopenbeammaaGreat.Po
open Go.RowKit Go.Deep Cm

def nums (p : Option Addr) (n c : Nat) (l : List Int) : Vd := ⟨3, 1, p, n, c, idL l⟩
structure Two (W w : World) (A B : Nat) (C seed : Int) (mw : Nat) (y x : Ps) (vs : List Vd) : Prop where
  ex : ∃ Φ Ψ : Nat → Prop, Pol w A Φ C seed mw y ∧ Pol w B Ψ C seed mw x ∧ Grown W w ∧ (∀ k, Φ k → W.heap.size ≤ k) ∧ (∀ k, Ψ k → W.heap.size ≤ k) ∧ (∀ k, Φ k → ¬ Ψ k) ∧ ∀ V ∈ vs, V.On w ∧ ∀ k, In V.p k → ¬ Φ k ∧ ¬ Ψ k ∧ W.heap.size ≤ k
variable {W w w' : World} {A B : Nat} {C seed : Int} {mw : Nat} {y x : Ps} {vs : List Vd}
namespace Two
theorem old (h : Two W w A B C seed mw y x vs) : Grown W w := by obtain ⟨Φ, Ψ, _, _, h, _⟩ := h.ex; exact h
theorem on (h : Two W w A B C seed mw y x vs) {V : Vd} (hV : V ∈ vs) : V.On w := by obtain ⟨Φ, Ψ, _, _, _, _, _, _, h⟩ := h.ex; exact (h V hV).1
theorem less (h : Two W w A B C seed mw y x vs) {us : List Vd} (hs : ∀ V ∈ us, V ∈ vs) : Two W w A B C seed mw y x us := by
  obtain ⟨Φ, Ψ, h1, h2, h3, h4, h5, h6, h7⟩ := h.ex
  exact ⟨Φ, Ψ, h1, h2, h3, h4, h5, h6, fun V hV => h7 V (hs V hV)⟩
theorem grown (h : Two W w A B C seed mw y x vs) (g : Grown w w') : Two W w' A B C seed mw y x vs := by
  obtain ⟨Φ, Ψ, h1, h2, h3, h4, h5, h6, h7⟩ := h.ex
  exact ⟨Φ, Ψ, h1.grown g, h2.grown g, grownTrans h3 g, h4, h5, h6, fun V hV => ⟨Vec.grown (h7 V hV).1 g, (h7 V hV).2⟩⟩
theorem swap (h : Two W w A B C seed mw y x vs) : Two W w B A C seed mw x y vs := by
  obtain ⟨Φ, Ψ, h1, h2, h3, h4, h5, h6, h7⟩ := h.ex
  exact ⟨Ψ, Φ, h2, h1, h3, h5, h4, fun k a b => h6 k b a, fun V hV => ⟨(h7 V hV).1, fun k hk => ⟨((h7 V hV).2 k hk).2.1, ((h7 V hV).2 k hk).1, ((h7 V hV).2 k hk).2.2⟩⟩⟩
/-- A new slice beside the others. -/
theorem add (h : Two W w A B C seed mw y x vs) {V : Vd} (g : Grown w w') (hV : V.On w') (hn : ∀ k, In V.p k → w.heap.size ≤ k) : Two W w' A B C seed mw y x (V :: vs) := by
  have h' := h.grown g
  obtain ⟨Φ, Ψ, h1, h2, h3, h4, h5, h6, h7⟩ := h.ex
  refine ⟨Φ, Ψ, h1.grown g, h2.grown g, grownTrans h3 g, h4, h5, h6, fun U hU => ?_⟩
  rcases List.mem_cons.1 hU with rfl | hU
  · exact ⟨hV, fun k hk => ⟨fun hf => by have := h1.lt hf; have := hn k hk; omega, fun hf => by have := h2.lt hf; have := hn k hk; omega, Nat.le_trans h3.2.2 (hn k hk)⟩⟩
  · exact ⟨Vec.grown (h7 U hU).1 g, (h7 U hU).2⟩
end Two
theorem two_step {Φ Ψ Φ' : Nat → Prop} {y' : Ps} (h2 : Pol w B Ψ C seed mw x) (h3 : Grown W w) (h4 : ∀ k, Φ k → W.heap.size ≤ k) (h5 : ∀ k, Ψ k → W.heap.size ≤ k) (h6 : ∀ k, Φ k → ¬ Ψ k) (h7 : ∀ V ∈ vs, V.On w ∧ ∀ k, In V.p k → ¬ Φ k ∧ ¬ Ψ k ∧ W.heap.size ≤ k)
    (hp : Pol w' A Φ' C seed mw y') (hs : Step Φ Φ' w w') {V : Vd} (hV : V.On w') (hn : ∀ i, In V.p i → ¬ Φ' i ∧ w.heap.size ≤ i) : Two W w' A B C seed mw y' x (V :: vs) := by
  have ap := hs.apart (G := Ψ) (fun k hk => h2.lt hk) (fun k hk hf => h6 k hf hk)
  refine ⟨Φ', Ψ, hp, h2.out hs.out (fun k hk hf => h6 k hf hk), (hs.keeps h3 h4).1, (hs.keeps h3 h4).2, h5, fun k a b => ap k b a, fun U hU => ?_⟩
  rcases List.mem_cons.1 hU with rfl | hU
  · exact ⟨hV, fun k hk => ⟨(hn k hk).1, fun hf => by have := h2.lt hf; have := (hn k hk).2; omega, Nat.le_trans h3.2.2 (hn k hk).2⟩⟩
  · obtain ⟨u1, u2⟩ := h7 U hU
    exact ⟨Vec.out u1 hs.out fun k hk => (u2 k hk).1, fun k hk => ⟨hs.apart (G := In U.p) (fun k hk => Vec.lt u1 hk) (fun k hk => (u2 k hk).1) k hk, (u2 k hk).2⟩⟩
theorem do_two (h : Two W w A B C seed mw y x vs) (hf : Fine C y) (ha : 0 ≤ y.f.a ∧ y.f.a ≤ 2305843009213693952) (d n k v : Int) (hid : (Lit.int .i64 n).wf = true) :
    Calls Tryz.prog 9 #[ptr A, evV d n k v] w fun e w' => ∃ p g c, e = .returned (.tuple #[.slice p g c, .int .i64 (refE y C d n v)]) ∧ g = (y.ev C seed mw d n k v).2.length ∧ Two W w' A B C seed mw (y.ev C seed mw d n k v).1 x (nums p g c (y.ev C seed mw d n k v).2 :: vs) := by
  obtain ⟨Φ, Ψ, h1, h2, h3, h4, h5, h6, h7⟩ := h.ex
  refine (do_q h1 hf ha d n k v hid).mono ?_
  rintro e w' ⟨p, g, c, Φ', rfl, hg, hv, hp, hs, hi⟩
  exact ⟨p, g, c, rfl, hg, two_step h2 h3 h4 h5 h6 h7 hp hs hv hi⟩
theorem evs_in {a : Option Addr} {len cap : Nat} {z : Nat → Nat → Int} {Φ : Nat → Prop} {w0 : World} (hg : IsGrid .i64 4 w0 a len cap z) (g : Grown w0 w) (hb : ∀ k, Φ k → w0.heap.size ≤ k) (hl : ∀ k, Φ k → k < w.heap.size) : ∃ b, Evs w a len z b ∧ ¬ Φ b := by
  by_cases h0 : len = 0
  · exact ⟨w.heap.size, .inl h0, fun h => Nat.lt_irrefl _ (hl _ h)⟩
  · rcases grid_open (by decide) hg with h | ⟨b, off, rfl, hbl, hc⟩
    · exact absurd h h0
    · refine ⟨b, .inr ⟨off, rfl, Nat.lt_of_lt_of_le hbl g.2.2, fun i hi => ⟨fun j hj => ?_, ?_⟩⟩, fun h => by have := hb b h; omega⟩
      · rw [cell_same (grown_block g hbl)]; exact hc i hi j hj
      · rcases hg with ⟨h, _⟩ | ⟨x, _, _, _, hq⟩
        · cases h
        · exact (hq i hi 1 (by decide)).2
theorem play_two (h : Two W w A B C seed mw y x vs) (hf : Fine C y) (ha : 0 ≤ y.f.a ∧ y.f.a ≤ 1152921504606846976) {w0 : World} {a : Option Addr} {len cap : Nat} {z : Nat → Nat → Int} (hz : IsGrid .i64 4 w0 a len cap z) (g0 : Grown w0 W) (hl : len ≤ 100000) :
    Calls Tryz.prog 8 #[ptr A, .slice a len cap] w fun e w' => ∃ p g c, e = .returned (.slice p g c) ∧ g = (pl C seed mw z y len).2.length ∧ Two W w' A B C seed mw (pl C seed mw z y len).1 x (nums p g c (pl C seed mw z y len).2 :: vs) := by
  obtain ⟨Φ, Ψ, h1, h2, h3, h4, h5, h6, h7⟩ := h.ex
  obtain ⟨b, hb1, hb2⟩ := evs_in hz (grownTrans g0 h3) (fun k hk => Nat.le_trans g0.2.2 (h4 k hk)) (fun k hk => h1.lt hk)
  refine (play_q h1 hf ha a len cap b z hb1 hb2 hl).mono ?_
  rintro e w' ⟨p, g, c, Φ', rfl, hg, hv, hp, hs, hi⟩
  exact ⟨p, g, c, rfl, hg, two_step h2 h3 h4 h5 h6 h7 hp hs hv hi⟩
theorem row_two (h : Two W w A B C seed mw y x vs) (row : Int) : Calls Tryz.prog 11 #[ptr A, .int .i64 row] w fun e w' => ∃ p c k, e = .returned (.slice p k c) ∧ k = (y.t.rowI row).length ∧ Two W w' A B C seed mw y x (nums p k c ((y.t.rowI row).map (·.1)) :: vs) := by
  have h' := h
  obtain ⟨Φ, Ψ, h1, h2, h3, h4, h5, h6, h7⟩ := h.ex
  refine (row_q h1 row).mono ?_
  rintro e w' ⟨p, c, k, rfl, hk, hv, hg, hi⟩
  exact ⟨p, c, k, rfl, hk, h'.add (V := nums p k c ((y.t.rowI row).map fun q : Int × Int => q.1)) hg hv hi⟩
theorem weight_two (h : Two W w A B C seed mw y x vs) (ht : y.t.tot 3 ≤ 9223372036854775807) : Calls Tryz.prog 12 #[ptr A] w fun e w' => e = .returned (.int .i64 (y.t.tot 3)) ∧ Two W w' A B C seed mw y x vs := by
  have h' := h
  obtain ⟨Φ, Ψ, h1, _⟩ := h.ex
  exact (weight_q h1 ht).mono fun e w' ⟨e1, g⟩ => ⟨e1, h'.grown g⟩
theorem often_two (h : Two W w A B C seed mw y x vs) (key : Int) : Calls Tryz.prog 16 #[ptr A, .int .i64 key] w fun e w' => e = .returned (.int .i64 (y.f.oft (mixB seed key) mw)) ∧ Two W w' A B C seed mw y x vs := by
  have h' := h
  obtain ⟨Φ, Ψ, h1, _⟩ := h.ex
  exact (often_q h1 key).mono fun e w' ⟨e1, g⟩ => ⟨e1, h'.grown g⟩
theorem new_two (cap seed : Int) (W w : World) (g : Grown W w) {A : Nat} {Φ : Nat → Prop} (h : Pol w A Φ (wh cap) seed (mwid cap) (Ps.zero (wh cap))) (hb : ∀ k, Φ k → W.heap.size ≤ k) :
    Calls Tryz.prog 7 #[.int .i64 cap, .int .i64 seed] w fun e w' => ∃ B, e = .returned (ptr B) ∧ Two W w' A B (wh cap) seed (mwid cap) (Ps.zero (wh cap)) (Ps.zero (wh cap)) [] := by
  refine (new_p cap seed w).mono ?_
  rintro e w' ⟨B, Ψ, rfl, hP, hg, hn⟩
  exact ⟨B, rfl, Φ, Ψ, h.grown hg, hP, grownTrans g hg, hb, fun k hk => Nat.le_trans g.2.2 (hn k hk), fun k a b => by have := h.lt a; have := hn k b; omega, fun V hV => absurd hV List.not_mem_nil⟩
theorem ints_two (h : Two W w A B C seed mw y x vs) {p q : Option Addr} {n c d : Nat} {l : List Int} (hp : nums p n c l ∈ vs) (hq : nums q n d l ∈ vs) (hn : n ≤ 1000000) :
    Calls Tryz.prog 10 #[.slice p n c, .slice q n d] w fun e w' => e = .returned (.bool true) ∧ Two W w' A B C seed mw y x vs :=
  (ints_l (l := l) (show Vec w 3 1 p n c (idL l) from h.on hp) (show Vec w 3 1 q n d (idL l) from h.on hq) hn).mono fun _ _ ⟨a, m, b⟩ => ⟨a, by rw [b]; exact h.grown (grownDrewN (Grown.refl _) m)⟩
theorem zero_age (C : Int) : (Ps.zero C).f.a = 0 := rfl
end Go.Proofs.YtlmcopenbeammaaGreat.Po
