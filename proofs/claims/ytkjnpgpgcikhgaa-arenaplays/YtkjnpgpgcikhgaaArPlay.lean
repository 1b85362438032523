/-
  An arena and the document's own, side by side in new memory: what each call leaves of both.
-/
import Derived.Test.YtkjnpgpgcikhgaaArLaws
import Derived.Test.YtkjnpgpgcikhgaaArAll
namespace Go.Proofs.Ytkjnpgpgcikhgaa
open Go.RowKit Go.Deep

/-- An arena in the state t and the document's in the state u, apart, both made since W; of what W held nothing has turned, nor of the blocks of K, which lie as in V. -/
def Two (W : World) (K : Nat → Prop) (V w : World) (A R : Nat) (t u : As) : Prop := ∃ F G, Are w A F t ∧ Rfe w R G u ∧ (∀ k, F k → ¬ G k) ∧ Grown W w ∧ (∀ k, F k → W.heap.size ≤ k) ∧ (∀ k, G k → W.heap.size ≤ k) ∧ (∀ k, K k → k < w.heap.size ∧ ¬ F k ∧ ¬ G k ∧ w.heap[k]? = V.heap[k]?)
variable {W V w w' : World} {K : Nat → Prop} {A R : Nat} {t u : As}
namespace Two
theorem wf (h : Two W K V w A R t u) : t.Wf := by obtain ⟨F, G, h, _⟩ := h; exact h.wf
theorem old (h : Two W K V w A R t u) : Grown W w := by obtain ⟨F, G, _, _, _, h, _⟩ := h; exact h
theorem kept (h : Two W K V w A R t u) {k : Nat} (hk : K k) : w.heap[k]? = V.heap[k]? := by obtain ⟨F, G, _, _, _, _, _, _, h⟩ := h; exact (h k hk).2.2.2
theorem grown (h : Two W K V w A R t u) (g : Grown w w') : Two W K V w' A R t u := by
  obtain ⟨F, G, h1, h2, h3, h4, h5, h6, h7⟩ := h
  exact ⟨F, G, h1.grown g, h2.grown g, h3, grownTrans h4 g, h5, h6, fun k hk => ⟨Nat.lt_of_lt_of_le (h7 k hk).1 g.2.2, (h7 k hk).2.1, (h7 k hk).2.2.1, (grown_block g (h7 k hk).1).trans (h7 k hk).2.2.2⟩⟩
theorem drewN (h : Two W K V w A R t u) (d : Nat) : Two W K V (w.drewN d) A R t u := h.grown (grownDrewN (Grown.refl _) d)
theorem drew (h : Two W K V w A R t u) : Two W K V w.drew A R t u := h.grown (Grown.refl _).drew
/-- Blocks that were laid just now are kept. -/
theorem begin (h : Two W K V w A R t u) (g : Grown w w') : Two W (fun k => w.heap.size ≤ k ∧ k < w'.heap.size) w' w' A R t u := by
  obtain ⟨F, G, h1, h2, h3, h4, h5, h6, h7⟩ := h
  exact ⟨F, G, h1.grown g, h2.grown g, h3, grownTrans h4 g, h5, h6, fun k hk => ⟨hk.2, fun hf => by have := h1.lt hf; omega, fun hg => by have := h2.lt hg; omega, rfl⟩⟩
theorem bare (h : Two W K V w A R t u) : Two W (fun _ => False) W w A R t u := by
  obtain ⟨F, G, h1, h2, h3, h4, h5, h6, h7⟩ := h
  exact ⟨F, G, h1, h2, h3, h4, h5, h6, fun _ h => h.elim⟩
theorem stepA {F F' G : Nat → Prop} {t' : As} (h2 : Rfe w R G u) (h3 : ∀ k, F k → ¬ G k) (h4 : Grown W w) (h5 : ∀ k, F k → W.heap.size ≤ k) (h6 : ∀ k, G k → W.heap.size ≤ k) (hK : ∀ k, K k → k < w.heap.size ∧ ¬ F k ∧ ¬ G k ∧ w.heap[k]? = V.heap[k]?) (h7 : Are w' A F' t') (h8 : Step F F' w w') : Two W K V w' A R t' u :=
  ⟨F', G, h7, h2.out h8.out (fun k hk hf => h3 k hf hk), fun k hf hg => h8.apart (fun _ hk => h2.lt hk) (fun k hk hf => h3 k hf hk) k hg hf, (h8.keeps h4 h5).1, (h8.keeps h4 h5).2, h6, fun k hk => ⟨Nat.lt_of_lt_of_le (hK k hk).1 h8.out.size, h8.apart (G := K) (fun k hk => (hK k hk).1) (fun k hk => (hK k hk).2.1) k hk, (hK k hk).2.2.1, (h8.out.block k (hK k hk).1 (hK k hk).2.1).trans (hK k hk).2.2.2⟩⟩
theorem stepR {F G G' : Nat → Prop} {u' : As} (h1 : Are w A F t) (h3 : ∀ k, F k → ¬ G k) (h4 : Grown W w) (h5 : ∀ k, F k → W.heap.size ≤ k) (h6 : ∀ k, G k → W.heap.size ≤ k) (hK : ∀ k, K k → k < w.heap.size ∧ ¬ F k ∧ ¬ G k ∧ w.heap[k]? = V.heap[k]?) (h7 : Rfe w' R G' u') (h8 : Step G G' w w') : Two W K V w' A R t u' :=
  ⟨F, G', h1.out h8.out h3, h7, h8.apart (fun _ hk => h1.lt hk) h3, (h8.keeps h4 h6).1, h5, (h8.keeps h4 h6).2, fun k hk => ⟨Nat.lt_of_lt_of_le (hK k hk).1 h8.out.size, (hK k hk).2.1, h8.apart (G := K) (fun k hk => (hK k hk).1) (fun k hk => (hK k hk).2.2.1) k hk, (h8.out.block k (hK k hk).1 (hK k hk).2.2.1).trans (hK k hk).2.2.2⟩⟩
end Two
theorem put_t (h : Two W K V w A R t u) (v : Int × Int) : Calls Try.prog 11 #[ptr A, nodeV v] w fun e w' => e = .returned (.tuple #[.int .i64 t.giveI, .int .i64 t.putE]) ∧ Two W K V w' A R (t.putI v) u := by
  obtain ⟨F, G, h1, h2, h3, h4, h5, h6, hK⟩ := h
  refine (put_a h1 v).mono ?_
  rintro e w' ⟨rfl, F', h7, h8⟩
  exact ⟨rfl, Two.stepA h2 h3 h4 h5 h6 hK h7 h8⟩
theorem rput_t (h : Two W K V w A R t u) (v : Int × Int) : Calls Try.prog 12 #[ptr R, nodeV v] w fun e w' => e = .returned (.tuple #[.int .i64 u.giveI, .int .i64 u.putE]) ∧ Two W K V w' A R t (u.putI v) := by
  obtain ⟨F, G, h1, h2, h3, h4, h5, h6, hK⟩ := h
  refine (rput_a h2 v).mono ?_
  rintro e w' ⟨rfl, G', h7, h8⟩
  exact ⟨rfl, Two.stepR h1 h3 h4 h5 h6 hK h7 h8⟩
theorem drop_t (h : Two W K V w A R t u) (id : Int) : Calls Try.prog 13 #[ptr A, .int .i64 id] w fun e w' => e = .returned (.int .i64 (t.errI id)) ∧ Two W K V w' A R (t.dropI id) u := by
  obtain ⟨F, G, h1, h2, h3, h4, h5, h6, hK⟩ := h
  refine (drop_a h1 id).mono ?_
  rintro e w' ⟨rfl, F', h7, h8⟩
  exact ⟨rfl, Two.stepA h2 h3 h4 h5 h6 hK h7 h8⟩
theorem rdrop_t (h : Two W K V w A R t u) (id : Int) : Calls Try.prog 14 #[ptr R, .int .i64 id] w fun e w' => e = .returned (.int .i64 (u.errI id)) ∧ Two W K V w' A R t (u.dropI id) := by
  obtain ⟨F, G, h1, h2, h3, h4, h5, h6, hK⟩ := h
  refine (rdrop_a h2 id).mono ?_
  rintro e w' ⟨rfl, G', h7, h8⟩
  exact ⟨rfl, Two.stepR h1 h3 h4 h5 h6 hK h7 h8⟩
theorem set_t (h : Two W K V w A R t u) (id : Int) (v : Int × Int) : Calls Try.prog 15 #[ptr A, .int .i64 id, nodeV v] w fun e w' => e = .returned (.int .i64 (t.errI id)) ∧ Two W K V w' A R (t.setI id v) u := by
  obtain ⟨F, G, h1, h2, h3, h4, h5, h6, hK⟩ := h
  refine (set_a h1 id v).mono ?_
  rintro e w' ⟨rfl, F', h7, h8⟩
  exact ⟨rfl, Two.stepA h2 h3 h4 h5 h6 hK h7 h8⟩
theorem rset_t (h : Two W K V w A R t u) (id : Int) (v : Int × Int) : Calls Try.prog 16 #[ptr R, .int .i64 id, nodeV v] w fun e w' => e = .returned (.int .i64 (u.errI id)) ∧ Two W K V w' A R t (u.setI id v) := by
  obtain ⟨F, G, h1, h2, h3, h4, h5, h6, hK⟩ := h
  refine (rset_a h2 id v).mono ?_
  rintro e w' ⟨rfl, G', h7, h8⟩
  exact ⟨rfl, Two.stepR h1 h3 h4 h5 h6 hK h7 h8⟩
theorem get_t (h : Two W K V w A R t u) (id : Int) : Calls Try.prog 17 #[ptr A, .int .i64 id] w fun e w' => e = .returned (.tuple #[nodeV (t.nodeI id), .int .i64 (t.errI id)]) ∧ Two W K V w' A R t u ∧ Grown w w' := by
  have h' := h
  obtain ⟨F, G, h1, _⟩ := h
  refine (get_a h1 id).mono ?_
  rintro e w' ⟨rfl, g⟩
  exact ⟨rfl, h'.grown g, g⟩
theorem rget_t (h : Two W K V w A R t u) (id : Int) : Calls Try.prog 18 #[ptr R, .int .i64 id] w fun e w' => e = .returned (.tuple #[nodeV (u.nodeI id), .int .i64 (u.errI id)]) ∧ Two W K V w' A R t u ∧ Grown w w' := by
  have h' := h
  obtain ⟨F, G, _, h1, _⟩ := h
  refine (rget_a h1 id).mono ?_
  rintro e w' ⟨rfl, g⟩
  exact ⟨rfl, h'.grown g, g⟩
theorem len_t (h : Two W K V w A R t u) : Calls Try.prog 19 #[ptr A] w fun e w' => e = .returned (.int .i64 (t.len : Int)) ∧ ∃ d, w' = w.drewN d := by
  obtain ⟨F, G, h1, _⟩ := h; exact len_a h1
theorem rlen_t (h : Two W K V w A R t u) : Calls Try.prog 20 #[ptr R] w fun e w' => e = .returned (.int .i64 (u.len : Int)) ∧ ∃ d, w' = w.drewN d := by
  obtain ⟨F, G, _, h1, _⟩ := h; exact rlen_a h1
theorem most_t (h : Two W K V w A R t u) : Calls Try.prog 21 #[ptr A] w fun e w' => e = .returned (.int .i64 (t.m : Int)) ∧ w' = w := by
  obtain ⟨F, G, h1, _⟩ := h; exact most_a h1
theorem all_t (h : Two W K V w A R t u) (M : Int) (hM : 1 ≤ M) : Calls Try.prog 22 #[ptr A, .int .i64 M] w fun e w' => ∃ p c q d k, e = .returned (.tuple #[.slice p k c, .slice q k d]) ∧ k = min t.held.length M.toNat ∧ Vec w' 3 1 p k c (idsC t) ∧ Vec w' 30 2 q k d (nodesC t) ∧ Two W K V w' A R t u ∧ Grown w w' := by
  have h' := h
  obtain ⟨F, G, h1, _⟩ := h
  refine (all_tells h1 M hM).mono ?_
  rintro e w' ⟨p, c, q, d, k, rfl, h2, h3, h4, h5⟩
  exact ⟨p, c, q, d, k, rfl, h2, h3, h4, h'.grown h5, h5⟩
theorem new_t (most : Int) (w : World) : Calls Try.prog 9 #[.int .i64 most] w fun e w' => ∃ A F, e = .returned (ptr A) ∧ Are w' A F (As.zero (mostI most)) ∧ Grown w w' ∧ ∀ k, F k → w.heap.size ≤ k := new_a most w
theorem rnew_t {W : World} {F : Nat → Prop} (most : Int) (h : Are w A F t) (g : Grown W w) (hF : ∀ k, F k → W.heap.size ≤ k) : Calls Try.prog 10 #[.int .i64 most] w fun e w' => ∃ R, e = .returned (ptr R) ∧ Two W (fun _ => False) W w' A R t (As.zero (mostI most)) := by
  refine (rnew_a most w).mono ?_
  rintro e w' ⟨R, G, rfl, h2, g2, hG⟩
  exact ⟨R, rfl, F, G, h.grown g2, h2, fun k hf hg => by have := h.lt hf; have := hG k hg; omega, grownTrans g g2, hF, fun k hk => Nat.le_trans g.2.2 (hG k hk), fun _ h => h.elim⟩
/-- Cells of the document's arena. -/
theorem Two.ref (h : Two W K V w A R t u) : u.Wf ∧ R < w.heap.size ∧ w.cell? ⟨R, 0, none⟩ = some (.int .i64 (u.m : Int)) ∧ ∃ Bb Bl cb cl, Bb < w.heap.size ∧ Bl < w.heap.size ∧ u.n ≤ cb ∧ u.n ≤ cl ∧ w.cell? ⟨R, 1, none⟩ = some (.slice (some ⟨Bb, 0, none⟩) u.n cb) ∧ w.cell? ⟨R, 2, none⟩ = some (.slice (some ⟨Bl, 0, none⟩) u.n cl) ∧
    ∀ j, j < u.n → w.cell? ⟨Bb, j, none⟩ = some (.bool (u.s j).isSome) ∧ w.cell? ⟨Bl, j * 2, none⟩ = some (.int .i64 ((u.s j).getD (0, 0)).1) ∧ w.cell? ⟨Bl, j * 2 + 1, none⟩ = some (.int .i64 ((u.s j).getD (0, 0)).2) := by
  obtain ⟨F, G, _, ⟨hw, r, h, rfl⟩, _⟩ := h
  obtain ⟨Bb, Bl, e1, e2, l1, l2, n1, n2, _, _, _, cb, cl0, cl1, _⟩ := h.opens hw
  exact ⟨hw, Hold.lt h, Hold.cell h 0 rfl, Bb, Bl, r.cb, r.cl, l1, l2, n1, n2, by rw [← e1]; exact Hold.cell h 1 rfl, by rw [← e2]; exact Hold.cell h 2 rfl, fun j hj => ⟨cb j hj, cl0 j hj, cl1 j hj⟩⟩
/-- No state's slots grow by more than one with a call. -/
theorem As.putI_n (t : As) (v : Int × Int) : (t.putI v).n ≤ t.n + 1 := by
  unfold As.putI
  split
  · show (if t.d = [] then t.n + 1 else t.n) ≤ _; split <;> omega
  · omega
theorem As.putI_m (t : As) (v : Int × Int) : (t.putI v).m = t.m := by unfold As.putI; split <;> rfl
theorem As.dropI_n (t : As) (id : Int) : (t.dropI id).n = t.n := by unfold As.dropI; split <;> rfl
theorem As.dropI_m (t : As) (id : Int) : (t.dropI id).m = t.m := by unfold As.dropI; split <;> rfl
theorem As.setI_n (t : As) (id : Int) (v : Int × Int) : (t.setI id v).n = t.n := by unfold As.setI; split <;> rfl
theorem As.setI_m (t : As) (id : Int) (v : Int × Int) : (t.setI id v).m = t.m := by unfold As.setI; split <;> rfl
theorem As.held_le (t : As) : t.held.length ≤ t.n := Nat.le_trans (List.length_filter_le _ _) (by simp)
end Go.Proofs.Ytkjnpgpgcikhgaa
