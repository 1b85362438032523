/-
  What the statements' own 'all' tells: the first numbers and nodes that an arena holds.
-/
import Derived.Test.YtkjnpgpgcikhgaaArIter
import Derived.Test.YtkjnpgpgcikhgaaArRef
namespace Go.Proofs.Ytkjnpgpgcikhgaa
open Go.RowKit Go.Deep
attribute [local go_sem] Oper.semAt_some

/-- Numbers, and the cells of nodes. -/
def idsC (t : As) (j : Nat) : Value := .int .i64 ((t.held.getD j 0 : Nat) : Int)
def nodesC (t : As) (j : Nat) : Value := nodeC ((t.s (t.held.getD (j / 2) 0)).getD (0, 0)) (j % 2)

/-- What lies behind i rounds: the box of most, those of the two slices, the slices. -/
structure Coll (w : World) (b0 b1 b2 : Nat) (M : Int) (t : As) (i : Nat) (G : Nat → Prop) (W : World) : Prop where
  ex : ∃ p c q d, W.heap[b0]? = some (.cells #[.int .i64 M] 3 (0, 0)) ∧ W.heap[b1]? = some (.cells #[.slice p i c] 41 (0, 0)) ∧ W.heap[b2]? = some (.cells #[.slice q i d] 40 (0, 0)) ∧
    Vec W 3 1 p i c (idsC t) ∧ Vec W 30 2 q i d (nodesC t) ∧ G = (fun k => k = b1 ∨ k = b2 ∨ In p k ∨ In q k) ∧ (∀ k, In p k → b2 < k) ∧ (∀ k, In q k → b2 < k) ∧ (∀ k, In p k → ¬ In q k)
  old : Grown w W
theorem Coll.turn {w : World} {b0 b1 b2 : Nat} {M : Int} {t : As} {i : Nat} {G : Nat → Prop} {b : Nat} {X Y : World} (h : Coll w b0 b1 b2 M t i G X) (tn : Turn b X Y) (hb : w.heap.size ≤ b) : Coll w b0 b1 b2 M t i G Y := by
  obtain ⟨⟨p, c, q, d, h1, h2, h3, h4, h5, h6⟩, h7⟩ := h
  exact ⟨⟨p, c, q, d, tn.cells h1 rfl, tn.cells h2 rfl, tn.cells h3 rfl, tn.vec h4, tn.vec h5, h6⟩, Turn.grown h7 tn hb⟩
theorem Coll.lt {w : World} {b0 b1 b2 : Nat} {M : Int} {t : As} {i : Nat} {G : Nat → Prop} {X : World} (h : Coll w b0 b1 b2 M t i G X) : ∀ k, G k → k < X.heap.size := by
  obtain ⟨⟨p, c, q, d, h1, h2, h3, h4, h5, rfl, _⟩, h7⟩ := h
  rintro k (rfl | rfl | hk | hk)
  · exact (Array.getElem?_eq_some_iff.1 h2).1
  · exact (Array.getElem?_eq_some_iff.1 h3).1
  · exact h4.lt hk
  · exact h5.lt hk

set_option maxRecDepth 100000 in
set_option maxHeartbeats 4000000 in
theorem all_tells {w : World} {A : Nat} {F : Nat → Prop} {t : As} (h : Are w A F t) (M : Int) (hM : 1 ≤ M) :
    Calls Try.prog 22 #[ptr A, .int .i64 M] w fun e w' => ∃ p c q d k, e = .returned (.tuple #[.slice p k c, .slice q k d]) ∧ k = min t.held.length M.toNat ∧ Vec w' 3 1 p k c (idsC t) ∧ Vec w' 30 2 q k d (nodesC t) ∧ Grown w w' := by
  obtain ⟨hw, ps, cs, pd, cd, hA, rfl⟩ := h
  obtain ⟨n⟩ : Nonempty Nat := ⟨0⟩
  refine (callsIn_wide (n := n)).1 ?_
  have am := all_m A
  unfold ptr at am
  refine callsIn_of_wp_marks Try.func22 rfl trivial ?_ rfl
  unfold ptr
  simp only [Try.ntmps22, List.size_toArray, List.length_cons, List.length_nil, Nat.reduceAdd, Nat.reduceSub, Array.replicate_succ, Array.replicate_zero, List.push_toArray, List.append_toArray, List.nil_append, List.cons_append]
  gi_wp2_with (refine ⟨trivial, fun h => (by cases h), ?_⟩; gi_at_call 26; refine (callsIn_wide.2 (am _)).mono ?_; rintro e w' ⟨rfl, rfl⟩)
  have F0 : ∃ W0 b0 b1 b2 b3, ((((w.alloc (.cells #[.int .i64 M] 3)).alloc (.cells #[.slice none 0 0] 41)).alloc (.cells #[.slice none 0 0] 40)).alloc (.cells #[.pointer (some ⟨A, 0, none⟩)] 24)) = W0 ∧
      w.heap.size = b0 ∧ w.heap.size + 1 = b1 ∧ w.heap.size + 1 + 1 = b2 ∧ w.heap.size + 1 + 1 + 1 = b3 ∧ Grown w W0 ∧ W0.heap.size = b3 + 1 ∧ W0.heap[b0]? = some (.cells #[.int .i64 M] 3 (0, 0)) ∧ W0.heap[b1]? = some (.cells #[.slice none 0 0] 41 (0, 0)) ∧ W0.heap[b2]? = some (.cells #[.slice none 0 0] 40 (0, 0)) ∧ W0.heap[b3]? = some (.cells #[.pointer (some ⟨A, 0, none⟩)] 24 (0, 0)) := by
    refine ⟨_, _, _, _, _, rfl, rfl, rfl, rfl, rfl, ((((Grown.refl _).alloc _ _).alloc _ _).alloc _ _).alloc _ _, by simp, ?_, ?_, ?_, ?_⟩
    · rw [grown_block ((((Grown.refl _).alloc _ _).alloc _ _).alloc _ _) (by simp), blk_alloc_new]
    · rw [grown_block (((Grown.refl _).alloc _ _).alloc _ _) (by simp)]; exact heap2_new _ _ _
    · have h := heap2_old ((w.alloc (.cells #[.int .i64 M] 3)).alloc (.cells #[.slice none 0 0] 41)) (.cells #[.slice none 0 0] 40) (.cells #[.pointer (some ⟨A, 0, none⟩)] 24)
      rw [nblk_alloc, nblk_alloc] at h; exact h
    · have h := heap2_new ((w.alloc (.cells #[.int .i64 M] 3)).alloc (.cells #[.slice none 0 0] 41)) (.cells #[.slice none 0 0] 40) (.cells #[.pointer (some ⟨A, 0, none⟩)] 24)
      rw [nblk_alloc, nblk_alloc] at h; exact h
  obtain ⟨W0, b0, b1, b2, b3, hW0, e0, e1, e2, e3, gr, hsz, k0, k1, k2, k3⟩ := F0
  rw [hW0, e3, e2, e1, e0]
  have hA0 := hA.grown gr
  have hKb : ∀ k, footB b3 A ps pd k → k < W0.heap.size ∧ ¬ (k = b1 ∨ k = b2) := fun k hk => by
    rcases hk with rfl | hk
    · exact ⟨by omega, by omega⟩
    · have := hA.foot_lt hk
      exact ⟨by omega, by omega⟩
  clear hW0 am
  have hsE : b0 < b1 ∧ b1 < b2 ∧ b2 < b3 ∧ w.heap.size = b0 := by omega
  clear e1 e2 e3
  refine wpIn_over (gf := 27) (lb := #[.pointer (some ⟨b3, 0, none⟩)]) rfl (enters_of Try.func27 (by kernel_rfl) rfl) (all_it k3 hA0 hw) (Keep.refl _ _) (by intro x hx; obtain ⟨i, _, rfl⟩ := List.mem_map.1 hx; rfl) (G := fun k => k = b1 ∨ k = b2 ∨ In none k ∨ In none k)
    (fun k hk => ⟨(hKb k hk).1, fun h => by
      rcases h with h | h | h | h
      · exact (hKb k hk).2 (Or.inl h)
      · exact (hKb k hk).2 (Or.inr h)
      · exact In.no h
      · exact In.no h⟩)
    (fun i G W => Coll w b0 b1 b2 M t i G W ∧ (i : Int) < M)
    (fun c i G W => c = .exit 0 ∧ Coll w b0 b1 b2 M t i G W ∧ i = M.toNat)
    (fun i G X Y ⟨h1, h2⟩ tn => ⟨h1.turn tn (by omega), h2⟩)
    (fun c i G X Y ⟨h1, h2, h3⟩ tn => ⟨h1, h2.turn tn (by omega), h3⟩)
    (fun i G X ⟨h1, _⟩ => h1.lt)
    ⟨⟨⟨none, 0, none, 0, k0, k1, k2, Vec.nil _ _ _ _, Vec.nil _ _ _ _, rfl, fun k h => absurd h In.no, fun k h => absurd h In.no, fun k h => absurd h In.no⟩, gr⟩, by omega⟩ ?round ?done ?stop
  case round =>
    rintro l2 i x G1 W1 hx ⟨hc, hiM⟩ hs1
    rw [List.getElem?_map] at hx
    obtain ⟨id, hid, rfl⟩ := Option.map_eq_some_iff.1 hx
    obtain ⟨hlt, v, hv⟩ := As.held_of hid
    have hpe : pairE t id = #[.int .i64 (id : Int), .agg #[.int .i64 v.1, .int .i64 v.2]] := by simp [pairE, hv, nodeV]
    rw [hpe]
    gi_wp2
    refine ⟨(Grown.refl _).alloc _ _, fun W2 tn hs2 => ?_⟩
    have hc2 := (hc.turn (Turn.of_grown ((Grown.refl W1).alloc #[.int .i64 v.1, .int .i64 v.2] 30) W0.heap.size) (by omega)).turn tn (by omega)
    have bn : W2.heap[W1.heap.size]? = some (.cells #[.int .i64 v.1, .int .i64 v.2] 30 (0, 0)) := tn.cells (blk_alloc_new _ _) rfl
    have hG1 : ∀ k, G1 k → k < W1.heap.size := hc.lt
    have hb12 : b0 < W1.heap.size ∧ b1 < W1.heap.size ∧ b2 < W1.heap.size := by
      obtain ⟨⟨p, c, q, d, j0, j1, j2, _⟩, _⟩ := hc
      exact ⟨(Array.getElem?_eq_some_iff.1 j0).1, (Array.getElem?_eq_some_iff.1 j1).1, (Array.getElem?_eq_some_iff.1 j2).1⟩
    obtain ⟨⟨p, c, q, d, j0, j1, j2, jp, jq, rfl, jbp, jbq, jpq⟩, jo⟩ := hc2
    have hib : i < 65537 := by
      have h1 := (List.getElem?_eq_some_iff.1 hid).1
      have h2 : t.held.length ≤ t.n := Nat.le_trans (List.length_filter_le _ _) (by simp)
      have := hw.top
      have := hw.cap
      omega
    have npn : ¬ In p W1.heap.size := fun h => Nat.lt_irrefl _ (hG1 _ (Or.inr (Or.inr (Or.inl h))))
    have nqn : ¬ In q W1.heap.size := fun h => Nat.lt_irrefl _ (hG1 _ (Or.inr (Or.inr (Or.inr h))))
    have c0 : W2.cell? ⟨b0, 0, none⟩ = some (.int .i64 M) := by simp only [World.cell?, j0]; rfl
    have c1 : W2.cell? ⟨b1, 0, none⟩ = some (.slice p i c) := by simp only [World.cell?, j1]; rfl
    -- the first append, and its store
    have A1 : Hid (∀ p' c' w3, Vec w3 3 1 p' (i + 1) c' (fun j => if j < i * 1 then idsC t j else .int .i64 (id : Int)) → Out (In p) (W2.alloc (.cells #[.int .i64 (id : Int)] 3)) w3 → (p' = p ∨ p' = some ⟨(W2.alloc (.cells #[.int .i64 (id : Int)] 3)).heap.size, 0, none⟩) →
        (w3.cell? ⟨b1, 0, none⟩ = some (.slice p i c) ∧ w3.frozen? ⟨b1, 0, none⟩ = false) ∧ ∃ X, w3.setCell ⟨b1, 0, none⟩ (.slice p' (i + 1) c') = X ∧ X.heap[b0]? = some (.cells #[.int .i64 M] 3 (0, 0)) ∧ X.heap[b1]? = some (.cells #[.slice p' (i + 1) c'] 41 (0, 0)) ∧ X.heap[b2]? = some (.cells #[.slice q i d] 40 (0, 0)) ∧
          X.heap[W1.heap.size]? = some (.cells #[.int .i64 v.1, .int .i64 v.2] 30 (0, 0)) ∧ Vec X 3 1 p' (i + 1) c' (idsC t) ∧ Vec X 30 2 q i d (nodesC t) ∧ (∀ k, In p' k → b2 < k) ∧ (∀ k, In p' k → ¬ In q k) ∧ ¬ In p' b1 ∧ Out (fun k => k = b1 ∨ In p k) W2 X ∧ (∀ k, In p' k → In p k ∨ W2.heap.size < k)) := fun p' c' w3 hv3 ho3 hp3 => by
      have nb : ¬ In p b1 := fun h => by have := jbp _ h; omega
      obtain ⟨g1, g2, g3, g4, g5⟩ := boxed_append j1 nb hv3 ho3 hp3
      have keep : ∀ {k o}, W2.heap[k]? = some o → k ≠ b1 → ¬ In p k → (w3.setCell ⟨b1, 0, none⟩ (.slice p' (i + 1) c')).heap[k]? = some o := fun {k o} hk h1 h2 => (g4.block k (Array.getElem?_eq_some_iff.1 hk).1 (fun h => by rcases h with h | h; exact h1 h; exact h2 h)).trans hk
      have hgt : ∀ k, In p' k → b2 < k := fun k hk => by
        rcases g5 k hk with h | h
        · exact jbp k h
        · have := tn.size; rw [nblk_alloc] at this; omega
      refine ⟨⟨by simp only [World.cell?, g1]; rfl, by simp [World.frozen?, g1]⟩, _, rfl, keep j0 (by omega) (fun h => by have := jbp _ h; omega), g2, keep j2 (by omega) (fun h => by have := jbp _ h; omega), keep bn (by omega) npn, ?_, ?_, hgt, ?_, ?_, g4, g5⟩
      · refine g3.congr fun j hj => ?_
        by_cases e : j < i * 1
        · rw [if_pos e]
        · rw [if_neg e]
          have : j = i := by omega
          subst this
          simp [idsC, List.getD, hid]
      · exact jq.out g4 fun k hk h => by
          rcases h with h | h
          · have := jbq k hk; omega
          · exact jpq k h hk
      · intro k hk hq
        rcases g5 k hk with h | h
        · exact jpq k h hq
        · have := jq.lt hq; omega
      · intro h; have := hgt _ h; omega
    have A2 : Hid (∀ X p' c', X.heap[b0]? = some (.cells #[.int .i64 M] 3 (0, 0)) → X.heap[b1]? = some (.cells #[.slice p' (i + 1) c'] 41 (0, 0)) → X.heap[b2]? = some (.cells #[.slice q i d] 40 (0, 0)) → Vec X 3 1 p' (i + 1) c' (idsC t) → (∀ k, In p' k → b2 < k) → (∀ k, In p' k → ¬ In q k) → Out (fun k => k = b1 ∨ In p k) W2 X → (∀ k, In p' k → In p k ∨ W2.heap.size < k) →
        ∀ q' d' w5, Vec w5 30 2 q' (i + 1) d' (fun j => if j < i * 2 then nodesC t j else if j - i * 2 = 0 then .int .i64 v.1 else .int .i64 v.2) → Out (In q) (X.alloc (.cells #[.int .i64 v.1, .int .i64 v.2] 30)) w5 → (q' = q ∨ q' = some ⟨(X.alloc (.cells #[.int .i64 v.1, .int .i64 v.2] 30)).heap.size, 0, none⟩) →
        (w5.cell? ⟨b2, 0, none⟩ = some (.slice q i d) ∧ w5.frozen? ⟨b2, 0, none⟩ = false) ∧ ∃ Y, w5.setCell ⟨b2, 0, none⟩ (.slice q' (i + 1) d') = Y ∧ Y.cell? ⟨b0, 0, none⟩ = some (.int .i64 M) ∧ Y.cell? ⟨b1, 0, none⟩ = some (.slice p' (i + 1) c') ∧ ∃ G2, Coll w b0 b1 b2 M t (i + 1) G2 Y ∧ Step (fun k => k = b1 ∨ k = b2 ∨ In p k ∨ In q k) G2 W2 Y) := fun X p' c' i0 i1 i2 i4 i6 i7 i9 i10 q' d' w5 hv5 ho5 hp5 => by
      have nb : ¬ In q b2 := fun h => Nat.lt_irrefl _ (jbq _ h)
      obtain ⟨g1, g2, g3, g4, g5⟩ := boxed_append i2 nb hv5 ho5 hp5
      have keep : ∀ {k o}, X.heap[k]? = some o → k ≠ b2 → ¬ In q k → (w5.setCell ⟨b2, 0, none⟩ (.slice q' (i + 1) d')).heap[k]? = some o := fun {k o} hk h1 h2 => (g4.block k (Array.getElem?_eq_some_iff.1 hk).1 (fun h => by rcases h with h | h; exact h1 h; exact h2 h)).trans hk
      have hX2 : W2.heap.size ≤ X.heap.size := i9.size
      have hW12 : b2 < W2.heap.size := by have := tn.size; rw [nblk_alloc] at this; omega
      have z0 := keep i0 (by omega) (fun h => by have := jbq _ h; omega)
      have z1 := keep i1 (by omega) (fun h => by have := jbq _ h; omega)
      have st : Step (fun k => k = b1 ∨ k = b2 ∨ In p k ∨ In q k) (fun k => k = b1 ∨ k = b2 ∨ In p' k ∨ In q' k) W2 (w5.setCell ⟨b2, 0, none⟩ (.slice q' (i + 1) d')) := by
        refine ⟨(i9.wide (G := fun k => k = b1 ∨ k = b2 ∨ In p k ∨ In q k) fun k _ h => by rcases h with h | h; exact Or.inl h; exact Or.inr (Or.inr (Or.inl h))).trans g4 (fun k h => by rcases h with h | h; exact Or.inl (Or.inr (Or.inl h)); exact Or.inl (Or.inr (Or.inr (Or.inr h)))), fun k h => ?_⟩
        rcases h with h | h | h | h
        · exact Or.inl (Or.inl h)
        · exact Or.inl (Or.inr (Or.inl h))
        · rcases i10 k h with h' | h'
          · exact Or.inl (Or.inr (Or.inr (Or.inl h')))
          · exact Or.inr (by omega)
        · rcases g5 k h with h' | h'
          · exact Or.inl (Or.inr (Or.inr (Or.inr h')))
          · exact Or.inr (by omega)
      refine ⟨⟨by simp only [World.cell?, g1]; rfl, by simp [World.frozen?, g1]⟩, _, rfl, by simp only [World.cell?, z0]; rfl, by simp only [World.cell?, z1]; rfl, _, ⟨⟨p', c', q', d', z0, z1, g2, ?_, ?_, rfl, i6, ?_, ?_⟩, st.out.grown jo ?_⟩, st⟩
      · exact i4.out g4 fun k hk h => by
          rcases h with h | h
          · have := i6 k hk; omega
          · exact i7 k hk h
      · refine g3.congr fun j hj => ?_
        by_cases e : j < i * 2
        · rw [if_pos e]
        · rw [if_neg e]
          have h2 : j = i * 2 ∨ j = i * 2 + 1 := by omega
          have hg : t.held.getD i 0 = id := by simp [List.getD, hid]
          rcases h2 with rfl | rfl
          · rw [if_pos (by omega)]
            unfold nodesC
            rw [show i * 2 / 2 = i by omega, show i * 2 % 2 = 0 by omega, hg, hv]; rfl
          · rw [if_neg (by omega)]
            unfold nodesC
            rw [show (i * 2 + 1) / 2 = i by omega, show (i * 2 + 1) % 2 = 1 by omega, hg, hv]; rfl
      · intro k hk
        rcases g5 k hk with h | h
        · exact jbq k h
        · omega
      · intro k hk hq'
        rcases g5 k hq' with h | h
        · exact i7 k hk h
        · have := i4.lt hk; omega
      · intro k h
        rcases h with h | h | h | h
        · omega
        · omega
        · have := jbp k h; omega
        · have := jbq k h; omega
    gi_wp2_with (first | (gi_at_builtin; refine wpListIn_append_vec rfl (.tmp 14) (.tmp 16) 41 rfl Try.underlying41 infoInt rfl rfl (jp.grown ((Grown.refl _).alloc _ _)) rfl (by decide) (new_one _ _ _) (fun _ _ => rfl) (by omega) (by omega) ?_; intro p' c' w3 hv3 ho3 hp3; obtain ⟨⟨g1, g2⟩, X, hX, i0, i1, i2, i3, i4, i5, i6, i7, i8, i9, i10⟩ := A1.out _ _ _ hv3 ho3 hp3; clear hv3 ho3 hp3; have x2 : X.cell? ⟨b2, 0, none⟩ = some (.slice q i d) := (by simp only [World.cell?, i2]; rfl); have x3 : X.cell? ⟨W1.heap.size, 0, none⟩ = some (.int .i64 v.1) := (by simp only [World.cell?, i3]; rfl); have x4 : X.cell? ⟨W1.heap.size, 1, none⟩ = some (.int .i64 v.2) := (by simp only [World.cell?, i3]; rfl)) | (gi_at_builtin; refine wpListIn_append_vec rfl (.tmp 18) (.tmp 20) 40 rfl Try.underlying40 infoNodeZ rfl rfl (i5.grown ((Grown.refl _).alloc _ _)) rfl (by decide) (new_two _ _ _ _ _ rfl) (fun j _ => by split <;> rfl) (by omega) (by omega) ?_; intro q' d' w5 hv5 ho5 hp5; obtain ⟨⟨f1, f2⟩, Y, hY, y0, y1, G2, hC, hS⟩ := A2.out X p' c' i0 i1 i2 i4 i6 i7 i9 i10 _ _ _ hv5 ho5 hp5; have HC : Hid (Coll w b0 b1 b2 M t (i + 1) G2 Y ∧ Step (fun k => k = b1 ∨ k = b2 ∨ In p k ∨ In q k) G2 W2 Y) := ⟨hC, hS⟩; clear hv5 ho5 hp5 hC hS))
    · exact ⟨G2, ⟨rfl, HC.out.1, by omega⟩, HC.out.2⟩
    · exact ⟨G2, ⟨HC.out.1, by omega⟩, HC.out.2⟩
  case done =>
    rintro D G' W1 hD ⟨hc, hiM⟩ hd
    rw [List.length_map] at hc hiM
    obtain ⟨⟨p, c, q, d, j0, j1, j2, jp, jq, _⟩, jo⟩ := hc
    have c1 : W1.cell? ⟨b1, 0, none⟩ = some (.slice p t.held.length c) := by simp only [World.cell?, j1]; rfl
    have c2 : W1.cell? ⟨b2, 0, none⟩ = some (.slice q t.held.length d) := by simp only [World.cell?, j2]; rfl
    have HE : Hid (∀ W', Grown W1 W' → Vec W' 3 1 p t.held.length c (idsC t) ∧ Vec W' 30 2 q t.held.length d (nodesC t) ∧ Grown w W' ∧ W'.heap[D]? = some (.deferred (some []))) := fun W' g => ⟨jp.grown g, jq.grown g, grownTrans jo g, (grown_block g (Array.getElem?_eq_some_iff.1 hd).1).trans hd⟩
    have hmx : Try.prog.follows .mixedOrders = true := by kernel_rfl
    obtain ⟨L, HL⟩ : ∃ L, Hid (L = t.held.length) := ⟨_, rfl⟩
    rw [← HL.out] at c1 c2 HE hiM
    clear jp jq j0 j1 j2 hA hA0 hKb k0 k1 k2 k3 gr
    gi_wp2
    gi_quiet (fail)
    gi_wp2
    obtain ⟨v1, v2, v3, v4⟩ := HE.out _ (grownDrewN (Grown.refl _) nq)
    refine ⟨by simp, .inl ⟨_, _, rfl, run_takeDeferred v4, ?_⟩⟩
    have tp : Turn w.heap.size (W1.drewN nq) ((W1.drewN nq).putObj D (.deferred none)) := Turn.putObj _ v4 rfl rfl (by omega)
    exact ⟨_, results_tmp2 rfl _ _ _, p, c, q, d, L, rfl, by rw [← HL.out]; omega, tp.vec v1, tp.vec v2, Turn.grown v3 tp (Nat.le_refl _)⟩
  case stop =>
    rintro D c i G' W1 hD hi ⟨rfl, hc, hiM⟩ hd
    rw [List.length_map] at hi
    obtain ⟨⟨p, c, q, d, j0, j1, j2, jp, jq, _⟩, jo⟩ := hc
    have c1 : W1.cell? ⟨b1, 0, none⟩ = some (.slice p (i + 1) c) := by simp only [World.cell?, j1]; rfl
    have c2 : W1.cell? ⟨b2, 0, none⟩ = some (.slice q (i + 1) d) := by simp only [World.cell?, j2]; rfl
    have HE : Hid (∀ W', Grown W1 W' → Vec W' 3 1 p (i + 1) c (idsC t) ∧ Vec W' 30 2 q (i + 1) d (nodesC t) ∧ Grown w W' ∧ W'.heap[D]? = some (.deferred (some []))) := fun W' g => ⟨jp.grown g, jq.grown g, grownTrans jo g, (grown_block g (Array.getElem?_eq_some_iff.1 hd).1).trans hd⟩
    have hmx : Try.prog.follows .mixedOrders = true := by kernel_rfl
    have HI : Hid (i + 1 = M.toNat ∧ i < t.held.length) := ⟨hiM, hi⟩
    clear jp jq j0 j1 j2 hA hA0 hKb k0 k1 k2 k3 gr hiM hi
    gi_wp2
    gi_quiet (fail)
    gi_wp2
    obtain ⟨v1, v2, v3, v4⟩ := HE.out _ (grownDrewN (Grown.refl _) nq)
    refine ⟨by simp, .inl ⟨_, _, rfl, run_takeDeferred v4, ?_⟩⟩
    have tp : Turn w.heap.size (W1.drewN nq) ((W1.drewN nq).putObj D (.deferred none)) := Turn.putObj _ v4 rfl rfl (by omega)
    exact ⟨_, results_tmp2 rfl _ _ _, p, c, q, d, i + 1, rfl, by have h1 := HI.out.1; have h2 := HI.out.2; omega, tp.vec v1, tp.vec v2, Turn.grown v3 tp (Nat.le_refl _)⟩
end Go.Proofs.Ytkjnpgpgcikhgaa
