/-
  What the statements' own Row tells: the first numbers of a row.
-/
import Derived.Test.YtecnlciogcanmaaDqAll
namespace Go.Proofs.Ytecnlciogcanmaa
open Go.RowKit Go.Deep
attribute [local go_sem] Oper.semAt_some

/-- What lies behind i rounds: the box of most, that of the slice, the slice. -/
structure Colr (w : World) (b0 b1 : Nat) (M : Int) (D : List (Int × Int)) (i : Nat) (G : Nat → Prop) (W : World) : Prop where
  ex : ∃ p c, W.heap[b0]? = some (.cells #[.int .i64 M] 3 (0, 0)) ∧ W.heap[b1]? = some (.cells #[.slice p i c] 36 (0, 0)) ∧ Vec W 3 1 p i c (idsC D) ∧ G = (fun k => k = b1 ∨ In p k) ∧ (∀ k, In p k → b1 < k)
  old : Grown w W
variable {w : World} {b0 b1 : Nat} {M : Int} {D : List (Int × Int)} {i : Nat} {G : Nat → Prop} {X Y : World}
theorem Colr.turn {b : Nat} (h : Colr w b0 b1 M D i G X) (tn : Turn b X Y) (hb : w.heap.size ≤ b) : Colr w b0 b1 M D i G Y := by
  obtain ⟨⟨p, c, h1, h2, h3, h4⟩, h7⟩ := h
  exact ⟨⟨p, c, tn.cells h1 rfl, tn.cells h2 rfl, tn.vec h3, h4⟩, Turn.grown h7 tn hb⟩
theorem Colr.lt (h : Colr w b0 b1 M D i G X) : ∀ k, G k → k < X.heap.size := by
  obtain ⟨⟨p, c, h1, h2, h3, rfl, _⟩, h7⟩ := h
  rintro k (rfl | hk)
  · exact lt_of h2
  · exact h3.lt hk
set_option maxRecDepth 100000 in
set_option maxHeartbeats 4000000 in
theorem row_tells {A : Nat} {F : Nat → Prop} {t : Ds} (h : Dq w A F t) (l M : Int) (hM : 1 ≤ M) :
    Calls Try.prog 22 #[ptr A, .int .i64 l, .int .i64 M] w fun e w' => ∃ p c k, e = .returned (.slice p k c) ∧ k = min (t.rowI l).length M.toNat ∧ Vec w' 3 1 p k c (idsC (t.rowI l)) ∧ Grown w w' ∧ ∀ x, In p x → w.heap.size ≤ x := by
  obtain ⟨pr, cr, Mp, g, m, hA, rfl, rfl⟩ := h
  rw [← Gh.rowI_st]
  have hlen : (g.rowI l).length ≤ 65536 := by
    unfold Gh.rowI
    split
    · have hl : 0 ≤ l ∧ l < (g.n : Int) := by assumption
      unfold Gh.row; rw [List.length_map]; exact hA.core.wf.len (by omega)
    · simp
  obtain ⟨D, hD⟩ : ∃ D, D = g.rowI l := ⟨_, rfl⟩
  rw [← hD] at hlen ⊢
  have HD : Hid (D = g.rowI l) := hD
  clear hD
  obtain ⟨n⟩ : Nonempty Nat := ⟨0⟩
  refine (callsIn_wide (n := n)).1 ?_
  have am := all_m A l
  unfold ptr at am
  refine callsIn_of_wp_marks Try.func22 rfl trivial ?_ rfl
  unfold ptr
  simp only [Try.ntmps22, List.size_toArray, List.length_cons, List.length_nil, Nat.reduceAdd, Nat.reduceSub, Array.replicate_succ, Array.replicate_zero, List.push_toArray, List.append_toArray, List.nil_append, List.cons_append]
  gi_wp2_with (refine ⟨trivial, fun h => (by cases h), ?_⟩; gi_at_call 42; refine (callsIn_wide.2 (am _)).mono ?_; rintro e w' ⟨rfl, rfl⟩)
  have F0 : ∃ W0 b0 b1 b2 b3, ((((w.alloc (.cells #[.int .i64 M] 3)).alloc (.cells #[.slice none 0 0] 36)).alloc (.cells #[.pointer (some ⟨A, 0, none⟩)] 24)).alloc (.cells #[.int .i64 l] 3)) = W0 ∧
      w.heap.size = b0 ∧ w.heap.size + 1 = b1 ∧ w.heap.size + 1 + 1 = b2 ∧ w.heap.size + 1 + 1 + 1 = b3 ∧ Grown w W0 ∧ W0.heap.size = b3 + 1 ∧ W0.heap[b0]? = some (.cells #[.int .i64 M] 3 (0, 0)) ∧ W0.heap[b1]? = some (.cells #[.slice none 0 0] 36 (0, 0)) ∧ W0.heap[b2]? = some (.cells #[.pointer (some ⟨A, 0, none⟩)] 24 (0, 0)) ∧ W0.heap[b3]? = some (.cells #[.int .i64 l] 3 (0, 0)) := by
    refine ⟨_, _, _, _, _, rfl, rfl, rfl, rfl, rfl, ((((Grown.refl _).alloc _ _).alloc _ _).alloc _ _).alloc _ _, by simp, ?_, ?_, ?_, ?_⟩
    · rw [grown_block ((((Grown.refl _).alloc _ _).alloc _ _).alloc _ _) (by simp), blk_alloc_new]
    · rw [grown_block (((Grown.refl _).alloc _ _).alloc _ _) (by simp)]; exact heap2_new _ _ _
    · have h := heap2_old ((w.alloc (.cells #[.int .i64 M] 3)).alloc (.cells #[.slice none 0 0] 36)) (.cells #[.pointer (some ⟨A, 0, none⟩)] 24) (.cells #[.int .i64 l] 3)
      rw [nblk_alloc, nblk_alloc] at h; exact h
    · have h := heap2_new ((w.alloc (.cells #[.int .i64 M] 3)).alloc (.cells #[.slice none 0 0] 36)) (.cells #[.pointer (some ⟨A, 0, none⟩)] 24) (.cells #[.int .i64 l] 3)
      rw [nblk_alloc, nblk_alloc] at h; exact h
  obtain ⟨W0, b0, b1, b2, b3, hW0, e0, e1, e2, e3, gr, hsz, k0, k1, k2, k3⟩ := F0
  rw [hW0, e3, e2, e1, e0]
  have hA0 := hA.grown gr
  have hKb : ∀ k, afoot b2 b3 A pr Mp g k → k < W0.heap.size ∧ ¬ (k = b1) := fun k hk => by
    rcases hk with rfl | rfl | hk
    · exact ⟨by omega, by omega⟩
    · exact ⟨by omega, by omega⟩
    · have := hA.foot_lt hk
      exact ⟨by omega, by omega⟩
  have it := all_it (li := l) k2 k3 hA0
  rw [← HD.out] at it
  clear hW0 am HD
  have hsE : b0 < b1 ∧ b1 < b2 ∧ b2 < b3 ∧ w.heap.size = b0 := by omega
  clear e1 e2 e3
  refine wpIn_over (gf := 44) (lb := #[.pointer (some ⟨b2, 0, none⟩), .pointer (some ⟨b3, 0, none⟩)]) rfl (enters_of Try.func44 (by kernel_rfl) rfl) it (Keep.refl _ _) (by intro x hx; obtain ⟨i, _, rfl⟩ := List.mem_map.1 hx; rfl) (G := fun k => k = b1 ∨ In none k)
    (fun k hk => ⟨(hKb k hk).1, fun h => by
      rcases h with h | h
      · exact (hKb k hk).2 h
      · exact In.no h⟩)
    (fun i G W => Colr w b0 b1 M D i G W ∧ (i : Int) < M)
    (fun c i G W => c = .exit 0 ∧ Colr w b0 b1 M D i G W ∧ i = M.toNat)
    (fun i G X Y ⟨h1, h2⟩ tn => ⟨h1.turn tn (by omega), h2⟩)
    (fun c i G X Y ⟨h1, h2, h3⟩ tn => ⟨h1, h2.turn tn (by omega), h3⟩)
    (fun i G X ⟨h1, _⟩ => h1.lt)
    ⟨⟨⟨none, 0, k0, k1, Vec.nil _ _ _ _, rfl, fun k h => absurd h In.no⟩, gr⟩, by omega⟩ ?round ?done ?stop
  case round =>
    rintro l2 i x G1 W1 hx ⟨hc, hiM⟩ hs1
    rw [List.getElem?_map, List.getElem?_map] at hx
    obtain ⟨y, hy, rfl⟩ := Option.map_eq_some_iff.1 hx
    obtain ⟨pv, hpv, rfl⟩ := Option.map_eq_some_iff.1 hy
    unfold idE
    gi_wp2
    refine ⟨Grown.refl _, fun W2 tn hs2 => ?_⟩
    have hc2 := hc.turn tn (by omega)
    have hb01 : b0 < W1.heap.size ∧ b1 < W1.heap.size := by
      obtain ⟨⟨p, c, j0, j1, _⟩, _⟩ := hc
      exact ⟨lt_of j0, lt_of j1⟩
    obtain ⟨⟨p, c, j0, j1, jp, rfl, jbp⟩, jo⟩ := hc2
    have hib : i < 65536 := by
      have h1 := (List.getElem?_eq_some_iff.1 hpv).1
      omega
    have c0 : W2.cell? ⟨b0, 0, none⟩ = some (.int .i64 M) := cell_of j0 rfl
    have c1 : W2.cell? ⟨b1, 0, none⟩ = some (.slice p i c) := cell_of j1 rfl
    have A1 : Hid (∀ p' c' w3, Vec w3 3 1 p' (i + 1) c' (fun j => if j < i * 1 then idsC D j else .int .i64 pv.1) → Out (In p) (W2.alloc (.cells #[.int .i64 pv.1] 3)) w3 → (p' = p ∨ p' = some ⟨(W2.alloc (.cells #[.int .i64 pv.1] 3)).heap.size, 0, none⟩) →
        (w3.cell? ⟨b1, 0, none⟩ = some (.slice p i c) ∧ w3.frozen? ⟨b1, 0, none⟩ = false) ∧ ∃ Y, w3.setCell ⟨b1, 0, none⟩ (.slice p' (i + 1) c') = Y ∧ Y.cell? ⟨b0, 0, none⟩ = some (.int .i64 M) ∧ Y.cell? ⟨b1, 0, none⟩ = some (.slice p' (i + 1) c') ∧ ∃ G2, Colr w b0 b1 M D (i + 1) G2 Y ∧ Step (fun k => k = b1 ∨ In p k) G2 W2 Y) := fun p' c' w3 hv3 ho3 hp3 => by
      have nb : ¬ In p b1 := fun h => Nat.lt_irrefl _ (jbp _ h)
      obtain ⟨g1, g2, g3, g4, g5⟩ := boxed_append j1 nb hv3 ho3 hp3
      have z0 : (w3.setCell ⟨b1, 0, none⟩ (.slice p' (i + 1) c')).heap[b0]? = some (.cells #[.int .i64 M] 3 (0, 0)) := (g4.block b0 (lt_of j0) (fun h => by
        rcases h with h | h
        · omega
        · have := jbp _ h; omega)).trans j0
      have st : Step (fun k => k = b1 ∨ In p k) (fun k => k = b1 ∨ In p' k) W2 (w3.setCell ⟨b1, 0, none⟩ (.slice p' (i + 1) c')) := ⟨g4, fun k h => by
        rcases h with h | h
        · exact Or.inl (Or.inl h)
        · rcases g5 k h with h' | h'
          · exact Or.inl (Or.inr h')
          · exact Or.inr (by omega)⟩
      refine ⟨⟨cell_of g1 rfl, froz_of g1 0⟩, _, rfl, cell_of z0 rfl, cell_of g2 rfl, _, ⟨⟨p', c', z0, g2, g3.congr fun j hj => ?_, rfl, fun k hk => ?_⟩, st.out.grown jo fun k hk => ?_⟩, st⟩
      · by_cases e : j < i * 1
        · rw [if_pos e]
        · rw [if_neg e]
          have : j = i := by omega
          subst this
          unfold idsC
          rw [List.getD_eq_getElem?_getD, List.getElem?_map, hpv]; rfl
      · rcases g5 k hk with h | h
        · exact jbp k h
        · have := tn.size; omega
      · rcases hk with h | h
        · omega
        · have := jbp k h; omega
    gi_wp2_with (first | (gi_at_builtin; refine wpListIn_append_vec rfl (.tmp 13) (.tmp 15) 36 rfl Try.underlying36 infoInt rfl rfl (jp.grown ((Grown.refl _).alloc _ _)) rfl (by decide) (new_ptr _ _ _) (fun _ _ => rfl) (by omega) (by omega) ?_; intro p' c' w3 hv3 ho3 hp3; obtain ⟨⟨f1, f2⟩, Y, hY, y0, y1, G2, hC, hS⟩ := A1.out _ _ _ hv3 ho3 hp3; have HC : Hid (Colr w b0 b1 M D (i + 1) G2 Y ∧ Step (fun k => k = b1 ∨ In p k) G2 W2 Y) := ⟨hC, hS⟩; clear hv3 ho3 hp3 hC hS))
    · exact ⟨G2, ⟨rfl, HC.out.1, by omega⟩, HC.out.2⟩
    · exact ⟨G2, ⟨HC.out.1, by omega⟩, HC.out.2⟩
  case done =>
    rintro D0 G' W1 hD0 ⟨hc, hiM⟩ hd
    rw [List.length_map, List.length_map] at hc hiM
    obtain ⟨⟨p, c, j0, j1, jp, _, jbp⟩, jo⟩ := hc
    have c1 : W1.cell? ⟨b1, 0, none⟩ = some (.slice p D.length c) := cell_of j1 rfl
    obtain ⟨L, HL⟩ : ∃ L, Hid (L = D.length) := ⟨_, rfl⟩
    rw [← HL.out] at c1 hiM
    have HE : Hid (Vec W1 3 1 p D.length c (idsC D) ∧ Grown w W1 ∧ W1.heap[D0]? = some (.deferred (some [])) ∧ (∀ k, In p k → b1 < k)) := ⟨jp, jo, hd, jbp⟩
    clear jp j0 j1 hA hA0 hKb k0 k1 k2 k3 gr jo hd jbp it
    gi_wp2
    obtain ⟨v1, v3, v4, v5⟩ := HE.out
    refine ⟨by simp, .inl ⟨_, _, rfl, run_takeDeferred v4, ?_⟩⟩
    have tp : Turn w.heap.size W1 (W1.putObj D0 (.deferred none)) := Turn.putObj _ v4 rfl rfl (by omega)
    exact ⟨_, results_tmp rfl _ _ _, p, c, L, rfl, by rw [← HL.out]; omega, by rw [HL.out]; exact tp.vec v1, Turn.grown v3 tp (Nat.le_refl _), fun x hx => by have := v5 x hx; omega⟩
  case stop =>
    rintro D0 cc i G' W1 hD0 hi ⟨rfl, hc, hiM⟩ hd
    rw [List.length_map, List.length_map] at hi
    obtain ⟨⟨p, c, j0, j1, jp, _, jbp⟩, jo⟩ := hc
    have c1 : W1.cell? ⟨b1, 0, none⟩ = some (.slice p (i + 1) c) := cell_of j1 rfl
    have HE : Hid (Vec W1 3 1 p (i + 1) c (idsC D) ∧ Grown w W1 ∧ W1.heap[D0]? = some (.deferred (some [])) ∧ (∀ k, In p k → b1 < k)) := ⟨jp, jo, hd, jbp⟩
    have HI : Hid (i + 1 = M.toNat ∧ i < D.length) := ⟨hiM, hi⟩
    clear jp j0 j1 hA hA0 hKb k0 k1 k2 k3 gr jo hd jbp it hiM hi
    gi_wp2
    obtain ⟨v1, v3, v4, v5⟩ := HE.out
    refine ⟨by simp, .inl ⟨_, _, rfl, run_takeDeferred v4, ?_⟩⟩
    have tp : Turn w.heap.size W1 (W1.putObj D0 (.deferred none)) := Turn.putObj _ v4 rfl rfl (by omega)
    exact ⟨_, results_tmp rfl _ _ _, p, c, i + 1, rfl, by have h1 := HI.out.1; have h2 := HI.out.2; omega, tp.vec v1, Turn.grown v3 tp (Nat.le_refl _), fun x hx => by have := v5 x hx; omega⟩
end Go.Proofs.Ytecnlciogcanmaa
