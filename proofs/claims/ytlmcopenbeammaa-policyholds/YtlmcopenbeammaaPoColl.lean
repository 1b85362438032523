/-
  What slices.Collect tells of the iterator of a row: its numbers, in a slice of its own.
-/
import Derived.Test.YtlmcopenbeammaaDqAll
namespace Go.Proofs.Ytlmcopenbeammaa
open Go.RowKit Go.Deep
attribute [local go_sem] Oper.semAt_some

/-- What lies behind i rounds: the box of the slice, the slice. -/
structure Cola (w : World) (b1 : Nat) (D : List (Int × Int)) (i : Nat) (G : Nat → Prop) (W : World) : Prop where
  ex : ∃ p c, W.heap[b1]? = some (.cells #[.slice p i c] 26 (0, 0)) ∧ Vec W 3 1 p i c (idsC D) ∧ G = (fun k => k = b1 ∨ In p k) ∧ (∀ k, In p k → b1 < k)
  old : Grown w W
variable {w : World} {b1 : Nat} {D : List (Int × Int)} {i : Nat} {G : Nat → Prop} {X Y : World}
theorem Cola.turn {b : Nat} (h : Cola w b1 D i G X) (tn : Turn b X Y) (hb : w.heap.size ≤ b) : Cola w b1 D i G Y := by
  obtain ⟨⟨p, c, h2, h3, h4⟩, h7⟩ := h
  exact ⟨⟨p, c, tn.cells h2 rfl, tn.vec h3, h4⟩, Turn.grown h7 tn hb⟩
theorem Cola.lt (h : Cola w b1 D i G X) : ∀ k, G k → k < X.heap.size := by
  obtain ⟨⟨p, c, h2, h3, rfl, _⟩, h7⟩ := h
  rintro k (rfl | hk)
  · exact lt_of h2
  · exact h3.lt hk
set_option maxRecDepth 100000 in
set_option maxHeartbeats 4000000 in
theorem appendSeq_c {A b2 b3 : Nat} {l : Int} {pr : Option Addr} {cr Mp : Nat} {g : Gh} {m : Int → Option Nat} (k2' : w.heap[b2]? = some (.cells #[ptr A] 45 (0, 0))) (k3' : w.heap[b3]? = some (.cells #[.int .i64 l] 3 (0, 0))) (hA : DqM w A pr cr Mp g m) :
    Calls Try.prog 52 #[.slice none 0 0, .func (.func 53) #[] #[.pointer (some ⟨b2, 0, none⟩), .pointer (some ⟨b3, 0, none⟩)]] w fun e w' => ∃ p c k, e = .returned (.slice p k c) ∧ k = (g.rowI l).length ∧ Vec w' 3 1 p k c (idsC (g.rowI l)) ∧ Grown w w' ∧ ∀ x, In p x → w.heap.size ≤ x := by
  have hlen : (g.rowI l).length ≤ 65536 := by
    unfold Gh.rowI
    split
    · have hl : 0 ≤ l ∧ l < (g.n : Int) := by assumption
      unfold Gh.row; rw [List.length_map]; exact hA.core.wf.len (by omega)
    · simp
  obtain ⟨D, hD⟩ : ∃ D, D = g.rowI l := ⟨_, rfl⟩
  rw [← hD] at hlen ⊢
  have HD : Hid (D = g.rowI l) := hD
  clear hD
  obtain ⟨n⟩ : Nonempty Nat := ⟨0⟩
  refine (callsIn_wide (n := n)).1 ?_
  refine callsIn_of_wp_marks Try.func52 rfl trivial ?_ rfl
  simp only [Try.ntmps52, List.size_toArray, List.length_cons, List.length_nil, Nat.reduceAdd, Nat.reduceSub, Array.replicate_succ, Array.replicate_zero, List.push_toArray, List.append_toArray, List.nil_append, List.cons_append]
  gi_wp2
  have F0 : ∃ W0 b1, w.alloc (.cells #[.slice none 0 0] 26) = W0 ∧ w.heap.size = b1 ∧ Grown w W0 ∧ W0.heap.size = b1 + 1 ∧ W0.heap[b1]? = some (.cells #[.slice none 0 0] 26 (0, 0)) :=
    ⟨_, _, rfl, rfl, (Grown.refl _).alloc _ _, by simp, blk_alloc_new _ _⟩
  obtain ⟨W0, b1, hW0, e1, gr, hsz, k1⟩ := F0
  have l2 := lt_of k2'
  have l3 := lt_of k3'
  have hA0 := hA.grown gr
  have k2 := (grown_block gr l2).trans k2'
  have k3 := (grown_block gr l3).trans k3'
  have hAl : ∀ k, dfoot A pr Mp g k → k < w.heap.size := fun k hk => hA.foot_lt hk
  rw [hW0, e1]
  rw [e1] at l2 l3 hAl
  have hKb : ∀ k, afoot b2 b3 A pr Mp g k → k < W0.heap.size ∧ ¬ (k = b1) := fun k hk => by
    rcases hk with rfl | rfl | hk
    · exact ⟨by omega, by omega⟩
    · exact ⟨by omega, by omega⟩
    · have := hAl k hk
      exact ⟨by omega, by omega⟩
  have it := all_it (li := l) k2 k3 hA0
  rw [← HD.out] at it
  clear hW0 HD k2' k3' hA
  refine wpIn_over (gf := 53) (lb := #[.pointer (some ⟨b2, 0, none⟩), .pointer (some ⟨b3, 0, none⟩)]) rfl (enters_of Try.func53 (by kernel_rfl) rfl) it (Keep.refl _ _) (by intro x hx; obtain ⟨i, _, rfl⟩ := List.mem_map.1 hx; rfl) (G := fun k => k = b1 ∨ In none k)
    (fun k hk => ⟨(hKb k hk).1, fun h => by
      rcases h with h | h
      · exact (hKb k hk).2 h
      · exact In.no h⟩)
    (fun i G W => Cola w b1 D i G W)
    (fun c i G W => False)
    (fun i G X Y h1 tn => h1.turn tn (by omega))
    (fun c i G X Y h tn => h)
    (fun i G X h1 => h1.lt)
    ⟨⟨none, 0, k1, Vec.nil _ _ _ _, rfl, fun k h => absurd h In.no⟩, gr⟩ ?round ?done ?stop
  case round =>
    rintro l2 i x G1 W1 hx hc hs1
    rw [List.getElem?_map, List.getElem?_map] at hx
    obtain ⟨y, hy, rfl⟩ := Option.map_eq_some_iff.1 hx
    obtain ⟨pv, hpv, rfl⟩ := Option.map_eq_some_iff.1 hy
    unfold idE
    gi_wp2
    refine ⟨Grown.refl _, fun W2 tn hs2 => ?_⟩
    have hc2 := hc.turn tn (by omega)
    have hb01 : b1 < W1.heap.size := by
      obtain ⟨⟨p, c, j1, _⟩, _⟩ := hc
      exact lt_of j1
    obtain ⟨⟨p, c, j1, jp, rfl, jbp⟩, jo⟩ := hc2
    have hib : i < 65536 := by
      have h1 := (List.getElem?_eq_some_iff.1 hpv).1
      omega
    have c1 : W2.cell? ⟨b1, 0, none⟩ = some (.slice p i c) := cell_of j1 rfl
    have A1 : Hid (∀ p' c' w3, Vec w3 3 1 p' (i + 1) c' (fun j => if j < i * 1 then idsC D j else .int .i64 pv.1) → Out (In p) (W2.alloc (.cells #[.int .i64 pv.1] 3)) w3 → (p' = p ∨ p' = some ⟨(W2.alloc (.cells #[.int .i64 pv.1] 3)).heap.size, 0, none⟩) →
        (w3.cell? ⟨b1, 0, none⟩ = some (.slice p i c) ∧ w3.frozen? ⟨b1, 0, none⟩ = false) ∧ ∃ Y, w3.setCell ⟨b1, 0, none⟩ (.slice p' (i + 1) c') = Y ∧ Y.cell? ⟨b1, 0, none⟩ = some (.slice p' (i + 1) c') ∧ ∃ G2, Cola w b1 D (i + 1) G2 Y ∧ Step (fun k => k = b1 ∨ In p k) G2 W2 Y) := fun p' c' w3 hv3 ho3 hp3 => by
      have nb : ¬ In p b1 := fun h => Nat.lt_irrefl _ (jbp _ h)
      obtain ⟨g1, g2, g3, g4, g5⟩ := boxed_append j1 nb hv3 ho3 hp3
      have st : Step (fun k => k = b1 ∨ In p k) (fun k => k = b1 ∨ In p' k) W2 (w3.setCell ⟨b1, 0, none⟩ (.slice p' (i + 1) c')) := ⟨g4, fun k h => by
        rcases h with h | h
        · exact Or.inl (Or.inl h)
        · rcases g5 k h with h' | h'
          · exact Or.inl (Or.inr h')
          · exact Or.inr (by omega)⟩
      refine ⟨⟨cell_of g1 rfl, froz_of g1 0⟩, _, rfl, cell_of g2 rfl, _, ⟨⟨p', c', g2, g3.congr fun j hj => ?_, rfl, fun k hk => ?_⟩, st.out.grown jo fun k hk => ?_⟩, st⟩
      · by_cases e : j < i * 1
        · rw [if_pos e]
        · rw [if_neg e]
          have : j = i := by omega
          subst this
          unfold idsC
          rw [List.getD_eq_getElem?_getD, List.getElem?_map, hpv]; rfl
      · rcases g5 k hk with h | h
        · exact jbp k h
        · have := tn.size; omega
      · rcases hk with h | h
        · omega
        · have := jbp k h; omega
    gi_wp2_with (first | (gi_at_builtin; refine wpListIn_append_vec rfl (.tmp 8) (.tmp 10) 26 rfl Try.underlying26 infoIntD rfl rfl (jp.grown ((Grown.refl _).alloc _ _)) rfl (by decide) (new_ptr _ _ _) (fun _ _ => rfl) (by omega) (by omega) ?_; intro p' c' w3 hv3 ho3 hp3; obtain ⟨⟨f1, f2⟩, Y, hY, y1, G2, hC, hS⟩ := A1.out _ _ _ hv3 ho3 hp3; have HC : Hid (Cola w b1 D (i + 1) G2 Y ∧ Step (fun k => k = b1 ∨ In p k) G2 W2 Y) := ⟨hC, hS⟩; clear hv3 ho3 hp3 hC hS))
    exact ⟨G2, HC.out.1, HC.out.2⟩
  case done =>
    rintro D0 G' W1 hD0 hc hd
    rw [List.length_map, List.length_map] at hc
    obtain ⟨⟨p, c, j1, jp, _, jbp⟩, jo⟩ := hc
    have c1 : W1.cell? ⟨b1, 0, none⟩ = some (.slice p D.length c) := cell_of j1 rfl
    obtain ⟨L, HL⟩ : ∃ L, Hid (L = D.length) := ⟨_, rfl⟩
    rw [← HL.out] at c1
    have HE : Hid (Vec W1 3 1 p D.length c (idsC D) ∧ Grown w W1 ∧ W1.heap[D0]? = some (.deferred (some [])) ∧ (∀ k, In p k → b1 < k)) := ⟨jp, jo, hd, jbp⟩
    clear jp j1 hA0 hKb k1 k2 k3 gr jo hd jbp it
    gi_wp2
    obtain ⟨v1, v3, v4, v5⟩ := HE.out
    refine ⟨by simp, .inl ⟨_, _, rfl, run_takeDeferred v4, ?_⟩⟩
    have tp : Turn w.heap.size W1 (W1.putObj D0 (.deferred none)) := Turn.putObj _ v4 rfl rfl (by omega)
    exact ⟨_, results_tmp rfl _ _ _, p, c, L, rfl, by rw [← HL.out], by rw [HL.out]; exact tp.vec v1, Turn.grown v3 tp (Nat.le_refl _), fun x hx => by have := v5 x hx; omega⟩
  case stop =>
    rintro D0 cc i G' W1 hD0 hi hc hd
    exact hc.elim

theorem collect_c {A b2 b3 : Nat} {l : Int} {F : Nat → Prop} {t : Ds} (k2 : w.heap[b2]? = some (.cells #[ptr A] 45 (0, 0))) (k3 : w.heap[b3]? = some (.cells #[.int .i64 l] 3 (0, 0))) (h : Dq w A F t) :
    Calls Try.prog 27 #[.func (.func 53) #[] #[.pointer (some ⟨b2, 0, none⟩), .pointer (some ⟨b3, 0, none⟩)]] w fun e w' => ∃ p c k, e = .returned (.slice p k c) ∧ k = (t.rowI l).length ∧ Vec w' 3 1 p k c (idsC (t.rowI l)) ∧ Grown w w' ∧ ∀ x, In p x → w.heap.size ≤ x := by
  obtain ⟨pr, cr, Mp, g, m, hA, rfl, rfl⟩ := h
  rw [← Gh.rowI_st]
  have ap := appendSeq_c k2 k3 hA
  clear k2 k3 hA
  go_enter Try.func27, Try.ntmps27
  go_wp2_with (go_at_call 52; refine ap.mono ?_; rintro e w' ⟨p, c, k, rfl, rfl, hv, hg, hi⟩)
  go_ret
  exact ⟨p, c, _, rfl, rfl, hv, hg, hi⟩
end Go.Proofs.Ytlmcopenbeammaa
