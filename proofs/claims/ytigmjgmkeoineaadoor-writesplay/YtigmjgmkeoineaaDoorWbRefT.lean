/-
  What Commit and Take of package pantryref14 do when they are called, there being room, or an event. No condition but those told at each sentence.
-/
import Derived.Test.YtigmjgmkeoineaaDoorWbRef
namespace Go.Proofs.YtigmjgmkeoineaaDoor.Wb
open Go.RowKit Go.Deep Us
variable {w w' : World} {A N c r : Nat} {p : Option Addr} {q : List Ev}

theorem new_ev (w : World) (e : Ev) (y : TypeId) : ∀ j, j < 1 * 4 → (w.alloc (.cells #[.int .i64 e.d, .int .i64 e.n, .int .i64 e.k, .int .i64 e.x] y)).cell? ((⟨w.heap.size, 0, none⟩ : Addr).add j) = some (e.c j) := fun j hj => by
  have e1 : (⟨w.heap.size, 0, none⟩ : Addr).add j = ⟨w.heap.size, j, none⟩ := by unfold Addr.add; split <;> simp_all
  rw [e1]
  refine cell_of (blk_alloc_new _ _) ?_
  rcases (by omega : j = 0 ∨ j = 1 ∨ j = 2 ∨ j = 3) with rfl | rfl | rfl | rfl <;> rfl
theorem rcommit_yes (h : Rb w A N p c q (r + 1)) (e : Ev) (hr : r ≤ 4096) (hq : q.length ≤ 4096) : Calls Tryd.prog 15 #[ptr A, e.v] w fun o w' => ∃ p' c', o = .returned (.int .i64 0) ∧ Rb w' A N p' c' (q ++ [e]) r ∧ Step (rbF A p) (rbF A p') w w' := by
  obtain ⟨c0, c1, c2⟩ := h.cells
  have c2 : w.cell? ⟨A, 2, none⟩ = some (.int .i64 ((r : Int) + 1)) := c2
  have f2 := h.free 2
  have hz : ¬ (r : Int) + 1 = 0 := by omega
  have hz2 : ((r : Int) + 1 == 0) = false := by simp; omega
  have hb := lt_of h.head
  have h1 : Rb ((w.setCell ⟨A, 2, none⟩ (.int .i64 (r : Int))).alloc (.cells #[.int .i64 e.d, .int .i64 e.n, .int .i64 e.k, .int .i64 e.x] 30)) A N p c q r := (h.setR r).grown ((Grown.refl _).alloc _ _)
  have o1 : Hid (Out (rbF A p) w ((w.setCell ⟨A, 2, none⟩ (.int .i64 (r : Int))).alloc (.cells #[.int .i64 e.d, .int .i64 e.n, .int .i64 e.k, .int .i64 e.x] 30))) := ((Out.refl _ _).setCell (Or.inl rfl) _).alloc _ _
  have hE1 : ((w.setCell ⟨A, 2, none⟩ (.int .i64 (r : Int))).alloc (.cells #[.int .i64 e.d, .int .i64 e.n, .int .i64 e.k, .int .i64 e.x] 30)).heap[w.heap.size]? = some (.cells #[.int .i64 e.d, .int .i64 e.n, .int .i64 e.k, .int .i64 e.x] 30 (0, 0)) := by
    have := blk_alloc_new (w.setCell ⟨A, 2, none⟩ (.int .i64 (r : Int))) (.cells #[.int .i64 e.d, .int .i64 e.n, .int .i64 e.k, .int .i64 e.x] 30)
    rwa [nblk_setCell] at this
  have HX : Hid (¬ In p w.heap.size) := fun x => by have := h.vec.lt x; omega
  have H1 : Hid (Rb ((w.setCell ⟨A, 2, none⟩ (.int .i64 (r : Int))).alloc (.cells #[.int .i64 e.d, .int .i64 e.n, .int .i64 e.k, .int .i64 e.x] 30)) A N p c q r ∧ ((w.setCell ⟨A, 2, none⟩ (.int .i64 (r : Int))).alloc (.cells #[.int .i64 e.d, .int .i64 e.n, .int .i64 e.k, .int .i64 e.x] 30)).heap[w.heap.size]? = some (.cells #[.int .i64 e.d, .int .i64 e.n, .int .i64 e.k, .int .i64 e.x] 30 (0, 0))) := ⟨h1, hE1⟩
  obtain ⟨k, hk⟩ : ∃ k, Hid (k = q.length) := ⟨_, rfl⟩
  rw [← hk.out] at c1 hq
  clear h h1 hE1
  unfold ptr Ev.v
  go_enter Tryd.func15, Tryd.ntmps15
  go_wp2
  generalize ((w.setCell ⟨A, 2, none⟩ (.int .i64 (r : Int))).alloc (.cells #[.int .i64 e.d, .int .i64 e.n, .int .i64 e.k, .int .i64 e.x] 30)) = W1 at H1 o1 ⊢
  obtain ⟨E, hE⟩ : ∃ E, Hid (E = w.heap.size) := ⟨_, rfl⟩
  rw [← hE.out] at H1 HX ⊢
  have HB : Hid (Rb W1.drew A N p c q r) := H1.out.1.grown (Grown.refl _).drew
  have hE2 : W1.drew.heap[E]? = some (.cells #[.int .i64 e.d, .int .i64 e.n, .int .i64 e.k, .int .i64 e.x] 30 (0, 0)) := H1.out.2
  have lE : E < W1.heap.size := lt_of H1.out.2
  have O2 : Hid (Out (rbF A p) w W1.drew) := o1.out.drew
  clear c0 c1 c2 f2 hz hz2 H1 o1
  obtain ⟨c0, c1, c2⟩ := HB.out.cells
  rw [← hk.out] at c1
  have hb2 := lt_of HB.out.head
  refine region_fill [6, 7, 10] [(17, .pointer (some ⟨A, 0, none⟩)), (18, .pointer (some ⟨A, 0, none⟩)), (19, .pointer (some ⟨A, 0, none⟩)), (20, .pointer (some ⟨A, 1, none⟩)), (21, .slice p k c), (22, .agg #[.int .i64 e.d, .int .i64 e.n, .int .i64 e.k, .int .i64 e.x]), (25, .pointer (some ⟨A, 0, none⟩)), (26, .pointer (some ⟨A, 1, none⟩))] hmx (by kernel_rfl) (by kernel_rfl) ?_
  simp only [fills, Act.put, List.setIfInBounds_toArray, List.set_cons_zero, List.set_cons_succ]
  generalize W1.drew = W2 at HB hE2 O2 c0 c1 c2 hb2 ⊢
  have lE2 := lt_of hE2
  refine flow_val (some 23) (.slice (some ⟨W2.heap.size, 0, none⟩) 1 1) (W2.alloc (.cells #[.int .i64 e.d, .int .i64 e.n, .int .i64 e.k, .int .i64 e.x] 30)) _ rfl rfl ?run (by go_simp) ?_
  case run =>
    intro i o ho hi
    iterate 11 (rcases i with _ | i; · first | (exact absurd hi (by decide)) | (cases ho; exact exec_load_row 30 _ rfl E rfl _ _ _ _ hE2 Tryd.underlying30 rfl sizeEv) | (cases ho; go_simp; done))
    cases ho
  simp only [Act.put, List.setIfInBounds_toArray, List.set_cons_zero, List.set_cons_succ]
  have gA : Grown W2 (W2.alloc (.cells #[.int .i64 e.d, .int .i64 e.n, .int .i64 e.k, .int .i64 e.x] 30)) := (Grown.refl _).alloc _ _
  have hv0 : Vec (W2.alloc (.cells #[.int .i64 e.d, .int .i64 e.n, .int .i64 e.k, .int .i64 e.x] 30)) 30 4 p k c (evL q) := by rw [hk.out]; exact (HB.out.grown gA).vec
  obtain ⟨p', c', w3, hr3, hv3, ho3, hp3⟩ := run_append_vec (P := Tryd.prog) 23 Tryd.underlying23 infoEv rfl hv0 (cx := 1) (by decide) (new_ev W2 e 30) (fun j _ => evc_one e j) (by omega) (by omega)
  have HK : Hid (w3.heap[A]? = W2.heap[A]? ∧ w3.heap[E]? = W2.heap[E]? ∧ Rb (w3.setCell ⟨A, 1, none⟩ (.slice p' (k + 1) c')) A N p' c' (q ++ [e]) r ∧ Step (rbF A p) (rbF A p') W2 (w3.setCell ⟨A, 1, none⟩ (.slice p' (k + 1) c'))) := by
    have hv' : Vec w3 30 4 p' (q ++ [e]).length c' (evL (q ++ [e])) := by
      rw [List.length_append]
      rw [hk.out] at hv3
      exact hv3.congr (evL_push q e)
    have o : Out (fun x => In p x ∨ W2.heap.size ≤ x) W2 w3 := (Out.of_grown gA _).trans ho3 fun x hx => .inl (.inl hx)
    have K := HB.out.put o hv' fun x hx => by
      rcases hp3 with rfl | rfl
      · exact .inl hx
      · have := hx.eq; have := gA.2.2; exact .inr (by omega)
    rw [List.length_append, ← hk.out] at K
    have nA : ¬ (In p A ∨ W2.heap.size ≤ A) := fun x => by
      rcases x with x | x
      · exact HB.out.self x
      · omega
    have nE : ¬ (In p E ∨ W2.heap.size ≤ E) := fun x => by
      rcases x with x | x
      · exact HX.out x
      · omega
    exact ⟨o.block A hb2 nA, o.block E lE2 nE, K⟩
  have hE3 := HK.out.2.1.trans hE2
  have hE1 : (W2.alloc (.cells #[.int .i64 e.d, .int .i64 e.n, .int .i64 e.k, .int .i64 e.x] 30)).heap[E]? = some (.cells #[.int .i64 e.d, .int .i64 e.n, .int .i64 e.k, .int .i64 e.x] 30 (0, 0)) := (grown_block gA lE2).trans hE2
  have hA1 := (grown_block gA hb2).trans HB.out.head
  have hA3 := HK.out.1.trans HB.out.head
  rw [← hk.out] at hA1 hA3
  have cA1 := cell_of (k := 1) hA1 rfl
  have lA1 := lt_of hA1
  have lE1 := lt_of hE1
  clear hv0 hv3 ho3 hp3 c0 c1 c2 gA hE2 hA1
  refine flow_val (some 24) (.slice p' (k + 1) c') w3 _ rfl rfl ?run (exec_append rfl rfl rfl hr3) ?_
  case run =>
    clear hr3 HK
    intro i o ho hi
    iterate 11 (rcases i with _ | i; · first | (exact absurd hi (by decide)) | (cases ho; exact exec_load_row 30 _ rfl E rfl _ _ _ _ hE1 Tryd.underlying30 rfl sizeEv) | (cases ho; go_simp; done))
    cases ho
  clear hr3 cA1 lA1 lE1 hE1
  have cA3 := cell_of (k := 1) hA3 rfl
  have fA3 := fr0 hA3 1
  have lA3 := lt_of hA3
  have lE3 := lt_of hE3
  simp only [Act.put, List.setIfInBounds_toArray, List.set_cons_zero, List.set_cons_succ]
  refine flow_cons _ undef (w3.setCell ⟨A, 1, none⟩ (.slice p' (k + 1) c')) rfl ?run ?eff ?next
  case run =>
    clear HK
    intro i o ho hi
    iterate 11 (rcases i with _ | i; · first | (exact absurd hi (by decide)) | (cases ho; exact exec_load_row 30 _ rfl E rfl _ _ _ _ hE3 Tryd.underlying30 rfl sizeEv) | (cases ho; go_simp; done))
    cases ho
  case eff => first | (left; go_simp; done) | (right; refine ⟨?_, rfl⟩; go_simp; done)
  case next =>
    show Exit.then _ _ Exit.normal _ _
    simp only [Act.put]
    clear cA3 fA3 lA3 lE3 hE3 hA3
    go_wp2
    go_ret
    refine ⟨p', c', rfl, HK.out.2.2.1, ?_⟩
    have s := HK.out.2.2.2
    refine ⟨O2.out.trans s.out fun x hx => .inl hx, fun x hx => ?_⟩
    rcases s.new x hx with y | y
    · exact .inl y
    · have := O2.out.size; exact .inr (by omega)
theorem rtake_yes (h : Rb w A N p c q r) (hl : 0 < q.length) (hm : q.length ≤ 4096) :
    Calls Tryd.prog 19 #[ptr A] w fun e w' => ∃ p' c', e = .returned (.tuple #[(q.getD 0 e0).v, .bool true]) ∧ Rb w' A N p' c' q.tail r ∧ Step (rbF A p) (rbF A p') w w' := by
  obtain ⟨c0, c1, c2⟩ := h.cells
  obtain ⟨B, rfl, lB, hB, _, nB⟩ := h.vec.opens hl
  have k0 := hB (0 * 4) (by omega)
  have k1 := hB (0 * 4 + 1) (by omega)
  have k2 := hB (0 * 4 + 2) (by omega)
  have k3 := hB (0 * 4 + 3) (by omega)
  rw [(evL_at q 0).1] at k0
  rw [(evL_at q 0).2.1] at k1
  rw [(evL_at q 0).2.2.1] at k2
  rw [(evL_at q 0).2.2.2] at k3
  simp only [Nat.zero_mul, Nat.zero_add] at k0 k1 k2 k3
  obtain ⟨v, hv⟩ : ∃ v, v = q.getD 0 e0 := ⟨_, rfl⟩
  rw [← hv] at k0 k1 k2 k3 ⊢
  obtain ⟨k, hk⟩ : ∃ k, Hid (k = q.length) := ⟨_, rfl⟩
  have hA := lt_of h.head
  have HB : Hid (Rb w A N (some ⟨B, 0, none⟩) c q r) := h
  have HL : Hid (0 < q.length) := hl
  obtain ⟨ad, had, HAD⟩ : ∃ ad : Addr, ((if c = 1 then some ⟨B, 0, none⟩ else some ⟨B, 4, none⟩) : Option Addr) = some ad ∧ Hid (1 < k → ad = ⟨B, 4, none⟩) := by
    by_cases e : c = 1
    · exact ⟨_, if_pos e, fun x => by have := hk.out; omega⟩
    · exact ⟨_, if_neg e, fun _ => rfl⟩
  rw [← hk.out] at c1 hl hm nB
  have hk0 : ¬ k = 0 := by omega
  have hk0' : (k == 0) = false := by simp; omega
  have hk1 : 1 ≤ k := hl
  have hc1 : 1 ≤ c := by omega
  have g2 : Grown w ((w.alloc (.cells #[.int .i64 0, .int .i64 0, .int .i64 0, .int .i64 0] 30)).alloc (.cells #[.int .i64 0, .int .i64 0, .int .i64 0, .int .i64 0] 30)) := ((Grown.refl _).alloc _ _).alloc _ _
  have hZ : ((w.alloc (.cells #[.int .i64 0, .int .i64 0, .int .i64 0, .int .i64 0] 30)).alloc (.cells #[.int .i64 0, .int .i64 0, .int .i64 0, .int .i64 0] 30)).heap[w.heap.size + 1]? = some (.cells #[.int .i64 0, .int .i64 0, .int .i64 0, .int .i64 0] 30 (0, 0)) := by
    have := blk_alloc_new (w.alloc (.cells #[.int .i64 0, .int .i64 0, .int .i64 0, .int .i64 0] 30)) (.cells #[.int .i64 0, .int .i64 0, .int .i64 0, .int .i64 0] 30)
    rwa [nblk_alloc] at this
  have hY : ((w.alloc (.cells #[.int .i64 0, .int .i64 0, .int .i64 0, .int .i64 0] 30)).alloc (.cells #[.int .i64 0, .int .i64 0, .int .i64 0, .int .i64 0] 30)).heap[w.heap.size]? = some (.cells #[.int .i64 0, .int .i64 0, .int .i64 0, .int .i64 0] 30 (0, 0)) := (blk_alloc_lt _ _ _ (by rw [nblk_alloc]; omega)).trans (blk_alloc_new _ _)
  have HY : Hid (Grown w ((w.alloc (.cells #[.int .i64 0, .int .i64 0, .int .i64 0, .int .i64 0] 30)).alloc (.cells #[.int .i64 0, .int .i64 0, .int .i64 0, .int .i64 0] 30)) ∧ ((w.alloc (.cells #[.int .i64 0, .int .i64 0, .int .i64 0, .int .i64 0] 30)).alloc (.cells #[.int .i64 0, .int .i64 0, .int .i64 0, .int .i64 0] 30)).heap[w.heap.size]? = some (.cells #[.int .i64 0, .int .i64 0, .int .i64 0, .int .i64 0] 30 (0, 0)) ∧ ((w.alloc (.cells #[.int .i64 0, .int .i64 0, .int .i64 0, .int .i64 0] 30)).alloc (.cells #[.int .i64 0, .int .i64 0, .int .i64 0, .int .i64 0] 30)).heap[w.heap.size + 1]? = some (.cells #[.int .i64 0, .int .i64 0, .int .i64 0, .int .i64 0] 30 (0, 0))) := ⟨g2, hY, hZ⟩
  have addB : ∀ (B o j : Nat), (⟨B, o, none⟩ : Addr).add j = ⟨B, o + j, none⟩ := fun B o j => by unfold Addr.add; split <;> simp_all
  have HC : Hid (∀ (W : World), Grown w W → 0 < k - 1 → ∃ ad', some ad = some ad' ∧ ∀ j, j < (k - 1) * 4 → W.cell? (ad'.add j) = some (evL q (4 + j))) := fun W g hp => ⟨ad, rfl, fun j hj => by
    rw [HAD.out (by omega), addB]
    obtain ⟨B', hB', _, hc', _⟩ := (HB.out.grown g).vec.opens HL.out
    cases hB'
    exact hc' (4 + j) (by have := hk.out; omega)⟩
  have HP : Hid (∀ (W : World), Grown w W → ∀ (w2 : World) (p' : Option Addr) (c' : Nat), Vec w2 30 4 p' (0 + (k - 1)) c' (fun j => if j < 0 * 4 then undef else evL q (4 + (j - 0 * 4))) → Out (In (some ⟨W.heap.size, 0, none⟩)) (W.alloc (.cells #[] 30)) w2 → (p' = some ⟨W.heap.size, 0, none⟩ ∨ p' = some ⟨(W.alloc (.cells #[] 30)).heap.size, 0, none⟩) →
      w2.heap[A]? = W.heap[A]? ∧ Out (fun x => W.heap.size ≤ x) W w2 ∧ Rb (w2.setCell ⟨A, 1, none⟩ (.slice p' (k - 1) c')) A N p' c' q.tail r ∧ Step (rbF A (some ⟨B, 0, none⟩)) (rbF A p') W (w2.setCell ⟨A, 1, none⟩ (.slice p' (k - 1) c')) ∧ ∀ x, In p' x → W.heap.size ≤ x) := fun W gW w2 p' c' hv ho hp => by
    have e0 : k - 1 = q.tail.length := by rw [List.length_tail, hk.out]
    have hv' : Vec w2 30 4 p' q.tail.length c' (evL q.tail) := by
      rw [← e0]
      rw [Nat.zero_add] at hv
      refine hv.congr fun j hj => ?_
      rw [if_neg (by omega), evL_tail]
      simp
    have gA : Grown W (W.alloc (.cells #[] 30)) := (Grown.refl W).alloc _ _
    have o1 : Out (fun x => W.heap.size ≤ x) W w2 := (Out.of_grown gA _).trans ho fun x hx => .inr (by rw [hx.eq]; exact Nat.le_refl _)
    have hp' : ∀ x, In p' x → W.heap.size ≤ x := fun x hx => by
      rcases hp with rfl | rfl
      · rw [hx.eq]; exact Nat.le_refl _
      · rw [hx.eq, nblk_alloc]; omega
    have hAW : A < W.heap.size := Nat.lt_of_lt_of_le hA gW.2.2
    have K := (HB.out.grown gW).put (o1.wide fun x _ hx => .inr hx) hv' fun x hx => .inr (hp' x hx)
    rw [← e0] at K
    exact ⟨o1.block A hAW (by omega), o1, K.1, K.2, hp'⟩
  have HV0 : Hid (∀ W : World, Vec (W.alloc (.cells #[] 30)) 30 4 (some ⟨W.heap.size, 0, none⟩) 0 0 (fun _ => undef)) := fun W => Vec.laid W 30 #[] 0 4 (by unfold maxLen; omega) rfl _ (fun j hj => by omega)
  clear h hB hv g2 hZ hY addB
  unfold ptr Ev.v
  go_enter Tryd.func19, Tryd.ntmps19
  go_wp2_with (first | (refine wpList_store_ev rfl rfl (.tmp 4) (.tmp 17) rfl (w.heap.size + 1) rfl rfl HY.out.2.2 rfl ?_; intro w3 hE o3; have g3 := o3.grown HY.out.1 (fun k hk => by omega); have hR := (o3.block w.heap.size (by have := lt_of HY.out.2.1; omega) (by omega)).trans HY.out.2.1; clear o3 HY c0 c1 c2 k0 k1 k2 k3; have KT : Hid (Grown w w3 ∧ w3.heap[w.heap.size]? = _ ∧ w3.heap[w.heap.size + 1]? = _) := ⟨g3, hR, hE⟩; clear g3 hR hE; obtain ⟨c0, c1, c2⟩ := (HB.out.grown KT.out.1).cells; rw [← hk.out] at c1; have lA3 := Nat.lt_of_lt_of_le hA KT.out.1.2.2) | (at_builtin; refine wpList_append_any rfl (.tmp 19) (.tmp 24) 23 rfl Tryd.underlying23 infoEv rfl rfl (HV0.out w3) rfl (HC.out _ (grownTrans KT.out.1 ((Grown.refl _).alloc _ _))) (fun j _ => evc_one _ _) (by omega) (by omega) ?_; intro p' c' w4 hv4 ho4 hp4; rw [Nat.zero_add]; have HK : Hid _ := HP.out w3 KT.out.1 w4 p' c' hv4 ho4 hp4; have hA4 := HK.out.1.trans (HB.out.grown KT.out.1).head; have KU : Hid (w4.heap[w.heap.size]? = _ ∧ w4.heap[w.heap.size + 1]? = _) := ⟨(HK.out.2.1.block _ (lt_of KT.out.2.1) (by have := lt_of KT.out.2.1; omega)).trans KT.out.2.1, (HK.out.2.1.block _ (lt_of KT.out.2.2) (by have := lt_of KT.out.2.2; omega)).trans KT.out.2.2⟩; clear hv4 ho4 hp4 c0 c1 c2 HP HC HV0 had; have c1 := cell_of (k := 1) hA4 rfl; have f1 := fr0 hA4 1; have lA4 := lt_of hA4; clear hA4) | (refine wpList_load_ev rfl (.tmp 4) rfl (w.heap.size + 1) rfl ((blk_setCell_other _ _ _ _ (by show w.heap.size + 1 ≠ A; omega)).trans KU.out.2) ?_) | (refine wpList_store_ev rfl rfl (.tmp 2) (.tmp 28) rfl w.heap.size rfl rfl ((blk_setCell_other _ _ _ _ (by show w.heap.size ≠ A; omega)).trans KU.out.1) rfl ?_; intro w6 hR6 o6))
  refine bodyPost_ret (results_row_tmp Tryd.results19 _ _ w.heap.size 30 _ (0, 0) _ rfl hR6 Tryd.underlying30 rfl sizeEv) rfl ⟨p', c', rfl, HK.out.2.2.1.out o6 fun x hx e => ?_, ?_⟩
  · rcases hx with hx | hx
    · omega
    · have := HK.out.2.2.2.2 x hx; have := lt_of KT.out.2.1; omega
  · have s := HK.out.2.2.2.1
    have o : Out (rbF A (some ⟨B, 0, none⟩)) w (w4.setCell ⟨A, 1, none⟩ (.slice p' (k - 1) c')) := Out.after KT.out.1 s.out
    refine ⟨o.trans o6 fun x hx => .inr (by omega), fun x hx => ?_⟩
    rcases s.new x hx with y | y
    · exact .inl y
    · have := KT.out.1.2.2; exact .inr (by omega)
end Go.Proofs.YtigmjgmkeoineaaDoor.Wb
