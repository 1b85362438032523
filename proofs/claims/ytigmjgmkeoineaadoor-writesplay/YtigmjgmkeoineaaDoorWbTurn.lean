/-
  What Commit and Take of package writes do when they are called. No condition but those told at each sentence.
-/
import Derived.Test.YtigmjgmkeoineaaDoorWbMem
namespace Go.Proofs.YtigmjgmkeoineaaDoor.Wb
open Go.RowKit Go.Deep Us
variable {w w' : World} {M N f r : Nat} {q : List Ev}

theorem commit_no (h : Bf w M N f q 0) (e : Ev) : Calls Tryd.prog 14 #[ptr (M + 1), e.v] w fun o w' => o = .returned (.int .i64 3) ∧ Grown w w' := by
  have cc := fun (W : World) (g : Grown w W) => cancel_no (h.grown g)
  have hb := h.raw.lt
  clear h
  unfold ptr Ev.v at *
  go_enter Tryd.func14, Tryd.ntmps14
  go_wp2_with (go_at_call 16; refine (cc _ ((Grown.refl _).alloc _ _)).mono ?_; rintro e w' ⟨rfl, hw'⟩; have hw' := hw'.symm; subst hw')
  go_ret
  exact ⟨rfl, (Grown.refl _).alloc _ _⟩
theorem infoEv : (Tryd.prog.info? 30).map (fun i => (i.zero, i.size, i.bytes)) = some (some (.agg #[.int .i64 0, .int .i64 0, .int .i64 0, .int .i64 0]), 4, 32) := by kernel_rfl
theorem sizeEv : (Tryd.prog.info? 30).map (·.size) = some 4 := by kernel_rfl
theorem wfI {x : Int} (h0 : 0 ≤ x) (h1 : x ≤ 9000000) : (Lit.int .i64 x).wf = true := by
  have e1 : IntKind.i64.min = -9223372036854775808 := by decide
  have e2 : IntKind.i64.max = 9223372036854775807 := by decide
  simp [Lit.wf, e1, e2]
  omega
theorem wrap_at {x : Int} (h0 : 0 ≤ x) (h1 : x ≤ 9000000000000000000) : IntKind.i64.wrap x = x := by
  exact IntWalk.i64_in x (by omega)
theorem commit_yes (h : Bf w M N f q (r + 1)) (e : Ev) (hf : f ≤ 1000000) : Calls Tryd.prog 14 #[ptr (M + 1), e.v] w fun o w' => o = .returned (.int .i64 0) ∧ Bf w' M N f (q ++ [e]) r ∧ Out (bfF M) w w' := by
  have hb := h.raw.lt
  have hle := h.le
  have hmo := h.most
  obtain ⟨E, hE⟩ : ∃ E, Hid (E = w.heap.size) := ⟨_, rfl⟩
  have cc : Hid (∀ (cs : Array Value) (ty : TypeId), Calls Tryd.prog 16 #[ptr (M + 1)] (w.alloc (.cells cs ty)) fun o w' => o = .returned (.int .i64 0) ∧ Bf w' M N f q r ∧ Out (bfF M) w w' ∧ w'.heap[E]? = some (.cells cs ty (0, 0))) := fun cs ty => by
    refine (cancel_yes (h.grown ((Grown.refl w).alloc cs ty))).mono ?_
    rintro o w' ⟨rfl, h1, h2⟩
    refine ⟨rfl, h1, Out.after ((Grown.refl w).alloc cs ty) h2, ?_⟩
    rw [hE.out, h2.block _ (by rw [nblk_alloc]; omega) (by unfold bfF; omega)]
    exact blk_alloc_new _ _
  have wo := weightOf_b e
  obtain ⟨t, ht⟩ : ∃ t, Hid (t = wt e) := ⟨_, rfl⟩
  obtain ⟨s, hs⟩ : ∃ s, Hid (s = wsum q) := ⟨_, rfl⟩
  obtain ⟨k, hk⟩ : ∃ k, Hid (k = q.length) := ⟨_, rfl⟩
  have ht0 : 0 ≤ t ∧ t ≤ 2147483648 := by rw [ht.out]; exact wt_bd e
  have hs0 : 0 ≤ s ∧ s ≤ 8796093022208 := by
    have := wsum_bd q
    rw [hs.out]; omega
  have hk0 : k ≤ 4096 := by rw [hk.out]; omega
  have h0 : Hid (Grown w w) := Grown.refl w
  rw [← ht.out] at wo
  clear h
  unfold ptr Ev.v at *
  go_enter Tryd.func14, Tryd.ntmps14
  go_wp2_with (go_at_call 16; refine (cc.out _ _).mono ?_; rintro o w1 ⟨rfl, h1, o1, hE1⟩; have h1 : Hid (Bf w1 M N f q r) := h1; have o1 : Hid (Out (bfF M) w w1) := o1; clear cc h0; obtain ⟨c0, c1, c2, c3, c4⟩ := h1.out.raw.cells; have lb1 := h1.out.raw.lt)
  rw [← hE.out]
  rw [← hs.out] at c4
  have a1 : Bf w1.drew M N f q r := h1.out.grown (Grown.refl _).drew
  have hl1 := a1.len 3
  rw [← hk.out] at hl1
  have hE2 : w1.drew.heap[E]? = some (.cells #[.int .i64 e.d, .int .i64 e.n, .int .i64 e.k, .int .i64 e.x] 30 (0, 0)) := hE1
  have lE : E < w1.heap.size := lt_of hE1
  obtain ⟨w2, hr2, m2, o2⟩ := a1.raw.map.store Tryd.underlying3 Tryd.underlying51 (x := (f : Int) + (q.length : Int)) (wfI (by omega) (by omega)) (by omega) e.v
  rw [qf_past] at m2
  have m2 : MapN Tryd.prog 3 w2 M (q.length + 1) e0.v (qf f (q ++ [e])) := m2.congr fun y => qf_push f q e y
  have b2 : Hid (Bw w2 M N (f : Int) (r : Int) s (q.length + 1) (qf f (q ++ [e]))) := by
    have := a1.raw.turn m2 o2
    rw [hs.out]; exact this
  rw [← hk.out] at hr2
  unfold Ev.v at hr2
  refine region_fill [15] [(11, .pointer (some ⟨M + 1, 0, none⟩)), (12, .pointer (some ⟨M + 1, 0, none⟩)), (13, .pointer (some ⟨M + 1, 0, none⟩)), (14, .map (some M)), (15, .pointer (some ⟨M + 1, 0, none⟩)), (16, .pointer (some ⟨M + 1, 0, none⟩)), (17, .pointer (some ⟨M + 1, 1, none⟩)), (18, .int .i64 (f : Int)), (19, .pointer (some ⟨M + 1, 0, none⟩)), (20, .pointer (some ⟨M + 1, 0, none⟩)), (21, .pointer (some ⟨M + 1, 0, none⟩)), (22, .map (some M)), (23, .int .i64 (k : Int)), (24, .int .i64 ((f : Int) + (k : Int))), (25, .agg #[.int .i64 e.d, .int .i64 e.n, .int .i64 e.k, .int .i64 e.x])] hmx (by kernel_rfl) (by kernel_rfl) ?_
  simp only [fills, Act.put, List.setIfInBounds_toArray, List.set_cons_zero, List.set_cons_succ]
  refine flow_cons _ undef w2 rfl ?run (Or.inr ⟨exec_update rfl rfl rfl rfl hr2, rfl⟩) ?_
  case run =>
    clear hr2 wo a1 hE1
    intro i o ho hi
    iterate 16 (rcases i with _ | i; · first | (exact absurd hi (by decide)) | (cases ho; exact exec_load_row 30 _ rfl E rfl _ _ _ _ hE2 Tryd.underlying30 rfl sizeEv) | (cases ho; go_simp; done) | (cases ho; go_simp; exact wrap_at (by omega) (by omega)))
    cases ho
  have hE3 : w2.heap[E]? = some (.cells #[.int .i64 e.d, .int .i64 e.n, .int .i64 e.k, .int .i64 e.x] 30 (0, 0)) := by
    rw [← hE2]; exact o2.block E lE (by rw [hE.out]; omega)
  have O2 : Hid (Out (bfF M) w w2) := (o1.out.drewN 1).trans o2 fun i hi => Or.inl (Or.inl hi)
  clear hr2 hl1 a1 hE1 hE2 c0 c1 c2 c3 c4 lb1 lE o2 m2
  obtain ⟨c0, c1, c2, c3, c4⟩ := b2.out.cells
  have lb2 := b2.out.lt
  have lE := lt_of hE3
  show Exit.then _ _ Exit.normal _ _
  simp only [Act.put]
  go_wp2
  refine region_fill [5, 6, 9] [(26, .pointer (some ⟨M + 1, 0, none⟩)), (27, .pointer (some ⟨M + 1, 0, none⟩)), (28, .pointer (some ⟨M + 1, 4, none⟩)), (29, .int .i64 s), (30, .agg #[.int .i64 e.d, .int .i64 e.n, .int .i64 e.k, .int .i64 e.x]), (33, .pointer (some ⟨M + 1, 0, none⟩)), (34, .pointer (some ⟨M + 1, 4, none⟩))] hmx (by kernel_rfl) (by kernel_rfl) ?_
  simp only [fills, Act.put, List.setIfInBounds_toArray, List.set_cons_zero, List.set_cons_succ]
  have hE4 : w2.drew.heap[E]? = some (.cells #[.int .i64 e.d, .int .i64 e.n, .int .i64 e.k, .int .i64 e.x] 30 (0, 0)) := hE3
  refine flow_ent (some 31) 29 #[.agg #[.int .i64 e.d, .int .i64 e.n, .int .i64 e.k, .int .i64 e.x]] _ rfl rfl ?run (by go_simp) ((wo _).mono ?_)
  case run =>
    clear wo
    intro i o ho hi
    iterate 10 (rcases i with _ | i; · first | (exact absurd hi (by decide)) | (cases ho; exact exec_load_row 30 _ rfl E rfl _ _ _ _ hE4 Tryd.underlying30 rfl sizeEv) | (cases ho; go_simp; done) | (cases ho; go_simp; exact wrap_at (by omega) (by omega)))
    cases ho
  rintro _ w3 ⟨rfl, g3⟩
  refine ⟨_, rfl, ?_⟩
  simp only [Act.put, List.setIfInBounds_toArray, List.set_cons_zero, List.set_cons_succ]
  have g3 : Grown w2 w3 := grownTrans (Grown.refl _).drew g3
  have hE5 : w3.heap[E]? = some (.cells #[.int .i64 e.d, .int .i64 e.n, .int .i64 e.k, .int .i64 e.x] 30 (0, 0)) := (grown_block g3 lE).trans hE3
  have b3 : Hid (Bw w3 M N (f : Int) (r : Int) s (q.length + 1) (qf f (q ++ [e]))) := b2.out.grown g3
  have O3 : Hid (Out (bfF M) w w3) := O2.out.more g3
  clear wo c0 c1 c2 c3 c4 hE3 hE4 lE lb2 g3 b2 O2
  obtain ⟨c0, c1, c2, c3, c4⟩ := b3.out.cells
  have f4 := b3.out.free 4
  have lb3 := b3.out.lt
  have lE := lt_of hE5
  refine flow_val (some 32) (.int .i64 (s + t)) w3 _ rfl rfl ?run (by go_simp; exact wrap_at (by omega) (by omega)) ?_
  case run =>
    intro i o ho hi
    iterate 10 (rcases i with _ | i; · first | (exact absurd hi (by decide)) | (cases ho; exact exec_load_row 30 _ rfl E rfl _ _ _ _ hE5 Tryd.underlying30 rfl sizeEv) | (cases ho; go_simp; done) | (cases ho; go_simp; exact wrap_at (by omega) (by omega)))
    cases ho
  simp only [Act.put, List.setIfInBounds_toArray, List.set_cons_zero, List.set_cons_succ]
  refine flow_cons _ undef (w3.setCell ⟨M + 1, 4, none⟩ (.int .i64 (s + t))) rfl ?run ?eff ?next
  case run =>
    intro i o ho hi
    iterate 10 (rcases i with _ | i; · first | (exact absurd hi (by decide)) | (cases ho; exact exec_load_row 30 _ rfl E rfl _ _ _ _ hE5 Tryd.underlying30 rfl sizeEv) | (cases ho; go_simp; done) | (cases ho; go_simp; exact wrap_at (by omega) (by omega)))
    cases ho
  case eff => first | (left; go_simp; done) | (right; refine ⟨?_, rfl⟩; go_simp; done)
  case next =>
    show Exit.then _ _ Exit.normal _ _
    clear c0 c1 c2 c3 c4 f4 hE5
    go_wp2
    go_ret
    have K := b3.out.setS (s + t)
    have e1 : s + t = wsum (q ++ [e]) := by rw [wsum_push, hs.out, ht.out]
    rw [e1] at K ⊢
    refine ⟨rfl, ⟨?_, by simp; omega, hmo⟩, Bw.outW O3.out _ _⟩
    rw [List.length_append]
    exact K
/-- An event that is stored whole. -/
theorem wpList_store_ev {ops : Array Oper} {rest : List Oper} {o : Oper} {a : Act} {w : World} {Q : Exit → Act → World → Prop} (hgd : o.guard = none) (hd : o.dst = none) (x y : Operand) (ho : o.op = .store 30 x y)
    (b : Nat) {old : Array Value} {d n k s : Int} (hx : a.eval x = .pointer (some ⟨b, 0, none⟩)) (hy : a.eval y = .agg #[.int .i64 d, .int .i64 n, .int .i64 k, .int .i64 s]) (h : w.heap[b]? = some (.cells old 30 (0, 0))) (hs : old.size = 4)
    (hn : ∀ W, W.heap[b]? = some (.cells #[.int .i64 d, .int .i64 n, .int .i64 k, .int .i64 s] 30 (0, 0)) → Out (· = b) w W → wpList Tryd.prog ops Q rest a W) : wpList Tryd.prog ops Q (o :: rest) a w := by
  refine wpList_store_row hgd 30 x y ho b _ hx hy 30 _ h sizeEv hs (by simp [Value.oneCell']) ?_
  rw [hd]
  exact hn _ (setRow_heap _ _ _ _ _ _ h) (Out.of_off (off_setRow h) rfl)
theorem zeroEv (w : World) : (zeroValue 30).run Tryd.prog w = .ok e0.v w := by kernel_rfl
theorem take_no (h : Bf w M N f [] r) (hf : f ≤ 1000000) : Calls Tryd.prog 18 #[ptr (M + 1)] w fun o w' => o = .returned (.tuple #[e0.v, .bool false]) ∧ Grown w w' := by
  have hlb := h.raw.lt
  have H : Hid (Bf w M N f [] r) := h
  have hv : (qf f [] (f : Int)).getD e0.v = .agg #[.int .i64 0, .int .i64 0, .int .i64 0, .int .i64 0] := by rw [qf_nil]; rfl
  have hb : (qf f [] (f : Int)).isSome = false := by rw [qf_nil]; rfl
  clear h
  unfold ptr
  go_enter Tryd.func18, Tryd.ntmps18
  go_wp2
  refine region_fill [12, 13, 14] [(7, .pointer (some ⟨M + 1, 0, none⟩)), (8, .pointer (some ⟨M + 1, 0, none⟩)), (9, .pointer (some ⟨M + 1, 0, none⟩)), (10, .map (some M)), (11, .pointer (some ⟨M + 1, 0, none⟩)), (12, .pointer (some ⟨M + 1, 0, none⟩)), (13, .pointer (some ⟨M + 1, 1, none⟩)), (14, .int .i64 (f : Int)), (15, .tuple #[.agg #[.int .i64 0, .int .i64 0, .int .i64 0, .int .i64 0], .bool false]), (6, .tuple #[.agg #[.int .i64 0, .int .i64 0, .int .i64 0, .int .i64 0], .bool false]), (16, .agg #[.int .i64 0, .int .i64 0, .int .i64 0, .int .i64 0]), (17, .bool false)] hmx (by kernel_rfl) (by kernel_rfl) ?_
  simp only [fills, Act.put, List.setIfInBounds_toArray, List.set_cons_zero, List.set_cons_succ]
  have g1 : Grown w (w.alloc (.cells #[.int .i64 0, .int .i64 0, .int .i64 0, .int .i64 0] 30)).drew := ((Grown.refl _).alloc _ _).drew
  have b1 := H.out.raw.grown g1
  have m1 := b1.map
  have hR1 : (w.alloc (.cells #[.int .i64 0, .int .i64 0, .int .i64 0, .int .i64 0] 30)).drew.heap[w.heap.size]? = some (.cells #[.int .i64 0, .int .i64 0, .int .i64 0, .int .i64 0] 30 (0, 0)) := blk_alloc_new w _
  generalize (w.alloc (.cells #[.int .i64 0, .int .i64 0, .int .i64 0, .int .i64 0] 30)).drew = W1 at g1 b1 m1 hR1 ⊢
  obtain ⟨c0, c1, c2, c3, c4⟩ := b1.cells
  have lb1 := b1.lt
  refine flow_val (some 4) (.pointer (some ⟨W1.heap.size, 0, none⟩)) (W1.alloc (.cells #[.int .i64 0, .int .i64 0, .int .i64 0, .int .i64 0] 30)) _ rfl rfl ?run (by go_simp) ?_
  case run =>
    intro i o ho hi
    iterate 15 (rcases i with _ | i; · first | (exact absurd hi (by decide)) | (cases ho; exact exec_look_ok rfl Tryd.underlying3 Tryd.underlying51 (zeroEv _) m1 rfl rfl (wfI (by omega) (by omega)) hv hb) | (cases ho; go_simp; done))
    cases ho
  simp only [Act.put, List.setIfInBounds_toArray, List.set_cons_zero, List.set_cons_succ]
  have g2 : Grown W1 (W1.alloc (.cells #[.int .i64 0, .int .i64 0, .int .i64 0, .int .i64 0] 30)) := (Grown.refl _).alloc _ _
  have b2 := b1.grown g2
  have m2 := b2.map
  have hR2 := (grown_block g2 (lt_of hR1)).trans hR1
  have hE2 : (W1.alloc (.cells #[.int .i64 0, .int .i64 0, .int .i64 0, .int .i64 0] 30)).heap[W1.heap.size]? = some (.cells #[.int .i64 0, .int .i64 0, .int .i64 0, .int .i64 0] 30 (0, 0)) := blk_alloc_new W1 _
  have hER : w.heap.size < W1.heap.size := lt_of hR1
  have g3 := grownTrans g1 g2
  clear g1 g2 b1 m1 hR1 c0 c1 c2 c3 c4 lb1
  generalize (W1.alloc (.cells #[.int .i64 0, .int .i64 0, .int .i64 0, .int .i64 0] 30)) = W2 at g3 b2 m2 hR2 hE2 ⊢
  obtain ⟨c0, c1, c2, c3, c4⟩ := b2.cells
  have lb2 := b2.lt
  have lE2 := lt_of hE2
  refine flow_row _ rfl ?run rfl 30 (.tmp 4) (.tmp 16) rfl W1.heap.size #[.int .i64 0, .int .i64 0, .int .i64 0, .int .i64 0] rfl rfl 30 _ hE2 sizeEv rfl (by simp [Value.oneCell']) ?_
  case run =>
    intro i o ho hi
    iterate 15 (rcases i with _ | i; · first | (exact absurd hi (by decide)) | (cases ho; exact exec_look_ok rfl Tryd.underlying3 Tryd.underlying51 (zeroEv _) m2 rfl rfl (wfI (by omega) (by omega)) hv hb) | (cases ho; go_simp; done))
    cases ho
  have o3 : Out (· = W1.heap.size) W2 (W2.setRow W1.heap.size #[.int .i64 0, .int .i64 0, .int .i64 0, .int .i64 0]) := Out.of_off (off_setRow hE2) rfl
  have hE3 := setRow_heap W2 W1.heap.size _ #[.int .i64 0, .int .i64 0, .int .i64 0, .int .i64 0] 30 (0, 0) hE2
  have hR3 : (W2.setRow W1.heap.size #[.int .i64 0, .int .i64 0, .int .i64 0, .int .i64 0]).heap[w.heap.size]? = _ := (o3.block _ (lt_of hR2) (by omega)).trans hR2
  have b3 := b2.out o3 fun i hi => by
    have := g3.2.2
    rcases hi with rfl | rfl <;> omega
  have m3 := b3.map
  have g4 : Grown w (W2.setRow W1.heap.size #[.int .i64 0, .int .i64 0, .int .i64 0, .int .i64 0]) := o3.grown g3 fun k hk => by omega
  clear c0 c1 c2 c3 c4 lb2 lE2 m2 b2 hE2 hR2 g3 o3
  generalize (W2.setRow W1.heap.size #[.int .i64 0, .int .i64 0, .int .i64 0, .int .i64 0]) = W3 at b3 m3 hE3 hR3 g4 ⊢
  obtain ⟨E, hE⟩ : ∃ E, E = W1.heap.size := ⟨_, rfl⟩
  obtain ⟨R, hR⟩ : ∃ R, R = w.heap.size := ⟨_, rfl⟩
  rw [← hE] at hE3 hER ⊢
  rw [← hR] at hR3 hER ⊢
  have hEle : w.heap.size ≤ E := by omega
  have hRle : w.heap.size ≤ R := by omega
  clear hE hR
  obtain ⟨c0, c1, c2, c3, c4⟩ := b3.cells
  have lb3 := b3.lt
  have lE3 := lt_of hE3
  have lR3 := lt_of hR3
  refine flow_val (some 5) (.bool false) W3 _ rfl rfl ?run (by go_simp) ?_
  case run =>
    intro i o ho hi
    iterate 15 (rcases i with _ | i; · first | (exact absurd hi (by decide)) | (cases ho; exact exec_look_ok rfl Tryd.underlying3 Tryd.underlying51 (zeroEv _) m3 rfl rfl (wfI (by omega) (by omega)) hv hb) | (cases ho; go_simp; done))
    cases ho
  show Exit.then _ _ Exit.normal _ _
  simp only [Act.put, List.setIfInBounds_toArray, List.set_cons_zero, List.set_cons_succ]
  clear c0 c1 c2 c3 c4 lb3 m3 b3 hv hb H hE3 lE3 hER hEle
  go_wp2_with (first | (refine wpList_store_ev rfl rfl (.tmp 2) (.tmp 20) rfl R rfl rfl hR3 rfl ?_; intro W4 hR4 o4; have g5 := o4.grown g4 (fun k hk => by omega); clear hR3 o4 g4))
  exact bodyPost_ret (results_row_tmp Tryd.results18 _ _ R 30 _ (0, 0) _ rfl hR4 Tryd.underlying30 rfl sizeEv) rfl ⟨rfl, g5⟩
/-- An event that is loaded whole. -/
theorem wpList_load_ev {ops : Array Oper} {rest : List Oper} {o : Oper} {a : Act} {w : World} {Q : Exit → Act → World → Prop} (hgd : o.guard = none) (x : Operand) (ho : o.op = .load 30 x)
    (b : Nat) {d n k s : Int} (hx : a.eval x = .pointer (some ⟨b, 0, none⟩)) (h : w.heap[b]? = some (.cells #[.int .i64 d, .int .i64 n, .int .i64 k, .int .i64 s] 30 (0, 0)))
    (hn : wpList Tryd.prog ops Q rest (a.put o.dst (.agg #[.int .i64 d, .int .i64 n, .int .i64 k, .int .i64 s])) w) : wpList Tryd.prog ops Q (o :: rest) a w :=
  wpList_load_row hgd 30 x ho b hx 30 _ (0, 0) _ h Tryd.underlying30 rfl sizeEv hn
theorem take_yes (h : Bf w M N f q r) (hq : 0 < q.length) (hf : f ≤ 1000000) : Calls Tryd.prog 18 #[ptr (M + 1)] w fun o w' => o = .returned (.tuple #[(q.getD 0 e0).v, .bool true]) ∧ Bf w' M N (f + 1) q.tail r ∧ Out (bfF M) w w' := by
  have hlb := h.raw.lt
  have hle := h.le
  have hmo := h.most
  obtain ⟨v, hvq⟩ : ∃ v, Hid (v = q.getD 0 e0) := ⟨_, rfl⟩
  rw [← hvq.out]
  have hv : (qf f q (f : Int)).getD e0.v = .agg #[.int .i64 v.d, .int .i64 v.n, .int .i64 v.k, .int .i64 v.x] := by rw [qf_first hq, ← hvq.out]; rfl
  have hb : (qf f q (f : Int)).isSome = true := by rw [qf_first hq]; rfl
  have wo := weightOf_b v
  obtain ⟨t, ht⟩ : ∃ t, Hid (t = wt v) := ⟨_, rfl⟩
  obtain ⟨s, hs⟩ : ∃ s, Hid (s = wsum q) := ⟨_, rfl⟩
  have ht0 : 0 ≤ t ∧ t ≤ 2147483648 := by rw [ht.out]; exact wt_bd v
  have hs1 : wsum q.tail = s - t := by rw [wsum_tail hq, hs.out, ht.out, hvq.out]
  have hs0 : 0 ≤ s - t ∧ s ≤ 8796093022208 := by
    have := wsum_bd q
    have := wsum_bd q.tail
    rw [← hs1, hs.out]; omega
  rw [← ht.out] at wo
  have H : Hid (Bf w M N f q r) := h
  have HS : Hid (wsum q.tail = s - t) := hs1
  clear h hs1
  unfold ptr Ev.v at *
  go_enter Tryd.func18, Tryd.ntmps18
  go_wp2
  refine region_fill [12, 13, 14] [(7, .pointer (some ⟨M + 1, 0, none⟩)), (8, .pointer (some ⟨M + 1, 0, none⟩)), (9, .pointer (some ⟨M + 1, 0, none⟩)), (10, .map (some M)), (11, .pointer (some ⟨M + 1, 0, none⟩)), (12, .pointer (some ⟨M + 1, 0, none⟩)), (13, .pointer (some ⟨M + 1, 1, none⟩)), (14, .int .i64 (f : Int)), (15, .tuple #[.agg #[.int .i64 v.d, .int .i64 v.n, .int .i64 v.k, .int .i64 v.x], .bool true]), (6, .tuple #[.agg #[.int .i64 v.d, .int .i64 v.n, .int .i64 v.k, .int .i64 v.x], .bool true]), (16, .agg #[.int .i64 v.d, .int .i64 v.n, .int .i64 v.k, .int .i64 v.x]), (17, .bool true)] hmx (by kernel_rfl) (by kernel_rfl) ?_
  simp only [fills, Act.put, List.setIfInBounds_toArray, List.set_cons_zero, List.set_cons_succ]
  have g1 : Grown w (w.alloc (.cells #[.int .i64 0, .int .i64 0, .int .i64 0, .int .i64 0] 30)).drew := ((Grown.refl _).alloc _ _).drew
  have b1 := H.out.raw.grown g1
  have m1 := b1.map
  have hR1 : (w.alloc (.cells #[.int .i64 0, .int .i64 0, .int .i64 0, .int .i64 0] 30)).drew.heap[w.heap.size]? = some (.cells #[.int .i64 0, .int .i64 0, .int .i64 0, .int .i64 0] 30 (0, 0)) := blk_alloc_new w _
  generalize (w.alloc (.cells #[.int .i64 0, .int .i64 0, .int .i64 0, .int .i64 0] 30)).drew = W1 at g1 b1 m1 hR1 ⊢
  obtain ⟨c0, c1, c2, c3, c4⟩ := b1.cells
  have lb1 := b1.lt
  refine flow_val (some 4) (.pointer (some ⟨W1.heap.size, 0, none⟩)) (W1.alloc (.cells #[.int .i64 0, .int .i64 0, .int .i64 0, .int .i64 0] 30)) _ rfl rfl ?run (by go_simp) ?_
  case run =>
    intro i o ho hi
    iterate 15 (rcases i with _ | i; · first | (exact absurd hi (by decide)) | (cases ho; exact exec_look_ok rfl Tryd.underlying3 Tryd.underlying51 (zeroEv _) m1 rfl rfl (wfI (by omega) (by omega)) hv hb) | (cases ho; go_simp; done))
    cases ho
  simp only [Act.put, List.setIfInBounds_toArray, List.set_cons_zero, List.set_cons_succ]
  have g2 : Grown W1 (W1.alloc (.cells #[.int .i64 0, .int .i64 0, .int .i64 0, .int .i64 0] 30)) := (Grown.refl _).alloc _ _
  have b2 := b1.grown g2
  have m2 := b2.map
  have hR2 := (grown_block g2 (lt_of hR1)).trans hR1
  have hE2 : (W1.alloc (.cells #[.int .i64 0, .int .i64 0, .int .i64 0, .int .i64 0] 30)).heap[W1.heap.size]? = some (.cells #[.int .i64 0, .int .i64 0, .int .i64 0, .int .i64 0] 30 (0, 0)) := blk_alloc_new W1 _
  have hER : w.heap.size < W1.heap.size := lt_of hR1
  have g3 := grownTrans g1 g2
  clear g1 g2 b1 m1 hR1 c0 c1 c2 c3 c4 lb1
  generalize (W1.alloc (.cells #[.int .i64 0, .int .i64 0, .int .i64 0, .int .i64 0] 30)) = W2 at g3 b2 m2 hR2 hE2 ⊢
  obtain ⟨c0, c1, c2, c3, c4⟩ := b2.cells
  have lb2 := b2.lt
  have lE2 := lt_of hE2
  refine flow_row _ rfl ?run rfl 30 (.tmp 4) (.tmp 16) rfl W1.heap.size #[.int .i64 v.d, .int .i64 v.n, .int .i64 v.k, .int .i64 v.x] rfl rfl 30 _ hE2 sizeEv rfl (by simp [Value.oneCell']) ?_
  case run =>
    intro i o ho hi
    iterate 15 (rcases i with _ | i; · first | (exact absurd hi (by decide)) | (cases ho; exact exec_look_ok rfl Tryd.underlying3 Tryd.underlying51 (zeroEv _) m2 rfl rfl (wfI (by omega) (by omega)) hv hb) | (cases ho; go_simp; done))
    cases ho
  have o3 : Out (· = W1.heap.size) W2 (W2.setRow W1.heap.size #[.int .i64 v.d, .int .i64 v.n, .int .i64 v.k, .int .i64 v.x]) := Out.of_off (off_setRow hE2) rfl
  have hE3 := setRow_heap W2 W1.heap.size _ #[.int .i64 v.d, .int .i64 v.n, .int .i64 v.k, .int .i64 v.x] 30 (0, 0) hE2
  have hR3 : (W2.setRow W1.heap.size #[.int .i64 v.d, .int .i64 v.n, .int .i64 v.k, .int .i64 v.x]).heap[w.heap.size]? = _ := (o3.block _ (lt_of hR2) (by omega)).trans hR2
  have b3 := b2.out o3 fun i hi => by
    have := g3.2.2
    rcases hi with rfl | rfl <;> omega
  have m3 := b3.map
  have g4 : Grown w (W2.setRow W1.heap.size #[.int .i64 v.d, .int .i64 v.n, .int .i64 v.k, .int .i64 v.x]) := o3.grown g3 fun k hk => by omega
  clear c0 c1 c2 c3 c4 lb2 lE2 m2 b2 hE2 hR2 g3 o3
  generalize (W2.setRow W1.heap.size #[.int .i64 v.d, .int .i64 v.n, .int .i64 v.k, .int .i64 v.x]) = W3 at b3 m3 hE3 hR3 g4 ⊢
  obtain ⟨E, hE⟩ : ∃ E, E = W1.heap.size := ⟨_, rfl⟩
  obtain ⟨R, hR⟩ : ∃ R, R = w.heap.size := ⟨_, rfl⟩
  rw [← hE] at hE3 hER ⊢
  rw [← hR] at hR3 hER ⊢
  have hEle : w.heap.size ≤ E := by omega
  have hRle : w.heap.size ≤ R := by omega
  clear hE hR
  obtain ⟨c0, c1, c2, c3, c4⟩ := b3.cells
  have lb3 := b3.lt
  have lE3 := lt_of hE3
  have lR3 := lt_of hR3
  refine flow_val (some 5) (.bool true) W3 _ rfl rfl ?run (by go_simp) ?_
  case run =>
    intro i o ho hi
    iterate 15 (rcases i with _ | i; · first | (exact absurd hi (by decide)) | (cases ho; exact exec_look_ok rfl Tryd.underlying3 Tryd.underlying51 (zeroEv _) m3 rfl rfl (wfI (by omega) (by omega)) hv hb) | (cases ho; go_simp; done))
    cases ho
  show Exit.then _ _ Exit.normal _ _
  simp only [Act.put, List.setIfInBounds_toArray, List.set_cons_zero, List.set_cons_succ]
  rw [← hs.out] at b3
  clear c0 c1 c2 c3 c4 lb3 m3 hv hb lE3 lR3
  have HM : M < W3.heap.size ∧ M + 1 < W3.heap.size := ⟨by have := g4.2.2; omega, by have := g4.2.2; omega⟩
  obtain ⟨w4, hr4, m4, o4⟩ := (b3.grown (Grown.refl _).drew).map.drop Tryd.underlying3 Tryd.underlying51 (x := (f : Int)) (wfI (by omega) (by omega)) 0
  rw [qf_first hq] at m4
  have m4 : MapN Tryd.prog 3 w4 M (q.length - 1) e0.v (qf (f + 1) q.tail) := m4.congr fun y => qf_pop f q hq y
  have b4 : Hid (Bw w4 M N (f : Int) (r : Int) s (q.length - 1) (qf (f + 1) q.tail)) := (b3.grown (Grown.refl _).drew).turn m4 o4
  have hE4 := (o4.block E (lt_of hE3) (by omega)).trans hE3
  have hR4 := (o4.block R (lt_of hR3) (by omega)).trans hR3
  have O4 : Hid (Out (bfF M) w w4) := Out.after g4 (((Out.refl _ _).drewN 1).trans o4 fun i hi => Or.inl (Or.inl hi))
  have hq : Hid (0 < q.length) := hq
  obtain ⟨c0, c1, c2, c3, c4⟩ := b3.cells
  have lb3 := b3.lt
  clear m4 o4
  go_wp2
  refine region_fill [8] [(21, .pointer (some ⟨M + 1, 0, none⟩)), (22, .pointer (some ⟨M + 1, 0, none⟩)), (23, .pointer (some ⟨M + 1, 0, none⟩)), (24, .map (some M)), (25, .pointer (some ⟨M + 1, 0, none⟩)), (26, .pointer (some ⟨M + 1, 0, none⟩)), (27, .pointer (some ⟨M + 1, 1, none⟩)), (28, .int .i64 (f : Int))] hmx (by kernel_rfl) (by kernel_rfl) ?_
  simp only [fills, Act.put, List.setIfInBounds_toArray, List.set_cons_zero, List.set_cons_succ]
  refine flow_val none (.tuple #[]) w4 _ rfl rfl ?run (exec_drop rfl rfl rfl hr4) ?_
  case run =>
    intro i o ho hi
    iterate 9 (rcases i with _ | i; · first | (exact absurd hi (by decide)) | (cases ho; go_simp; done))
    cases ho
  clear c0 c1 c2 c3 c4 lb3 b3 hE3 hR3 hr4
  obtain ⟨c0, c1, c2, c3, c4⟩ := b4.out.cells
  have f1 := b4.out.free 1
  have lb4 := b4.out.lt
  have lE4 := lt_of hE4
  have b5 : Hid (Bw (w4.setCell ⟨M + 1, 1, none⟩ (.int .i64 ((f : Int) + 1))) M N ((f : Int) + 1) (r : Int) s (q.length - 1) (qf (f + 1) q.tail)) := b4.out.setG _
  have O5 : Hid (Out (bfF M) w (w4.setCell ⟨M + 1, 1, none⟩ (.int .i64 ((f : Int) + 1)))) := Bw.outW O4.out _ _
  have hE5 := (blk_setCell_other w4 ⟨M + 1, 1, none⟩ (.int .i64 ((f : Int) + 1)) E (by show E ≠ M + 1; omega)).trans hE4
  have hR5 := (blk_setCell_other w4 ⟨M + 1, 1, none⟩ (.int .i64 ((f : Int) + 1)) R (by show R ≠ M + 1; omega)).trans hR4
  have hE5 : Hid ((w4.setCell ⟨M + 1, 1, none⟩ (.int .i64 ((f : Int) + 1))).heap[E]? = _) := hE5
  have hR5 : Hid ((w4.setCell ⟨M + 1, 1, none⟩ (.int .i64 ((f : Int) + 1))).heap[R]? = _) := hR5
  clear b4 O4 hE4 hR4
  show Exit.then _ _ Exit.normal _ _
  simp only [Act.put]
  go_wp2
  generalize (w4.setCell ⟨M + 1, 1, none⟩ (.int .i64 ((f : Int) + 1))) = w5 at b5 O5 hE5 hR5 ⊢
  have hE5 : w5.drew.heap[E]? = some (.cells #[.int .i64 v.d, .int .i64 v.n, .int .i64 v.k, .int .i64 v.x] 30 (0, 0)) := hE5.out
  clear c0 c1 c2 c3 c4 f1 lb4 lE4
  obtain ⟨c0, c1, c2, c3, c4⟩ := b5.out.cells
  have lb5 := b5.out.lt
  have lE5 : E < w5.heap.size := lt_of hE5
  refine region_fill [5, 6, 9] [(36, .pointer (some ⟨M + 1, 0, none⟩)), (37, .pointer (some ⟨M + 1, 0, none⟩)), (38, .pointer (some ⟨M + 1, 4, none⟩)), (39, .int .i64 s), (40, .agg #[.int .i64 v.d, .int .i64 v.n, .int .i64 v.k, .int .i64 v.x]), (43, .pointer (some ⟨M + 1, 0, none⟩)), (44, .pointer (some ⟨M + 1, 4, none⟩))] hmx (by kernel_rfl) (by kernel_rfl) ?_
  simp only [fills, Act.put, List.setIfInBounds_toArray, List.set_cons_zero, List.set_cons_succ]
  refine flow_ent (some 41) 29 #[.agg #[.int .i64 v.d, .int .i64 v.n, .int .i64 v.k, .int .i64 v.x]] _ rfl rfl ?run (by go_simp) ((wo _).mono ?_)
  case run =>
    clear wo
    intro i o ho hi
    iterate 10 (rcases i with _ | i; · first | (exact absurd hi (by decide)) | (cases ho; exact exec_load_row 30 _ rfl E rfl _ _ _ _ hE5 Tryd.underlying30 rfl sizeEv) | (cases ho; go_simp; done))
    cases ho
  rintro _ w6 ⟨rfl, g6⟩
  refine ⟨_, rfl, ?_⟩
  simp only [Act.put, List.setIfInBounds_toArray, List.set_cons_zero, List.set_cons_succ]
  have g6 : Grown w5 w6 := grownTrans (Grown.refl _).drew g6
  have hE6 : w6.heap[E]? = some (.cells #[.int .i64 v.d, .int .i64 v.n, .int .i64 v.k, .int .i64 v.x] 30 (0, 0)) := (grown_block g6 lE5).trans hE5
  have hR6 : w6.heap[R]? = some (.cells #[.int .i64 0, .int .i64 0, .int .i64 0, .int .i64 0] 30 (0, 0)) := (grown_block g6 (lt_of hR5.out)).trans hR5.out
  have hR6 : Hid (w6.heap[R]? = some (.cells #[.int .i64 0, .int .i64 0, .int .i64 0, .int .i64 0] 30 (0, 0))) := hR6
  have b6 : Hid (Bw w6 M N ((f : Int) + 1) (r : Int) s (q.length - 1) (qf (f + 1) q.tail)) := b5.out.grown g6
  have O6 : Hid (Out (bfF M) w w6) := O5.out.more g6
  clear wo c0 c1 c2 c3 c4 hE5 hR5 lE5 lb5 g6 b5 O5
  obtain ⟨c0, c1, c2, c3, c4⟩ := b6.out.cells
  have f4 := b6.out.free 4
  have lb6 := b6.out.lt
  have lE6 := lt_of hE6
  refine flow_val (some 42) (.int .i64 (s - t)) w6 _ rfl rfl ?run (by go_simp; exact wrap_at (by omega) (by omega)) ?_
  case run =>
    intro i o ho hi
    iterate 10 (rcases i with _ | i; · first | (exact absurd hi (by decide)) | (cases ho; exact exec_load_row 30 _ rfl E rfl _ _ _ _ hE6 Tryd.underlying30 rfl sizeEv) | (cases ho; go_simp; done))
    cases ho
  simp only [Act.put, List.setIfInBounds_toArray, List.set_cons_zero, List.set_cons_succ]
  refine flow_cons _ undef (w6.setCell ⟨M + 1, 4, none⟩ (.int .i64 (s - t))) rfl ?run ?eff ?next
  case run =>
    intro i o ho hi
    iterate 10 (rcases i with _ | i; · first | (exact absurd hi (by decide)) | (cases ho; exact exec_load_row 30 _ rfl E rfl _ _ _ _ hE6 Tryd.underlying30 rfl sizeEv) | (cases ho; go_simp; done))
    cases ho
  case eff => first | (left; go_simp; done) | (right; refine ⟨?_, rfl⟩; go_simp; done)
  case next =>
    show Exit.then _ _ Exit.normal _ _
    simp only [Act.put]
    have b7 : Hid (Bw (w6.setCell ⟨M + 1, 4, none⟩ (.int .i64 (s - t))) M N ((f : Int) + 1) (r : Int) (s - t) (q.length - 1) (qf (f + 1) q.tail)) := b6.out.setS _
    have O7 : Hid (Out (bfF M) w (w6.setCell ⟨M + 1, 4, none⟩ (.int .i64 (s - t)))) := Bw.outW O6.out _ _
    have hE7 : Hid ((w6.setCell ⟨M + 1, 4, none⟩ (.int .i64 (s - t))).heap[E]? = _) := (blk_setCell_other w6 ⟨M + 1, 4, none⟩ (.int .i64 (s - t)) E (by show E ≠ M + 1; omega)).trans hE6
    have hR7 : Hid ((w6.setCell ⟨M + 1, 4, none⟩ (.int .i64 (s - t))).heap[R]? = _) := (blk_setCell_other w6 ⟨M + 1, 4, none⟩ (.int .i64 (s - t)) R (by show R ≠ M + 1; omega)).trans hR6.out
    clear c0 c1 c2 c3 c4 f4 hE6 hR6 b6 O6 lb6 lE6
    generalize (w6.setCell ⟨M + 1, 4, none⟩ (.int .i64 (s - t))) = w7 at b7 O7 hE7 hR7 ⊢
    have hE8 := hE7.out
    have lE8 := lt_of hE8
    have lR8 := lt_of hR7.out
    go_wp2_with (first | (refine wpList_load_ev rfl (.tmp 4) rfl E rfl hE8 ?_) | (refine wpList_store_ev rfl rfl (.tmp 2) (.tmp 45) rfl R rfl rfl hR7.out rfl ?_; intro w8 hR8 o8; have b8 : Hid (Bw w8 M N ((f : Int) + 1) (r : Int) (s - t) (q.length - 1) (qf (f + 1) q.tail)) := (b7.out.out o8 fun i hi => by unfold bfF at hi; omega); have O8 : Hid (Out (bfF M) w w8) := (O7.out.trans o8 fun i hi => Or.inr (by omega)); clear hR7 o8 b7 O7 hE8 lE8))
    refine bodyPost_ret (results_row_tmp Tryd.results18 _ _ R 30 _ (0, 0) _ rfl hR8 Tryd.underlying30 rfl sizeEv) rfl ⟨rfl, ⟨?_, ?_, hmo⟩, O8.out⟩
    · have K := b8.out
      rw [← HS.out] at K
      rw [List.length_tail]
      exact K
    · rw [List.length_tail]; omega
end Go.Proofs.YtigmjgmkeoineaaDoor.Wb
