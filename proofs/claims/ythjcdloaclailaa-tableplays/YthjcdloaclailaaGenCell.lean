/-
  A region that draws its order: a call that answers a struct and one more, the struct laid in a block that may be made ahead of the call or behind it. No condition but those told at each sentence.
-/
import Derived.Test.YthjcdloaclailaaGenFlowI
import Derived.Test.YthjcdloaclailaaGenPack
namespace Go.Proofs.Ythjcdloaclailaa
open Go.RowKit Go.Deep
variable {P : Program} {ops : Array Oper} {Q : Exit → Act → World → Prop}

theorem exec_move {o : Oper} {A : Act} {w : World} {s : Tmp} (h : o.op = .move (.tmp s)) : (execOp A.eval o).run P w = .ok (.value (A.eval (.tmp s))) w := by
  unfold execOp
  simp [h]
theorem exec_assign {o : Oper} {A : Act} {w : World} {s : Tmp} (h : o.op = .assign (.tmp s)) : (execOp A.eval o).run P w = .ok (.value (A.eval (.tmp s))) w := by
  unfold execOp
  simp [h]
theorem exec_ext0 {o : Oper} {A : Act} {w : World} {s : Tmp} {u v : Value} (h : o.op = .extract (.tmp s) 0) (he : A.eval (.tmp s) = .tuple #[u, v]) : (execOp A.eval o).run P w = .ok (.value u) w := by
  unfold execOp
  simp [h, he, Instr.extract]
theorem exec_ext1 {o : Oper} {A : Act} {w : World} {s : Tmp} {u v : Value} (h : o.op = .extract (.tmp s) 1) (he : A.eval (.tmp s) = .tuple #[u, v]) : (execOp A.eval o).run P w = .ok (.value v) w := by
  unfold execOp
  simp [h, he, Instr.extract]
/-- The seven last operations of such a region, the call being number c. -/
structure CellAt (ops : Array Oper) (c : Nat) (sc sm s0 s1 sr sd : Tmp) (T : TypeId) : Prop where
  call : ∃ o, ops[c]? = some o ∧ o.dst = some sc
  move : ∃ o, ops[c + 1]? = some o ∧ o.dst = some sm ∧ o.op = .move (.tmp sc)
  ext0 : ∃ o, ops[c + 2]? = some o ∧ o.dst = some s0 ∧ o.op = .extract (.tmp sm) 0
  ext1 : ∃ o, ops[c + 3]? = some o ∧ o.dst = some s1 ∧ o.op = .extract (.tmp sm) 1
  alloc : ∃ o, ops[c + 4]? = some o ∧ o.dst = some sr ∧ o.op = .alloc T
  store : ∃ o, ops[c + 5]? = some o ∧ o.dst = none ∧ o.op = .store T (.tmp sr) (.tmp s0)
  asgn : ∃ o, ops[c + 6]? = some o ∧ o.dst = some sd ∧ o.op = .assign (.tmp s1)
  size : ops.size = c + 7
  nodup : [sc, sm, s0, s1, sr, sd].Nodup
def cellE (c : Nat) : List (Nat × List Nat) := [(c, [c + 1, c + 2, c + 3]), (c + 4, []), (c + 5, []), (c + 6, [])]
def cellB (ops : Array Oper) (c : Nat) : Bool :=
  ((List.range ops.size).all fun i => (ops[i]?.bind (·.guard)).isNone) && flowGB .any ops (cellE c) (c + 6) &&
  ((cellE c).all fun q => decide (q = (c, [c + 1, c + 2, c + 3])) || decide (q = (c + 4, [])) || !readyG .any ops (cellE c) q) &&
  (([(c + 4, []), (c + 5, []), (c + 6, [])] : List (Nat × List Nat)).all fun q => decide (q = (c + 4, [])) || !readyG .any ops [(c + 4, []), (c + 5, []), (c + 6, [])] q) &&
  (([(c, [c + 1, c + 2, c + 3]), (c + 5, []), (c + 6, [])] : List (Nat × List Nat)).all fun q => decide (q = (c, [c + 1, c + 2, c + 3])) || !readyG .any ops [(c, [c + 1, c + 2, c + 3]), (c + 5, []), (c + 6, [])] q) &&
  (([(c + 5, []), (c + 6, [])] : List (Nat × List Nat)).all fun q => decide (q = (c + 5, [])) || !readyG .any ops [(c + 5, []), (c + 6, [])] q)
theorem cell_end (l2 : List Ob) (b : Ob) : (l2 ++ [b])[l2.length]? = some b := by
  rw [List.getElem?_append_right (Nat.le_refl _)]
  simp
theorem cell_set (l2 : List Ob) (b c : Ob) : (l2 ++ [b]).set l2.length c = l2 ++ [c] := by
  rw [List.set_append_right _ _ (Nat.le_refl _)]
  simp
theorem put_comm {A : Act} {d e : Nat} {v u : Value} (h : d ≠ e) : (A.put (some d) v).put (some e) u = (A.put (some e) u).put (some d) v := by
  show Act.mk _ _ = Act.mk _ _
  congr 1
  exact Array.setIfInBounds_comm _ _ h
theorem fills_comm {d : Nat} {v : Value} : ∀ {L : List (Tmp × Value)} {A : Act}, (∀ p ∈ L, d ≠ p.1) → fills (A.put (some d) v) L = (fills A L).put (some d) v
  | [], _, _ => rfl
  | (e, u) :: r, A, h => by
    show fills ((A.put (some d) v).put (some e) u) r = (fills (A.put (some e) u) r).put (some d) v
    rw [put_comm (h (e, u) (by simp)), fills_comm fun p hp => h p (List.mem_cons_of_mem _ hp)]
theorem evH_fills {l : List (Tmp × Value)} : ∀ {L : List (Tmp × Value)} {A : Act}, (∀ q ∈ L, ∀ p ∈ l, q.1 ≠ p.1) → EvH A l → EvH (fills A L) l
  | [], _, _, h => h
  | (d, v) :: r, A, hd, h => evH_fills (L := r) (fun q hq => hd q (List.mem_cons_of_mem _ hq)) (evH_put (fun p hp e => hd (d, v) (by simp) p hp (by cases e; rfl)) h)
theorem eval_put {A : Act} {d t : Nat} {v : Value} : (A.put (some d) v).eval (.tmp t) = if d = t ∧ t < A.tmps.size then v else A.eval (.tmp t) := by
  show ((A.put (some d) v).tmps).getD t undef = if _ then v else A.tmps.getD t undef
  rw [Array.getD_eq_getD_getElem?, Array.getD_eq_getD_getElem?, put_slot]
  by_cases h : d = t
  · subst h
    by_cases h2 : d < A.tmps.size <;> simp [h2]
  · simp [h]
/-- What the frame holds behind the call: the tuple, its move, its parts. -/
def parts (sc sm s0 s1 : Tmp) (R : Array Value) (b : Bool) : List (Tmp × Value) := [(sc, .tuple #[.agg R, .bool b]), (sm, .tuple #[.agg R, .bool b]), (s0, .agg R), (s1, .bool b)]
structure Late (A : Act) (sc sm s0 s1 : Tmp) (R : Array Value) (b : Bool) : Prop where
  c : A.eval (.tmp sc) = .tuple #[.agg R, .bool b]
  m : A.eval (.tmp sm) = .tuple #[.agg R, .bool b]
  e0 : A.eval (.tmp s0) = .agg R
  e1 : A.eval (.tmp s1) = .bool b
theorem late_of {A : Act} {sc sm s0 s1 sr sd : Tmp} {R : Array Value} {b : Bool} (hn : [sc, sm, s0, s1, sr, sd].Nodup) (hz : ∀ s ∈ [sc, sm, s0, s1, sr, sd], s < A.tmps.size) : Late (fills A (parts sc sm s0 s1 R b)) sc sm s0 s1 R b := by
  have z1 := hz sc (by simp)
  have z2 := hz sm (by simp)
  have z3 := hz s0 (by simp)
  have z4 := hz s1 (by simp)
  simp only [List.nodup_cons, List.mem_cons, not_or] at hn
  have n1 : sm ≠ sc := fun e => hn.1.1 e.symm
  have n2 : s0 ≠ sc := fun e => hn.1.2.1 e.symm
  have n3 : s1 ≠ sc := fun e => hn.1.2.2.1 e.symm
  have n4 : s0 ≠ sm := fun e => hn.2.1.1 e.symm
  have n5 : s1 ≠ sm := fun e => hn.2.1.2.1 e.symm
  have n6 : s1 ≠ s0 := fun e => hn.2.2.1.1 e.symm
  clear hn hz
  unfold parts
  simp only [fills]
  refine ⟨?_, ?_, ?_, ?_⟩
  · rw [eval_put, if_neg fun q => n3 q.1, eval_put, if_neg fun q => n2 q.1, eval_put, if_neg fun q => n1 q.1, eval_put, if_pos ⟨rfl, z1⟩]
  · rw [eval_put, if_neg fun q => n5 q.1, eval_put, if_neg fun q => n4 q.1, eval_put, if_pos ⟨rfl, by simp only [put_size]; exact z2⟩]
  · rw [eval_put, if_neg fun q => n6 q.1, eval_put, if_pos ⟨rfl, by simp only [put_size]; exact z3⟩]
  · rw [eval_put, if_pos ⟨rfl, by simp only [put_size]; exact z4⟩]
theorem Late.put {A : Act} {sc sm s0 s1 d : Tmp} {R : Array Value} {b : Bool} {v : Value} (h : Late A sc sm s0 s1 R b) (hd : d ≠ sc ∧ d ≠ sm ∧ d ≠ s0 ∧ d ≠ s1) : Late (A.put (some d) v) sc sm s0 s1 R b :=
  ⟨by rw [eval_put, if_neg fun q => hd.1 q.1]; exact h.c, by rw [eval_put, if_neg fun q => hd.2.1 q.1]; exact h.m, by rw [eval_put, if_neg fun q => hd.2.2.1 q.1]; exact h.e0, by rw [eval_put, if_neg fun q => hd.2.2.2 q.1]; exact h.e1⟩
set_option maxHeartbeats 1000000 in
theorem region_cell {α : Type} {id : Nat} {a : Act} {w w0 : World} {c : Nat} {sc sm s0 s1 sr sd : Tmp} {T : TypeId} {R Z : Array Value} {b : Bool} {L : List Ob} {f : FuncId} {args : Array Value}
    (C : α → Prop) (L' : α → List Ob) (l known : List (Tmp × Value)) (hm : P.follows .mixedOrders = true) (ca : CellAt ops c sc sm s0 s1 sr sd T) (hB : cellB ops c = true) (hl : fillsB ops [c, c + 4, c + 5, c + 6] l = true)
    (hz : [sc, sm, s0, s1, sr, sd].all (fun s => decide (s < a.tmps.size)) = true) (hk : EvH (fills a l) known) (hd : (known.all fun p => !([sc, sm, s0, s1, sr, sd].contains p.1)) = true) (hT : (P.info? T).map (·.size) = some R.size) (hZ : Z.size = R.size) (h1 : R.all (·.oneCell') = true)
    (hr : ∀ (A : Act) (W : World), EvH A known → Grown w0 W → Runs P ops [c, c + 1, c + 2, c + 3, c + 4, c + 5, c + 6] A W)
    (hcl : ∀ o, ops[c]? = some o → ∀ (A : Act) (W : World), EvH A known → (execOp A.eval o).run P W = .ok (.enter f args) W)
    (hal : ∀ o, ops[c + 4]? = some o → ∀ (A : Act) (W : World), (execOp A.eval o).run P W = .ok (.value (.pointer (some ⟨W.heap.size, 0, none⟩))) (W.alloc (.cells Z T)))
    (hap : Apt w0 w L)
    (hcall : ∀ (l2 : List Ob) (W : World), Apt w0 W (L ++ l2) → Calls P f args W fun e W' => e = .returned (.tuple #[.agg R, .bool b]) ∧ ∃ x, C x ∧ Apt w0 W' (L' x ++ l2))
    (hq : ∀ (x : α) (W' : World) (blk : Nat), C x → Apt w0 W' (L' x ++ [obBlk blk T R]) → Q .normal (((fills (fills a l) (parts sc sm s0 s1 R b)).put (some sr) (.pointer (some ⟨blk, 0, none⟩))).put (some sd) (.bool b)) W') : (Code.region id ops true).wp P Q a w := by
  unfold cellB at hB
  simp only [Bool.and_eq_true] at hB
  obtain ⟨⟨⟨⟨⟨hP, hG⟩, hS⟩, hA⟩, hC⟩, hF⟩ := hB
  have plain : ∀ (i : Nat) (o : Oper), ops[i]? = some o → o.guard = none := fun i o ho => by
    have h2 := List.all_eq_true.1 hP i (List.mem_range.2 (Array.getElem?_eq_some_iff.1 ho).1)
    rw [ho] at h2
    simpa using h2
  have hn := ca.nodup
  have hz' : ∀ s ∈ [sc, sm, s0, s1, sr, sd], s < (fills a l).tmps.size := fun s hs => by
    rw [fills_size]
    simpa using List.all_eq_true.1 hz s hs
  have hks : ∀ s ∈ [sc, sm, s0, s1, sr, sd], ∀ p ∈ known, s ≠ p.1 := fun s hs p hp e => by
    have := List.all_eq_true.1 hd p hp
    subst e
    simp only [Bool.not_eq_true', List.contains_eq_mem, decide_eq_false_iff_not] at this
    exact this hs
  have hlate : Late (fills (fills a l) (parts sc sm s0 s1 R b)) sc sm s0 s1 R b := late_of hn hz'
  have hnd : sr ≠ sc ∧ sr ≠ sm ∧ sr ≠ s0 ∧ sr ≠ s1 := by
    simp only [List.nodup_cons, List.mem_cons, not_or] at hn
    exact ⟨fun e => hn.1.2.2.2.1 e.symm, fun e => hn.2.1.2.2.1 e.symm, fun e => hn.2.2.1.2.1 e.symm, fun e => hn.2.2.2.1.1 e.symm⟩
  obtain ⟨oc, hoc, hdc⟩ := ca.call
  obtain ⟨om, hom, hdm, hpm⟩ := ca.move
  obtain ⟨o0, ho0, hd0, hp0⟩ := ca.ext0
  obtain ⟨o1, ho1, hd1, hp1⟩ := ca.ext1
  obtain ⟨oa, hoa, hda, hpa⟩ := ca.alloc
  obtain ⟨os, hos, hds, hps⟩ := ca.store
  obtain ⟨og, hog, hdg, hpg⟩ := ca.asgn
  have hw : ∀ {i : Nat} {o : Oper} {A : Act}, ops[i]? = some o → Region.wanted o (yielded ops A.tmps) = true := fun ho => wanted_none (plain _ _ ho)
  have early : ∀ A W, EvH A known → Grown w0 W → RunsG P ops [c, c + 4, c + 5, c + 6] [c + 1, c + 2, c + 3] A W := fun A W hA hg i o ho he hof => by
    refine .inl ⟨hw ho, hr A W hA hg i o ho ?_⟩
    simp only [List.contains_eq_mem, List.mem_cons, List.not_mem_nil, or_false, decide_eq_false_iff_not, not_or] at he hof ⊢
    omega
  have late : ∀ A W, EvH A known → Late A sc sm s0 s1 R b → Grown w0 W → RunsG P ops [c, c + 4, c + 5, c + 6] [] A W := fun A W hA hL hg i o ho he _ => by
    refine .inl ⟨hw ho, ?_⟩
    by_cases e1 : i = c + 1
    · subst e1
      rw [hom] at ho
      cases ho
      rw [exec_move hpm, hdm, Option.getD_some, hL.c, hL.m]
    by_cases e2 : i = c + 2
    · subst e2
      rw [ho0] at ho
      cases ho
      rw [exec_ext0 hp0 hL.m, hd0, Option.getD_some, hL.e0]
    by_cases e3 : i = c + 3
    · subst e3
      rw [ho1] at ho
      cases ho
      rw [exec_ext1 hp1 hL.m, hd1, Option.getD_some, hL.e1]
    · refine hr A W hA hg i o ho ?_
      simp only [List.contains_eq_mem, List.mem_cons, List.not_mem_nil, or_false, decide_eq_false_iff_not, not_or] at he ⊢
      omega
  have kf : EvH (fills (fills a l) (parts sc sm s0 s1 R b)) known := evH_fills (fun q hq p hp => hks q.1 (by
    unfold parts at hq
    simp only [List.mem_cons, List.not_mem_nil, or_false] at hq
    rcases hq with rfl | rfl | rfl | rfl <;> simp) p hp) hk
  have kx : ∀ v, EvH ((fills (fills a l) (parts sc sm s0 s1 R b)).put (some sr) v) known := fun v => evH_put (fun p hp e => hks sr (by simp) p hp (by cases e; rfl)) kf
  have fL : fillsL ops [c + 1, c + 2, c + 3] [(sm, .tuple #[.agg R, .bool b]), (s0, .agg R), (s1, .bool b)] = true := by
    unfold fillsL
    simp [hom, ho0, ho1, hdm, hd0, hd1]
  -- behind both
  have tail : ∀ x W' blk, C x → Apt w0 W' (L' x ++ [obBlk blk T Z]) → FlowG P .any ops [c, c + 4, c + 5, c + 6] Q 2 [(c + 5, []), (c + 6, [])] ((fills (fills a l) (parts sc sm s0 s1 R b)).put (some sr) (.pointer (some ⟨blk, 0, none⟩))) W' := fun x W' blk hx hA2 => by
    have hL2 := hlate.put (v := .pointer (some ⟨blk, 0, none⟩)) hnd
    have hblk : W'.heap[blk]? = some (.cells Z T (0, 0)) := hA2.all _ _ (cell_end _ _)
    have hA3 : Apt w0 (W'.setRow blk R) (L' x ++ [obBlk blk T R]) := by
      rw [← cell_set (L' x) (obBlk blk T Z) (obBlk blk T R)]
      refine hA2.upd (cell_end _ _) ?_ ⟨Out.of_off (off_setRow hblk) rfl, fun _ hk => .inl hk⟩
      exact setRow_heap _ _ _ _ _ _ hblk
    have es : ((fills (fills a l) (parts sc sm s0 s1 R b)).put (some sr) (.pointer (some ⟨blk, 0, none⟩))).eval (.tmp sr) = .pointer (some ⟨blk, 0, none⟩) := by
      rw [eval_put, if_pos ⟨rfl, by rw [fills_size]; exact hz' sr (by simp)⟩]
    refine flowG_only (c + 5, []) [(c + 6, [])] hF (by simp) (late _ _ (kx _) hL2 hA2.grown) (stepG_skip os (W'.setRow blk R) [] hos hds (hw hos) ?_ rfl ?_)
    · unfold execOp
      simp only [hps, es, hL2.e0, Instr.storeAt, Instr.sureAddr, Sem.run_bind, Sem.run_pure, Result.andThen_ok, run_storeVar_row W' blk T T Z R hblk hT hZ h1]
    · refine flowG_only (c + 6, []) [] (by simp) (by simp) (late _ _ (kx _) hL2 hA3.grown) (stepG_val og (some sd) (.bool b) (W'.setRow blk R) [] hog hdg (hw hog) ?_ rfl (flowG_done (hq x _ blk hx hA3)))
      rw [exec_assign hpg]
      simp only [fills, hL2.e1]
  refine region_flowG (cellE c) (c + 6) l hm hG (by unfold cellE; simp) hl ?_
  have g0 := hap.drew
  refine flowG_either (n := 3) (c, [c + 1, c + 2, c + 3]) (c + 4, []) [(c + 4, []), (c + 5, []), (c + 6, [])] [(c, [c + 1, c + 2, c + 3]), (c + 5, []), (c + 6, [])] hS (by unfold cellE; simp) (by unfold cellE; simp) (early _ _ hk g0.grown) ?_ ?_
  · refine stepG_call oc (some sc) f args hoc hdc (hw hoc) (hcl oc hoc _ _ hk) ((hcall [] w.drew (by simpa using g0)).mono ?_)
    rintro e W' ⟨rfl, x, hx, hA2⟩
    refine ⟨_, rfl, _, fL, ?_⟩
    have hA2 : Apt w0 W' (L' x) := by simpa using hA2
    refine flowG_only (n := 2) (c + 4, []) [(c + 5, []), (c + 6, [])] hA (by simp) (late _ _ kf hlate hA2.grown) (stepG_val oa (some sr) _ _ [] hoa hda (hw hoa) (hal oa hoa _ _) rfl (tail x _ _ hx ?_))
    exact hA2.add ((Grown.refl _).alloc _ _) (blk_alloc_new _ _) fun k hk => by
      have hk : k = _ := hk
      rw [hk]; exact Nat.le_refl _
  · refine stepG_val oa (some sr) _ _ [] hoa hda (hw hoa) (hal oa hoa _ _) rfl ?_
    have g1 : Apt w0 (w.drew.alloc (.cells Z T)) (L ++ [obBlk w.drew.heap.size T Z]) := g0.add ((Grown.refl _).alloc _ _) (blk_alloc_new _ _) fun k hk => by
      have hk : k = _ := hk
      rw [hk]; exact Nat.le_refl _
    have k1 : EvH ((fills a l).put (some sr) (.pointer (some ⟨w.drew.heap.size, 0, none⟩))) known := evH_put (fun p hp e => hks sr (by simp) p hp (by cases e; rfl)) hk
    refine flowG_only (n := 2) (c, [c + 1, c + 2, c + 3]) [(c + 5, []), (c + 6, [])] hC (by simp) (early _ _ k1 g1.grown) (stepG_call oc (some sc) f args hoc hdc (hw hoc) (hcl oc hoc _ _ k1) ((hcall _ _ g1).mono ?_))
    rintro e W' ⟨rfl, x, hx, hA2⟩
    refine ⟨_, rfl, _, fL, ?_⟩
    have ht := tail x _ _ hx hA2
    have hc : (fills (fills a l) (parts sc sm s0 s1 R b)).put (some sr) (.pointer (some ⟨w.drew.heap.size, 0, none⟩)) = fills (((fills a l).put (some sr) (.pointer (some ⟨w.drew.heap.size, 0, none⟩))).put (some sc) (.tuple #[.agg R, .bool b])) [(sm, .tuple #[.agg R, .bool b]), (s0, .agg R), (s1, .bool b)] := by
      rw [← fills_comm]
      · rfl
      · intro p hp
        unfold parts at hp
        simp only [List.mem_cons, List.not_mem_nil, or_false] at hp
        rcases hp with rfl | rfl | rfl | rfl
        · exact hnd.1
        · exact hnd.2.1
        · exact hnd.2.2.1
        · exact hnd.2.2.2
    rw [hc] at ht
    exact ht
end Go.Proofs.Ythjcdloaclailaa
