/-
  What count of package policy does when it is called: a hit, or a miss, is counted, the climb turns where its period is over, and protected is held to its quota. No condition but those told at each sentence.
-/
import Derived.Test.YtlmcopenbeammaaPoShed
import Derived.Test.YtlmcopenbeammaaGenFlowN
namespace Go.Proofs.Ytlmcopenbeammaa.Po
open Go.RowKit Go.Deep Cm

theorem exec_load_mid {P : Program} {o : Oper} {A : Act} {w : World} (ty : TypeId) (x : Operand) (ho : o.op = .load ty x) (b k : Nat) (hx : A.eval x = .pointer (some ⟨b, k, none⟩)) (cs : List Value) (d : TypeDesc) (hc : w.rangeAt b k cs)
    (hu : P.underlying ty = some d) (hd : d.isRow = true) (hi : (P.info? ty).map (·.size) = some cs.length) : (execOp A.eval o).run P w = .ok (.value (.agg cs.toArray)) w := by
  unfold execOp
  simp only [ho, hx, Instr.loadAt, Instr.sureAddr, Sem.run_bind, Sem.run_pure, Result.andThen_ok, run_loadVar_mid w b k ty cs d hc hu hd hi]
theorem exec_store_mid {P : Program} {o : Oper} {A : Act} {w : World} (ty : TypeId) (x y : Operand) (ho : o.op = .store ty x y) (b k : Nat) (cells : Array Value) (hx : A.eval x = .pointer (some ⟨b, k, none⟩)) (hy : A.eval y = .agg cells)
    (ht : w.there b k cells.size) (hi : (P.info? ty).map (·.size) = some cells.size) (h1 : cells.all (·.oneCell') = true) : (execOp A.eval o).run P w = .ok .skip (w.setCells b k cells.toList) := by
  unfold execOp
  simp only [ho, hx, hy, Instr.storeAt, Instr.sureAddr, Sem.run_bind, Sem.run_pure, Result.andThen_ok, run_storeVar_mid w b k ty cells ht hi h1]

/-- Behind one hit, or miss, more. -/
def Ps.hit (y : Ps) (C : Int) (b : Bool) : Ps := { y with q := y.q.nx C (10 * wid C) b, t := y.t.shed 2 (pr C (y.q.nx C (10 * wid C) b).x) }
def inWin (C x : Int) : Prop := min 1 C ≤ x ∧ x ≤ C - C / 5
theorem pr_pos {C x : Int} (hC : wh C = C) (h : inWin C x) : 0 ≤ pr C x ∧ x + pr C x ≤ C ∧ 0 ≤ x := by
  have := wh_le C
  rw [hC] at this
  unfold inWin at h
  unfold pr
  omega
theorem nx_win {C p : Int} {q : Cq} {b : Bool} (hC : wh C = C) (h : inWin C q.x) : inWin C (q.nx C p b).x := by
  unfold Cq.nx
  split
  · have := ws_le C q.x (fa (q.cnt b).h (q.cnt b).m (q.cnt b).l (q.cnt b).s)
    rw [hC] at this
    show inWin C (ws (wh C) (q.cnt b).x _)
    rw [hC]; exact this
  · exact h
variable {w w' : World} {A S F X M mw : Nat} {G : Nat → Prop} {C seed : Int} {y : Ps}
section
variable {ops : Array Oper} {rest : List Oper} {o : Oper} {a : Act} {Q : Exit → Act → World → Prop} {x p h m l s : Int}
theorem wpList_load_pc (hg : o.guard = none) (z : Operand) (ho : o.op = .load 52 z) (hx : a.eval z = .pointer (some ⟨A, 6, none⟩)) (k : Pb w A F X M C x p h m l s) (hn : wpList Try.prog ops Q rest (a.put o.dst (Cm.cl h m l s)) w) : wpList Try.prog ops Q (o :: rest) a w :=
  wpList_load_mid hg 52 z ho A 6 hx [.int .i64 h, .int .i64 m, .int .i64 l, .int .i64 s] _ k.climb Try.underlying52 rfl (infoC h m l s) hn
theorem wpList_store_pc (hg : o.guard = none) (hd : o.dst = none) (z u : Operand) (ho : o.op = .store 52 z u) (hx : a.eval z = .pointer (some ⟨A, 6, none⟩)) {h' m' l' s' : Int} (hy : a.eval u = Cm.cl h' m' l' s') (k : Pb w A F X M C x p h m l s)
    (hn : ∀ W, Pb W A F X M C x p h' m' l' s' → Out (· = A) w W → wpList Try.prog ops Q rest a W) : wpList Try.prog ops Q (o :: rest) a w := by
  refine wpList_store_mid hg 52 z u ho A 6 #[.int .i64 h', .int .i64 m', .int .i64 l', .int .i64 s'] hx hy (k.there 6 4 (by omega)) (infoC h' m' l' s') (by simp [Value.oneCell']) ?_
  rw [hd]
  exact hn _ (k.setClimb _ _ _ _) (out_setCells _ _ _ _)
end
set_option maxRecDepth 100000 in
set_option maxHeartbeats 4000000 in
theorem count_p (h : Pof w A S F X M G C seed mw y) (hn : 1 < y.t.n) (hC : wh C = C) (hx : inWin C y.q.x) (b : Bool) :
    Calls Try.prog 44 #[ptr A, .bool b] w fun e w' => e = .returned (.tuple #[]) ∧ ∃ G', Pof w' A S F X M G' C seed mw (y.hit C b) ∧ Step (foot A S F M G) (foot A S F M G') w w' := by
  have HN : Hid (1 < y.t.n ∧ wh C = C ∧ inWin C y.q.x) := ⟨hn, hC, hx⟩
  have hw := nx_win (p := 10 * wid C) (b := b) hC hx
  have H0 := (pr_pos hC hw).1
  have WI := fun w => width_p C w
  have hwl := wid_le C
  obtain ⟨v, hv⟩ : ∃ v, v = wid C := ⟨_, rfl⟩
  rw [← hv] at WI hwl
  have HV : Hid (v = wid C) := hv
  clear hv
  obtain ⟨q, eq⟩ : ∃ q, q = y.q := ⟨_, rfl⟩
  have HQ : Hid (q = y.q) := eq
  have CC : ∀ w, Calls Try.prog 64 #[Cm.cl q.h q.m q.l q.s, .bool b] w fun e w' => e = .returned (Cm.cl (q.cnt b).h (q.cnt b).m (q.cnt b).l (q.cnt b).s) ∧ Grown w w' := fun w => Cm.count_c q.h q.m q.l q.s b w
  have hux : (q.cnt b).x = q.x := rfl
  have hnx : q.nx C (10 * v) b = if 1 ≤ 10 * v ∧ 10 * v ≤ cc (q.cnt b).h + cc (q.cnt b).m then (q.cnt b).trn C else q.cnt b := rfl
  obtain ⟨u, eu⟩ : ∃ u, u = q.cnt b := ⟨_, rfl⟩
  simp only [← eu] at CC hux hnx
  clear eu
  have DU := fun w => Cm.due_c u.h u.m u.l u.s (10 * v) w
  have K := h.pb
  have HP : Hid (Pof w A S F X M G C seed mw y) := h
  rw [← eq] at K
  clear hn hC hx h
  by_cases hdue : 1 ≤ 10 * v ∧ 10 * v ≤ cc u.h + cc u.m
  · rw [decide_eq_true hdue] at DU
    have hC := HN.out.2.1
    have TU := fun w => Cm.turn_c u.h u.m u.l u.s C w
    have htr : u.trn C = ⟨0, 0, rt (cc u.h) (cc u.m), st (fa u.h u.m u.l u.s) (rt (cc u.h) (cc u.m) - cr u.l) C, ws (wh C) u.x (fa u.h u.m u.l u.s)⟩ := rfl
    rw [hux, hC] at htr
    have SH := fun w => shift_in hC q.x (pr C q.x) (fa u.h u.m u.l u.s) w
    obtain ⟨E, eE⟩ : ∃ E, E = fa u.h u.m u.l u.s := ⟨_, rfl⟩
    obtain ⟨T, eT⟩ : ∃ T, T = st E (rt (cc u.h) (cc u.m) - cr u.l) C := ⟨_, rfl⟩
    obtain ⟨R, eR⟩ : ∃ R, R = rt (cc u.h) (cc u.m) := ⟨_, rfl⟩
    obtain ⟨N, eN⟩ : ∃ N, N = ws C q.x E := ⟨_, rfl⟩
    simp only [← eE] at SH TU htr
    simp only [← eT] at TU htr
    simp only [← eR, ← eN] at SH TU htr
    have HX : Hid (q.nx C (10 * v) b = ⟨0, 0, R, T, N⟩) := (hnx.trans (if_pos hdue)).trans htr
    have HZ : Hid (0 ≤ pr C (y.q.nx C (10 * wid C) b).x) := H0
    clear htr eE eT eR eN hux hnx H0 hw hdue eq hC
    have HSH : Hid (∀ w, Calls Try.prog 67 #[.agg #[.int .i64 C, .int .i64 q.x, .int .i64 (pr C q.x)], .int .i64 E] w fun e w' => e = .returned (.agg #[.int .i64 C, .int .i64 N, .int .i64 (pr C N)]) ∧ Grown w w') := SH
    clear SH
    unfold ptr
    go_enter Try.func44, Try.ntmps44
    go_wp2_with (first | (refine wpList_load_pc rfl (.tmp 9) rfl rfl K ?_) | (go_at_call 64; with_reducible refine (CC _).mono ?_; rintro e w3 ⟨rfl, g3⟩; have K3 := (HP.out.grown g3).pb) | (refine wpList_store_pc rfl rfl (.tmp 14) (.tmp 12) rfl rfl rfl K3 ?_; intro w4 k4 o4))
    obtain ⟨P4, S4⟩ := (HP.out.grown g3).own (q' := ⟨u.h, u.m, u.l, u.s, y.q.x⟩) k4 o4
    have S4 := (Step.grown (foot A S F M G) g3).trans S4
    have P5 := P4.grown (Grown.refl _).drew
    obtain ⟨c0, c1, c2, c3, c4, c5⟩ := P5.pb.cells
    have k5 := P5.pb
    clear K3 k4 o4 K CC
    refine region_flowN [(9, [10]), (11, [])] 11 [(15, .pointer (some ⟨A, 0, none⟩)), (16, .pointer (some ⟨A, 0, none⟩)), (17, .pointer (some ⟨A, 6, none⟩)), (18, Cm.cl u.h u.m u.l u.s), (19, .pointer (some ⟨A, 0, none⟩)), (20, .pointer (some ⟨A, 0, none⟩)), (21, .pointer (some ⟨A, 3, none⟩)), (22, .pointer (some ⟨A, 3, none⟩)), (23, .int .i64 C)] Cm.hmx (by kernel_rfl) (by decide) (by kernel_rfl) ?_
    simp only [fills, Act.put, List.setIfInBounds_toArray, List.set_cons_zero, List.set_cons_succ]
    refine flowN_only (9, [10]) [(11, [])] (by kernel_rfl) (by rfl) ?run (stepN_call _ (some 24) 17 _ rfl rfl (by go_simp) ((WI _).mono ?_))
    case run =>
      clear P4 P5 S4 DU WI TU
      intro i o ho hi hoff
      iterate 12 (rcases i with _ | i; · first | (exact absurd hi (by decide)) | (exact absurd hoff (by decide)) | (cases ho; exact exec_load_mid 52 (.tmp 17) rfl A 6 rfl [.int .i64 u.h, .int .i64 u.m, .int .i64 u.l, .int .i64 u.s] _ k5.climb Try.underlying52 rfl (infoC u.h u.m u.l u.s)) | (cases ho; go_simp))
      cases ho
    rintro e w6 ⟨rfl, hw6⟩
    have hw6 := hw6.symm
    subst hw6
    have w10 : IntKind.i64.wrap (10 * v) = 10 * v := by simp [IntKind.wrap, IntKind.signed, IntKind.bits]; omega
    refine ⟨_, rfl, [(25, .int .i64 (10 * v))], by kernel_rfl, ?_⟩
    simp only [fills, Act.put, List.setIfInBounds_toArray]
    refine flowN_only (11, []) [] (by kernel_rfl) (by rfl) ?run2 (stepN_call _ (some 26) 65 _ rfl rfl (by go_simp) ((DU _).mono ?_))
    case run2 =>
      clear P4 P5 S4 DU WI TU
      intro i o ho hi hoff
      iterate 12 (rcases i with _ | i; · first | (exact absurd hi (by decide)) | (exact absurd hoff (by decide)) | (cases ho; exact exec_load_mid 52 (.tmp 17) rfl A 6 rfl [.int .i64 u.h, .int .i64 u.m, .int .i64 u.l, .int .i64 u.s] _ k5.climb Try.underlying52 rfl (infoC u.h u.m u.l u.s)) | (cases ho; go_simp))
      cases ho
    rintro e w7 ⟨rfl, g7⟩
    refine ⟨_, rfl, [], by kernel_rfl, ?_⟩
    simp only [fills, Act.put]
    have P7 := (P5.grown g7).grown (Grown.refl _).drew
    have S7 := S4.more (grownTrans (grownTrans (Grown.refl _).drew g7) (Grown.refl _).drew)
    clear c0 c1 c2 c3 c4 c5 k5 w10 P4 P5 S4
    obtain ⟨c0, c1, c2, c3, c4, c5⟩ := P7.pb.cells
    have k7 := P7.pb
    refine flowN_done ?_
    go_wp2
    refine region_flowN [(9, [10, 11, 12]), (13, []), (14, []), (15, [])] 15 [(28, .pointer (some ⟨A, 0, none⟩)), (29, .pointer (some ⟨A, 0, none⟩)), (30, .pointer (some ⟨A, 6, none⟩)), (31, Cm.cl u.h u.m u.l u.s), (32, .pointer (some ⟨A, 0, none⟩)), (33, .pointer (some ⟨A, 0, none⟩)), (34, .pointer (some ⟨A, 3, none⟩)), (35, .pointer (some ⟨A, 3, none⟩)), (36, .int .i64 C)] Cm.hmx (by kernel_rfl) (by decide) (by kernel_rfl) ?_
    simp only [fills, Act.put, List.setIfInBounds_toArray, List.set_cons_zero, List.set_cons_succ]
    refine flowN_either (9, [10, 11, 12]) (13, []) [(13, []), (14, []), (15, [])] [(9, [10, 11, 12]), (14, []), (15, [])] (by kernel_rfl) (by rfl) (by rfl) ?run3 ?st1 ?st2
    case run3 =>
      clear P7 S7 DU WI TU
      intro i o ho hi hoff
      iterate 16 (rcases i with _ | i; · first | (exact absurd hi (by decide)) | (exact absurd hoff (by decide)) | (cases ho; exact exec_load_mid 52 (.tmp 30) rfl A 6 rfl [.int .i64 u.h, .int .i64 u.m, .int .i64 u.l, .int .i64 u.s] _ k7.climb Try.underlying52 rfl (infoC u.h u.m u.l u.s)) | (cases ho; go_simp))
      cases ho
    refine stepN_call _ (some 37) 66 _ rfl rfl (by go_simp) ((TU _).mono ?_)
    rintro e w8 ⟨rfl, g8⟩
    replace P7 := P7.grown g8
    replace S7 := S7.more g8
    clear k7 c0 c1 c2 c3 c4 c5
    obtain ⟨c0, c1, c2, c3, c4, c5⟩ := P7.pb.cells
    have k7 := P7.pb
    refine ⟨_, rfl, [(27, .tuple #[Cm.cl 0 0 R T, .int .i64 E]), (38, Cm.cl 0 0 R T), (39, .int .i64 E)], by kernel_rfl, ?_⟩
    simp only [fills, Act.put, List.setIfInBounds_toArray, List.set_cons_zero, List.set_cons_succ]
    refine flowN_only (13, []) [(14, []), (15, [])] (by kernel_rfl) (by rfl) ?r1 (stepN_val _ (some 4) (.pointer (some ⟨w8.heap.size, 0, none⟩)) (w8.alloc (.cells #[.int .i64 0, .int .i64 0, .int .i64 0, .int .i64 0] 52)) [] rfl rfl (by go_simp) (by kernel_rfl) ?_)
    case r1 =>
      clear P7 S7 DU WI TU
      intro i o ho hi hoff
      iterate 16 (rcases i with _ | i; · first | (exact absurd hi (by decide)) | (exact absurd hoff (by decide)) | (cases ho; exact exec_load_mid 52 (.tmp 30) rfl A 6 rfl [.int .i64 u.h, .int .i64 u.m, .int .i64 u.l, .int .i64 u.s] _ k7.climb Try.underlying52 rfl (infoC u.h u.m u.l u.s)) | (cases ho; go_simp))
      cases ho
    have g9 : Grown w8 (w8.alloc (.cells #[.int .i64 0, .int .i64 0, .int .i64 0, .int .i64 0] 52)) := (Grown.refl _).alloc _ _
    have kb0 := Cb.new w8 0 0 0 0
    have HB : ∀ i, foot A S F M G i → i < w8.heap.size := fun i hi => P7.lt i hi
    have hwB := S7.out.size
    replace P7 := P7.grown g9
    replace S7 := S7.more g9
    obtain ⟨B, eB⟩ : ∃ B, B = w8.heap.size := ⟨_, rfl⟩
    rw [← eB] at kb0 HB hwB ⊢
    obtain ⟨W, eW⟩ : ∃ W, W = w8.alloc (.cells #[.int .i64 0, .int .i64 0, .int .i64 0, .int .i64 0] 52) := ⟨_, rfl⟩
    rw [← eW] at kb0 P7 S7 ⊢
    have HBB : Hid ((∀ i, foot A S F M G i → i < B) ∧ w.heap.size ≤ B) := ⟨HB, hwB⟩
    clear eW g9 eB HB hwB
    clear k7 c0 c1 c2 c3 c4 c5
    obtain ⟨c0, c1, c2, c3, c4, c5⟩ := P7.pb.cells
    have k7 := P7.pb
    simp only [fills, Act.put, List.setIfInBounds_toArray, List.set_cons_zero, List.set_cons_succ]
    have ht : W.there B 0 4 := fun j hj => by
      obtain ⟨a0, a1, a2, a3⟩ := kb0.cells
      obtain ⟨f0, f1, f2, f3⟩ := kb0.free
      rcases j with _ | _ | _ | _ | j
      · exact ⟨by rw [show (0 + 0 : Nat) = 0 from rfl, a0]; rfl, f0⟩
      · exact ⟨by rw [show (0 + (0 + 1) : Nat) = 1 from rfl, a1]; rfl, f1⟩
      · exact ⟨by rw [show (0 + (0 + 1 + 1) : Nat) = 2 from rfl, a2]; rfl, f2⟩
      · exact ⟨by rw [show (0 + (0 + 1 + 1 + 1) : Nat) = 3 from rfl, a3]; rfl, f3⟩
      · omega
    refine flowN_only (14, []) [(15, [])] (by kernel_rfl) (by rfl) ?r2 (stepN_skip _ (W.setCells B 0 [.int .i64 0, .int .i64 0, .int .i64 R, .int .i64 T]) [] rfl rfl (exec_store_mid 52 (.tmp 4) (.tmp 38) rfl B 0 #[.int .i64 0, .int .i64 0, .int .i64 R, .int .i64 T] rfl rfl ht (infoC 0 0 R T) (by simp [Value.oneCell'])) (by kernel_rfl) ?_)
    case r2 =>
      clear P7 S7 DU WI TU
      intro i o ho hi hoff
      iterate 16 (rcases i with _ | i; · first | (exact absurd hi (by decide)) | (exact absurd hoff (by decide)) | (cases ho; exact exec_load_mid 52 (.tmp 30) rfl A 6 rfl [.int .i64 u.h, .int .i64 u.m, .int .i64 u.l, .int .i64 u.s] _ k7.climb Try.underlying52 rfl (infoC u.h u.m u.l u.s)) | (cases ho; go_simp))
      cases ho
    have kb1 : Cb (W.setCells B 0 [.int .i64 0, .int .i64 0, .int .i64 R, .int .i64 T]) B 0 0 R T := Cb.set4 kb0 _ _ _ _
    have o1 := out_setCells W B 0 [.int .i64 0, .int .i64 0, .int .i64 R, .int .i64 T]
    replace P7 := P7.out o1 fun i hi e => by have := HBB.out.1 i hi; omega
    replace S7 : Step (foot A S F M G) (foot A S F M G) w (W.setCells B 0 [.int .i64 0, .int .i64 0, .int .i64 R, .int .i64 T]) := ⟨S7.out.trans o1 fun i hi => .inr (by rw [hi]; exact HBB.out.2), S7.new⟩
    obtain ⟨V, eV⟩ : ∃ V, V = W.setCells B 0 [.int .i64 0, .int .i64 0, .int .i64 R, .int .i64 T] := ⟨_, rfl⟩
    rw [← eV] at kb1 P7 S7 ⊢
    clear eV o1 kb0 ht
    clear k7 c0 c1 c2 c3 c4 c5
    obtain ⟨c0, c1, c2, c3, c4, c5⟩ := P7.pb.cells
    have k7 := P7.pb
    simp only [fills]
    refine flowN_only (15, []) [] (by kernel_rfl) (by rfl) ?r3 (stepN_val _ (some 5) (.int .i64 E) V [] rfl rfl (by go_simp) (by kernel_rfl) ?_)
    case r3 =>
      clear P7 S7 DU WI TU
      intro i o ho hi hoff
      iterate 16 (rcases i with _ | i; · first | (exact absurd hi (by decide)) | (exact absurd hoff (by decide)) | (cases ho; exact exec_load_mid 52 (.tmp 30) rfl A 6 rfl [.int .i64 u.h, .int .i64 u.m, .int .i64 u.l, .int .i64 u.s] _ k7.climb Try.underlying52 rfl (infoC u.h u.m u.l u.s)) | (cases ho; go_simp))
      cases ho
    simp only [fills, Act.put, List.setIfInBounds_toArray, List.set_cons_zero, List.set_cons_succ]
    refine flowN_done ?_
    rotate_left 1
    refine stepN_val _ (some 4) (.pointer (some ⟨w7.drew.heap.size, 0, none⟩)) (w7.drew.alloc (.cells #[.int .i64 0, .int .i64 0, .int .i64 0, .int .i64 0] 52)) [] rfl rfl (by go_simp) (by kernel_rfl) ?_
    have g9 : Grown w7.drew (w7.drew.alloc (.cells #[.int .i64 0, .int .i64 0, .int .i64 0, .int .i64 0] 52)) := (Grown.refl _).alloc _ _
    have kb0 := Cb.new w7.drew 0 0 0 0
    have HB : ∀ i, foot A S F M G i → i < w7.drew.heap.size := fun i hi => P7.lt i hi
    have hwB := S7.out.size
    replace P7 := P7.grown g9
    replace S7 := S7.more g9
    obtain ⟨B, eB⟩ : ∃ B, B = w7.drew.heap.size := ⟨_, rfl⟩
    rw [← eB] at kb0 HB hwB ⊢
    obtain ⟨W, eW⟩ : ∃ W, W = w7.drew.alloc (.cells #[.int .i64 0, .int .i64 0, .int .i64 0, .int .i64 0] 52) := ⟨_, rfl⟩
    rw [← eW] at kb0 P7 S7 ⊢
    have HBB : Hid ((∀ i, foot A S F M G i → i < B) ∧ w.heap.size ≤ B) := ⟨HB, hwB⟩
    clear eW g9 eB HB hwB
    clear k7 c0 c1 c2 c3 c4 c5
    obtain ⟨c0, c1, c2, c3, c4, c5⟩ := P7.pb.cells
    have k7 := P7.pb
    simp only [fills, Act.put, List.setIfInBounds_toArray, List.set_cons_zero, List.set_cons_succ]
    refine flowN_only (9, [10, 11, 12]) [(14, []), (15, [])] (by kernel_rfl) (by rfl) ?r4 ?_
    case r4 =>
      clear P7 S7 DU WI TU
      intro i o ho hi hoff
      iterate 16 (rcases i with _ | i; · first | (exact absurd hi (by decide)) | (exact absurd hoff (by decide)) | (cases ho; exact exec_load_mid 52 (.tmp 30) rfl A 6 rfl [.int .i64 u.h, .int .i64 u.m, .int .i64 u.l, .int .i64 u.s] _ k7.climb Try.underlying52 rfl (infoC u.h u.m u.l u.s)) | (cases ho; go_simp))
      cases ho
    refine stepN_call _ (some 37) 66 _ rfl rfl (by go_simp) ((TU _).mono ?_)
    rintro e w9 ⟨rfl, g9⟩
    replace P7 := P7.grown g9
    replace S7 := S7.more g9
    replace kb0 := kb0.grown g9
    clear k7 c0 c1 c2 c3 c4 c5
    obtain ⟨c0, c1, c2, c3, c4, c5⟩ := P7.pb.cells
    have k7 := P7.pb
    refine ⟨_, rfl, [(27, .tuple #[Cm.cl 0 0 R T, .int .i64 E]), (38, Cm.cl 0 0 R T), (39, .int .i64 E)], by kernel_rfl, ?_⟩
    simp only [fills, Act.put, List.setIfInBounds_toArray, List.set_cons_zero, List.set_cons_succ]
    have ht : w9.there B 0 4 := fun j hj => by
      obtain ⟨a0, a1, a2, a3⟩ := kb0.cells
      obtain ⟨f0, f1, f2, f3⟩ := kb0.free
      rcases j with _ | _ | _ | _ | j
      · exact ⟨by rw [show (0 + 0 : Nat) = 0 from rfl, a0]; rfl, f0⟩
      · exact ⟨by rw [show (0 + (0 + 1) : Nat) = 1 from rfl, a1]; rfl, f1⟩
      · exact ⟨by rw [show (0 + (0 + 1 + 1) : Nat) = 2 from rfl, a2]; rfl, f2⟩
      · exact ⟨by rw [show (0 + (0 + 1 + 1 + 1) : Nat) = 3 from rfl, a3]; rfl, f3⟩
      · omega
    refine flowN_only (14, []) [(15, [])] (by kernel_rfl) (by rfl) ?r5 (stepN_skip _ (w9.setCells B 0 [.int .i64 0, .int .i64 0, .int .i64 R, .int .i64 T]) [] rfl rfl (exec_store_mid 52 (.tmp 4) (.tmp 38) rfl B 0 #[.int .i64 0, .int .i64 0, .int .i64 R, .int .i64 T] rfl rfl ht (infoC 0 0 R T) (by simp [Value.oneCell'])) (by kernel_rfl) ?_)
    case r5 =>
      clear P7 S7 DU WI TU
      intro i o ho hi hoff
      iterate 16 (rcases i with _ | i; · first | (exact absurd hi (by decide)) | (exact absurd hoff (by decide)) | (cases ho; exact exec_load_mid 52 (.tmp 30) rfl A 6 rfl [.int .i64 u.h, .int .i64 u.m, .int .i64 u.l, .int .i64 u.s] _ k7.climb Try.underlying52 rfl (infoC u.h u.m u.l u.s)) | (cases ho; go_simp))
      cases ho
    have kb1 : Cb (w9.setCells B 0 [.int .i64 0, .int .i64 0, .int .i64 R, .int .i64 T]) B 0 0 R T := Cb.set4 kb0 _ _ _ _
    have o1 := out_setCells w9 B 0 [.int .i64 0, .int .i64 0, .int .i64 R, .int .i64 T]
    replace P7 := P7.out o1 fun i hi e => by have := HBB.out.1 i hi; omega
    replace S7 : Step (foot A S F M G) (foot A S F M G) w (w9.setCells B 0 [.int .i64 0, .int .i64 0, .int .i64 R, .int .i64 T]) := ⟨S7.out.trans o1 fun i hi => .inr (by rw [hi]; exact HBB.out.2), S7.new⟩
    obtain ⟨V, eV⟩ : ∃ V, V = w9.setCells B 0 [.int .i64 0, .int .i64 0, .int .i64 R, .int .i64 T] := ⟨_, rfl⟩
    rw [← eV] at kb1 P7 S7 ⊢
    clear eV o1 kb0 ht
    clear k7 c0 c1 c2 c3 c4 c5
    obtain ⟨c0, c1, c2, c3, c4, c5⟩ := P7.pb.cells
    have k7 := P7.pb
    simp only [fills]
    refine flowN_only (15, []) [] (by kernel_rfl) (by rfl) ?r6 (stepN_val _ (some 5) (.int .i64 E) V [] rfl rfl (by go_simp) (by kernel_rfl) ?_)
    case r6 =>
      clear P7 S7 DU WI TU
      intro i o ho hi hoff
      iterate 16 (rcases i with _ | i; · first | (exact absurd hi (by decide)) | (exact absurd hoff (by decide)) | (cases ho; exact exec_load_mid 52 (.tmp 30) rfl A 6 rfl [.int .i64 u.h, .int .i64 u.m, .int .i64 u.l, .int .i64 u.s] _ k7.climb Try.underlying52 rfl (infoC u.h u.m u.l u.s)) | (cases ho; go_simp))
      cases ho
    simp only [fills, Act.put, List.setIfInBounds_toArray, List.set_cons_zero, List.set_cons_succ]
    refine flowN_done ?_
    all_goals
      clear DU TU
      have k7 : Pb V A F X M C q.x (pr C q.x) u.h u.m u.l u.s := by rw [HQ.out]; exact P7.pb
      go_wp2
      replace P7 := P7.grown (Grown.refl _).drew
      replace S7 := S7.more (Grown.refl _).drew
      replace kb1 := kb1.grown (Grown.refl _).drew
      have k7 : Pb V.drew A F X M C q.x (pr C q.x) u.h u.m u.l u.s := by rw [HQ.out]; exact P7.pb
      clear c0 c1 c2 c3 c4 c5
      obtain ⟨c0, c1, c2, c3, c4, c5⟩ := k7.cells
      refine region_flowN [(8, []), (11, []), (14, [])] 14 [(40, .pointer (some ⟨A, 0, none⟩)), (41, .pointer (some ⟨A, 0, none⟩)), (42, Cm.cl 0 0 R T), (43, .pointer (some ⟨A, 0, none⟩)), (44, .pointer (some ⟨A, 0, none⟩)), (45, .pointer (some ⟨A, 3, none⟩)), (46, .agg #[.int .i64 C, .int .i64 q.x, .int .i64 (pr C q.x)]), (47, .int .i64 E), (49, .pointer (some ⟨A, 0, none⟩)), (50, .pointer (some ⟨A, 6, none⟩)), (51, .pointer (some ⟨A, 0, none⟩)), (52, .pointer (some ⟨A, 3, none⟩))] Cm.hmx (by kernel_rfl) (by decide) (by kernel_rfl) ?_
      simp only [fills, Act.put, List.setIfInBounds_toArray, List.set_cons_zero, List.set_cons_succ]
      refine flowN_only (8, []) [(11, []), (14, [])] (by kernel_rfl) (by rfl) ?r7 (stepN_call _ (some 48) 67 _ rfl rfl (by go_simp) ((HSH.out _).mono ?_))
      case r7 =>
        clear P7 S7 WI
        intro i o ho hi hoff
        iterate 15 (rcases i with _ | i; · first | (exact absurd hi (by decide)) | (exact absurd hoff (by decide)) | (cases ho; exact exec_load_row 52 (.tmp 4) rfl B rfl 52 _ (0, 0) _ kb1 Try.underlying52 rfl (infoC _ _ _ _)) | (cases ho; exact exec_load_mid 49 (.tmp 45) rfl A 3 rfl [.int .i64 C, .int .i64 q.x, .int .i64 (pr C q.x)] _ k7.quota Try.underlying49 rfl (infoQ C q.x (pr C q.x))) | (cases ho; go_simp))
        cases ho
      rintro e wa ⟨rfl, ga⟩
      replace P7 := P7.grown ga
      replace S7 := S7.more ga
      replace kb1 := kb1.grown ga
      clear k7 c0 c1 c2 c3 c4 c5
      have k7 : Pb wa A F X M C q.x (pr C q.x) u.h u.m u.l u.s := by rw [HQ.out]; exact P7.pb
      obtain ⟨c0, c1, c2, c3, c4, c5⟩ := k7.cells
      refine ⟨_, rfl, [], by kernel_rfl, ?_⟩
      simp only [fills, Act.put, List.setIfInBounds_toArray, List.set_cons_zero, List.set_cons_succ]
      refine flowN_only (11, []) [(14, [])] (by kernel_rfl) (by rfl) ?r8 (stepN_skip _ (wa.setCells A 6 [.int .i64 0, .int .i64 0, .int .i64 R, .int .i64 T]) [] rfl rfl (exec_store_mid 52 (.tmp 50) (.tmp 42) rfl A 6 #[.int .i64 0, .int .i64 0, .int .i64 R, .int .i64 T] rfl rfl (k7.there 6 4 (by omega)) (infoC 0 0 R T) (by simp [Value.oneCell'])) (by kernel_rfl) ?_)
      case r8 =>
        clear P7 S7 WI
        intro i o ho hi hoff
        iterate 15 (rcases i with _ | i; · first | (exact absurd hi (by decide)) | (exact absurd hoff (by decide)) | (cases ho; exact exec_load_row 52 (.tmp 4) rfl B rfl 52 _ (0, 0) _ kb1 Try.underlying52 rfl (infoC _ _ _ _)) | (cases ho; exact exec_load_mid 49 (.tmp 45) rfl A 3 rfl [.int .i64 C, .int .i64 q.x, .int .i64 (pr C q.x)] _ k7.quota Try.underlying49 rfl (infoQ C q.x (pr C q.x))) | (cases ho; go_simp))
        cases ho
      obtain ⟨P8, S8⟩ := P7.own (q' := ⟨0, 0, R, T, y.q.x⟩) (P7.pb.setClimb 0 0 R T) (out_setCells _ _ _ _)
      replace S7 := S7.trans S8
      have hne : B ≠ A := fun e => by have := HBB.out.1 A (.inl rfl); omega
      replace kb1 : Cb (wa.setCells A 6 [.int .i64 0, .int .i64 0, .int .i64 R, .int .i64 T]) B 0 0 R T := ((out_setCells wa A 6 _).block B kb1.lt hne).trans kb1
      clear k7 c0 c1 c2 c3 c4 c5 S8 P7
      obtain ⟨wb, eb⟩ : ∃ V, V = wa.setCells A 6 [.int .i64 0, .int .i64 0, .int .i64 R, .int .i64 T] := ⟨_, rfl⟩
      rw [← eb] at kb1 P8 S7 ⊢
      clear eb
      have k7 : Pb wb A F X M C q.x (pr C q.x) 0 0 R T := by rw [HQ.out]; exact P8.pb
      obtain ⟨c0, c1, c2, c3, c4, c5⟩ := k7.cells
      simp only [fills]
      refine flowN_only (14, []) [] (by kernel_rfl) (by rfl) ?r9 (stepN_skip _ (wb.setCells A 3 [.int .i64 C, .int .i64 N, .int .i64 (pr C N)]) [] rfl rfl (exec_store_mid 49 (.tmp 52) (.tmp 48) rfl A 3 #[.int .i64 C, .int .i64 N, .int .i64 (pr C N)] rfl rfl (k7.there 3 3 (by omega)) (infoQ C N (pr C N)) (by simp [Value.oneCell'])) (by kernel_rfl) ?_)
      case r9 =>
        clear P8 S7 WI
        intro i o ho hi hoff
        iterate 15 (rcases i with _ | i; · first | (exact absurd hi (by decide)) | (exact absurd hoff (by decide)) | (cases ho; exact exec_load_row 52 (.tmp 4) rfl B rfl 52 _ (0, 0) _ kb1 Try.underlying52 rfl (infoC _ _ _ _)) | (cases ho; exact exec_load_mid 49 (.tmp 45) rfl A 3 rfl [.int .i64 C, .int .i64 q.x, .int .i64 (pr C q.x)] _ k7.quota Try.underlying49 rfl (infoQ C q.x (pr C q.x))) | (cases ho; go_simp))
        cases ho
      obtain ⟨P9, S9⟩ := P8.own (q' := ⟨0, 0, R, T, N⟩) (P8.pb.setQuota C N (pr C N)) (out_setCells _ _ _ _)
      replace S7 := S7.trans S9
      clear k7 c0 c1 c2 c3 c4 c5 S9 P8 kb1
      obtain ⟨wc, ec⟩ : ∃ V, V = wb.setCells A 3 [.int .i64 C, .int .i64 N, .int .i64 (pr C N)] := ⟨_, rfl⟩
      rw [← ec] at P9 S7 ⊢
      clear ec
      obtain ⟨c0, c1, c2, c3, c4, c5⟩ := P9.pb.cells
      simp only [fills]
      refine flowN_done ?_
      have hp := HZ.out
      rw [← HV.out, ← HQ.out, HX.out] at hp
      have SH := shed_p P9 2 (by omega) HN.out.1 (pr C N) hp
      unfold ptr at SH
      go_wp2_with (go_at_call 49; refine SH.mono ?_; rintro e w8 ⟨rfl, G', P8, S8⟩)
      go_end0
      refine ⟨rfl, G', ?_, S7.trans S8⟩
      have e : y.hit C b = { y with q := ⟨0, 0, R, T, N⟩, t := y.t.shed 2 (pr C N) } := by
        unfold Ps.hit
        rw [← HV.out, ← HQ.out, HX.out]
      rw [e]
      exact P8
  · rw [decide_eq_false hdue] at DU
    unfold ptr
    have HD : Hid (¬ (1 ≤ 10 * v ∧ 10 * v ≤ cc u.h + cc u.m)) := hdue
    have HU : Hid (u.x = q.x) := hux
    have HX : Hid (q.nx C (10 * v) b = u) := hnx.trans (if_neg hdue)
    have HZ : Hid (0 ≤ pr C (y.q.nx C (10 * wid C) b).x) := H0
    clear hux hnx H0 hw hdue eq
    go_enter Try.func44, Try.ntmps44
    go_wp2_with (first | (refine wpList_load_pc rfl (.tmp 9) rfl rfl K ?_) | (go_at_call 64; with_reducible refine (CC _).mono ?_; rintro e w3 ⟨rfl, g3⟩; have K3 := (HP.out.grown g3).pb) | (refine wpList_store_pc rfl rfl (.tmp 14) (.tmp 12) rfl rfl rfl K3 ?_; intro w4 k4 o4))
    obtain ⟨P4, S4⟩ := (HP.out.grown g3).own (q' := ⟨u.h, u.m, u.l, u.s, y.q.x⟩) k4 o4
    have S4 := (Step.grown (foot A S F M G) g3).trans S4
    have P5 := P4.grown (Grown.refl _).drew
    obtain ⟨c0, c1, c2, c3, c4, c5⟩ := P5.pb.cells
    have RW : ∀ W, Pb W A F X M C y.q.x (pr C y.q.x) u.h u.m u.l u.s → W.rangeAt A 6 [.int .i64 u.h, .int .i64 u.m, .int .i64 u.l, .int .i64 u.s] := fun W k => k.climb
    have k5 := P5.pb
    clear K3 k4 o4 K CC
    refine region_flowN [(9, [10]), (11, [])] 11 [(15, .pointer (some ⟨A, 0, none⟩)), (16, .pointer (some ⟨A, 0, none⟩)), (17, .pointer (some ⟨A, 6, none⟩)), (18, Cm.cl u.h u.m u.l u.s), (19, .pointer (some ⟨A, 0, none⟩)), (20, .pointer (some ⟨A, 0, none⟩)), (21, .pointer (some ⟨A, 3, none⟩)), (22, .pointer (some ⟨A, 3, none⟩)), (23, .int .i64 C)] Cm.hmx (by kernel_rfl) (by decide) (by kernel_rfl) ?_
    simp only [fills, Act.put, List.setIfInBounds_toArray, List.set_cons_zero, List.set_cons_succ]
    have hrun : ∀ W, Pb W A F X M C y.q.x (pr C y.q.x) u.h u.m u.l u.s → W.cell? ⟨A, 3, none⟩ = some (.int .i64 C) := fun W k => k.cells.2.2.2.1
    refine flowN_only (9, [10]) [(11, [])] (by kernel_rfl) (by rfl) ?run (stepN_call _ (some 24) 17 _ rfl rfl (by go_simp) ((WI _).mono ?_))
    case run =>
      clear RW hrun P4 P5 S4 DU WI
      intro i o ho hi hoff
      iterate 12 (rcases i with _ | i; · first | (exact absurd hi (by decide)) | (exact absurd hoff (by decide)) | (cases ho; exact exec_load_mid 52 (.tmp 17) rfl A 6 rfl [.int .i64 u.h, .int .i64 u.m, .int .i64 u.l, .int .i64 u.s] _ k5.climb Try.underlying52 rfl (infoC u.h u.m u.l u.s)) | (cases ho; go_simp))
      cases ho
    rintro e w6 ⟨rfl, hw6⟩
    have hw6 := hw6.symm
    subst hw6
    have w10 : IntKind.i64.wrap (10 * v) = 10 * v := by simp [IntKind.wrap, IntKind.signed, IntKind.bits]; omega
    refine ⟨_, rfl, [(25, .int .i64 (10 * v))], by kernel_rfl, ?_⟩
    simp only [fills, Act.put, List.setIfInBounds_toArray]
    refine flowN_only (11, []) [] (by kernel_rfl) (by rfl) ?run2 (stepN_call _ (some 26) 65 _ rfl rfl (by go_simp) ((DU _).mono ?_))
    case run2 =>
      clear RW hrun P4 P5 S4 DU WI
      intro i o ho hi hoff
      iterate 12 (rcases i with _ | i; · first | (exact absurd hi (by decide)) | (exact absurd hoff (by decide)) | (cases ho; exact exec_load_mid 52 (.tmp 17) rfl A 6 rfl [.int .i64 u.h, .int .i64 u.m, .int .i64 u.l, .int .i64 u.s] _ k5.climb Try.underlying52 rfl (infoC u.h u.m u.l u.s)) | (cases ho; go_simp))
      cases ho
    rintro e w7 ⟨rfl, g7⟩
    refine ⟨_, rfl, [], by kernel_rfl, ?_⟩
    simp only [fills, Act.put]
    have P7 := P5.grown g7
    have S7 := S4.more (grownTrans (Grown.refl _).drew g7)
    obtain ⟨d0, d1, d2, d3, d4, d5⟩ := P7.pb.cells
    refine flowN_done ?_
    have hp := HZ.out
    rw [← HV.out, ← HQ.out, HX.out, HU.out, HQ.out] at hp
    have SH := shed_p P7 2 (by omega) HN.out.1 (pr C y.q.x) hp
    unfold ptr at SH
    clear k5 RW hrun w10
    go_wp2_with (go_at_call 49; refine SH.mono ?_; rintro e w8 ⟨rfl, G', P8, S8⟩)
    go_end0
    refine ⟨rfl, G', ?_, S7.trans S8⟩
    have e : y.hit C b = { y with q := ⟨u.h, u.m, u.l, u.s, y.q.x⟩, t := y.t.shed 2 (pr C y.q.x) } := by
      unfold Ps.hit
      rw [← HV.out, ← HQ.out, HX.out, HU.out]
      congr 1
      rw [← HU.out]
    rw [e]
    exact P8
end Go.Proofs.Ytlmcopenbeammaa.Po
