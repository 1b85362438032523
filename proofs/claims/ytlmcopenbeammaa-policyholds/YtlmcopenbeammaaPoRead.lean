/-
  What read, remove and leaver of package policy do when they are called. No condition but those told at each sentence.
-/
import Derived.Test.YtlmcopenbeammaaPoHit
namespace Go.Proofs.Ytlmcopenbeammaa.Po
open Go.RowKit Go.Deep Cm

theorem exec_look {P : Program} {o : Oper} {A : Act} {w : World} (mo x : Operand) (t : TypeId) (hop : o.op = Op.lookup t mo x false) {B : Nat} {id : Int} {v : Value} (hm : A.eval mo = .map (some B)) (hx : A.eval x = .int .i64 id)
    (hr : (Instr.lookup t (.map (some B)) (.int .i64 id) false).run P w = .ok v w) : (execOp A.eval o).run P w = .ok (.value v) w := by
  simp [execOp, hop, hm, hx, hr, Result.andThen]
theorem exec_update {P : Program} {o : Oper} {A : Act} {w w' : World} (mo x vo : Operand) (t : TypeId) (hop : o.op = Op.mapUpdate t mo x vo) {B : Nat} {id : Int} {v : Value} (hm : A.eval mo = .map (some B)) (hx : A.eval x = .int .i64 id) (hv : A.eval vo = v)
    (hr : (Instr.mapUpdate t (.map (some B)) (.int .i64 id) v).run P w = .ok () w') : (execOp A.eval o).run P w = .ok .skip w' := by
  simp [execOp, hop, hm, hx, hv, hr, Result.andThen]

/-- Behind a read of a node: its key is recorded. -/
def Ps.rec1 (y : Ps) (seed : Int) (mw : Nat) (key : Int) : Ps := { y with f := y.f.come (mixB seed key) mw }
def Ps.mv (y : Ps) (C id : Int) : Ps := { y with t := if y.t.ofL id = 1 then (y.t.moveI id 2).shed 2 (pr C y.q.x) else y.t.moveI id (y.t.ofL id) }
def Ps.rd (y : Ps) (C seed : Int) (mw : Nat) (id : Int) : Ps := ((y.rec1 seed mw ((y.k id).getD 0)).mv C id).hit C true
def Ps.rm (y : Ps) (id : Int) : Ps := { y with t := y.t.unlinkI id, k := fun z => if z = id then none else y.k z }
variable {w w' : World} {A S F X M mw : Nat} {G : Nat → Prop} {C seed : Int} {y : Ps}
theorem mv_n (y : Ps) (hw : y.t.Wf) (C id : Int) : (y.mv C id).t.n = y.t.n := by
  unfold Ps.mv
  show (if _ then _ else _ : Ds).n = _
  split
  · exact ((hw.move_sm id 2).trans ((hw.moveW id 2).shed_sm 2 _)).n
  · exact (hw.move_sm id _).n
theorem mv_p1 (y : Ps) (C id : Int) (h : y.t.ofL id = 1) : y.mv C id = { y with t := (y.t.moveI id 2).shed 2 (pr C y.q.x) } := by unfold Ps.mv; rw [if_pos h]
theorem mv_p2 (y : Ps) (C id : Int) (h : y.t.ofL id ≠ 1) : y.mv C id = { y with t := y.t.moveI id (y.t.ofL id) } := by unfold Ps.mv; rw [if_neg h]
set_option maxRecDepth 100000 in
set_option maxHeartbeats 4000000 in
theorem read_p (h : Pof w A S F X M G C seed mw y) (hn : 1 < y.t.n) (hC : wh C = C) (hx : inWin C y.q.x) (ha : 0 ≤ y.f.a ∧ y.f.a ≤ 4611686018427387903) {id : Int} (hid : (Lit.int .i64 id).wf = true) :
    Calls Try.prog 24 #[ptr A, .int .i64 id] w fun e w' => e = .returned (.tuple #[]) ∧ ∃ G', Pof w' A S F X M G' C seed mw (y.rd C seed mw id) ∧ Step (foot A S F M G) (foot A S F M G') w w' := by
  have HN : Hid (1 < y.t.n ∧ wh C = C ∧ inWin C y.q.x) := ⟨hn, hC, hx⟩
  have h0 := (pr_pos hC hx).1
  have HP : Hid (Pof w A S F X M G C seed mw y) := h
  obtain ⟨ky, hky⟩ : ∃ ky, ky = (y.k id).getD 0 := ⟨_, rfl⟩
  have hl := (h.grown (Grown.refl _).drew).mp.look Try.underlying3 (t := 47) Try.underlying47 (zeroI _) hid
  rw [keyC_get, ← hky] at hl
  have RC := record_f (h.grown (Grown.refl _).drew).fl ha.1 ha.2 ky
  obtain ⟨c0, c1, c2, _⟩ := (h.grown (Grown.refl _).drew).pb.cells
  have HK : Hid (ky = (y.k id).getD 0) := hky
  clear h hn hC hx ha hky
  unfold ptr at RC ⊢
  go_enter Try.func24, Try.ntmps24
  go_wp2
  refine region_flowN [(10, [])] 10 [(6, .pointer (some ⟨A, 0, none⟩)), (7, .pointer (some ⟨A, 0, none⟩)), (8, .pointer (some ⟨A, 0, none⟩)), (9, .pointer (some ⟨F, 0, none⟩)), (10, .pointer (some ⟨A, 0, none⟩)), (11, .pointer (some ⟨A, 0, none⟩)), (12, .pointer (some ⟨A, 2, none⟩)), (13, .map (some M)), (14, .int .i64 id), (15, .int .i64 ky)] Cm.hmx (by kernel_rfl) (by decide) (by kernel_rfl) ?_
  simp only [fills, Act.put, List.setIfInBounds_toArray, List.set_cons_zero, List.set_cons_succ]
  refine flowN_only (10, []) [] (by kernel_rfl) (by rfl) ?run (stepN_call _ (some 16) 43 _ rfl rfl (by go_simp) (RC.mono ?_))
  case run =>
    clear RC HP HN
    intro i o ho hi hoff
    iterate 11 (rcases i with _ | i; · first | (exact absurd hi (by decide)) | (exact absurd hoff (by decide)) | (cases ho; exact exec_look _ _ 47 rfl rfl rfl hl) | (cases ho; go_simp))
    cases ho
  rintro e w2 ⟨rfl, f2, o2⟩
  obtain ⟨P2, S2⟩ := (HP.out.grown (Grown.refl _).drew).filt f2 o2
  have S2 := (Step.grown (foot A S F M G) (Grown.refl w).drew).trans S2
  refine ⟨_, rfl, [], by kernel_rfl, ?_⟩
  simp only [fills, Act.put, List.setIfInBounds_toArray, List.set_cons_zero, List.set_cons_succ]
  refine flowN_done ?_
  clear hl RC c0 c1 c2 f2 o2
  obtain ⟨c0, c1, c2, _⟩ := P2.pb.cells
  have OF := of_a P2.dq hid
  obtain ⟨r, hr⟩ : ∃ r, r = y.t.ofL id := ⟨_, rfl⟩
  have OF : Calls Try.prog 47 #[ptr X, .int .i64 id] w2 fun e w' => e = .returned (.tuple #[.int .i64 r, .int .i64 (y.t.ofW id)]) ∧ ∃ d, w' = w2.drewN d := by rw [hr]; exact OF
  have HR : Hid (r = y.t.ofL id) := hr
  clear hr
  unfold ptr at OF
  by_cases hr1 : r = 1
  · subst hr1
    go_wp2_with (first | (go_at_call 47; refine OF.mono ?_; rintro e w3 ⟨rfl, d3, hw3⟩; have P3 := P2.drewN d3; rw [← hw3] at P3; have S3 := S2.more (show Grown w2 w3 by rw [hw3]; exact grownDrewN (Grown.refl _) d3); clear hw3 c1; have c1 := P3.pb.cells.2.1; have MV := move_a P3.dq 2 hid; unfold ptr at MV) | (go_at_call 48; refine MV.mono ?_; rintro e w4 ⟨rfl, G4, d4, s4⟩; obtain ⟨P4, S4⟩ := P3.rows d4 s4; have S4 := S3.trans S4; have k4 := P4.pb.cells.2.2.2.2.2) | (go_at_call 49; have SH := shed_p P4 2 (by omega) (by rw [((P2.dq.wf).move_sm id 2).n]; exact HN.out.1) (pr C y.q.x) h0; refine SH.mono ?_; rintro e w5 ⟨rfl, G5, P5, S5⟩; have S5 := S4.trans S5) | (go_at_call 44; refine (count_p P5 (by show 1 < ((y.t.moveI id 2).shed 2 (pr C y.q.x)).n; rw [((HP.out.dq.wf.move_sm id 2).trans ((HP.out.dq.wf.moveW id 2).shed_sm 2 _)).n]; exact HN.out.1) HN.out.2.1 HN.out.2.2 true).mono ?_; rintro e w6 ⟨rfl, G6, P6, S6⟩; have S6 := S5.trans S6))
    go_end0
    refine ⟨rfl, G6, ?_, S6⟩
    unfold Ps.rd
    rw [mv_p1 (y.rec1 seed mw ((y.k id).getD 0)) C id HR.out.symm, ← HK.out]
    exact P6
  · have HR1 : Hid (r ≠ 1) := hr1
    go_wp2_with (first | (go_at_call 47; refine OF.mono ?_; rintro e w3 ⟨rfl, d3, hw3⟩; have P3 := P2.drewN d3; rw [← hw3] at P3; have S3 := S2.more (show Grown w2 w3 by rw [hw3]; exact grownDrewN (Grown.refl _) d3); clear hw3 c1; have c1 := P3.pb.cells.2.1; have MV := move_a P3.dq r hid; unfold ptr at MV) | (go_at_call 48; refine MV.mono ?_; rintro e w4 ⟨rfl, G4, d4, s4⟩; obtain ⟨P4, S4⟩ := P3.rows d4 s4; have S4 := S3.trans S4) | (go_at_call 44; refine (count_p P4 (by show 1 < (y.t.moveI id r).n; rw [(HP.out.dq.wf.move_sm id r).n]; exact HN.out.1) HN.out.2.1 HN.out.2.2 true).mono ?_; rintro e w6 ⟨rfl, G6, P6, S6⟩; have S6 := S4.trans S6))
    go_end0
    refine ⟨rfl, G6, ?_, S6⟩
    unfold Ps.rd
    rw [mv_p2 (y.rec1 seed mw ((y.k id).getD 0)) C id (fun e => HR1.out (HR.out.trans e)), ← HK.out]
    show Pof w6 A S F X M G6 C seed mw (Ps.hit { y.rec1 seed mw ky with t := y.t.moveI id (y.t.ofL id) } C true)
    rw [← HR.out]
    exact P6

theorem remove_p (h : Pof w A S F X M G C seed mw y) {id : Int} (hid : (Lit.int .i64 id).wf = true) :
    Calls Try.prog 25 #[ptr A, .int .i64 id] w fun e w' => e = .returned (.tuple #[]) ∧ ∃ G', Pof w' A S F X M G' C seed mw (y.rm id) ∧ Step (foot A S F M G) (foot A S F M G') w w' := by
  have HP : Hid (Pof w A S F X M G C seed mw y) := h
  obtain ⟨_, c1, c2, _⟩ := h.pb.cells
  have UN := unlink_a h.dq hid
  clear h
  unfold ptr at UN ⊢
  go_enter Try.func25, Try.ntmps25
  go_wp2_with (first | (go_at_call 50; refine UN.mono ?_; rintro e w3 ⟨rfl, G3, d3, s3⟩; obtain ⟨P3, S3⟩ := HP.out.rows d3 s3; have c3 := P3.pb.cells.2.2.1; have m3 := P3.mp) | (at_delete; refine wpList_drop_mapo rfl _ _ 47 3 rfl Try.underlying3 Try.underlying47 m3 rfl rfl hid ?_; intro w4 m4 o4; obtain ⟨P4, S4⟩ := P3.keys (k' := fun z => if z = id then none else y.k z) m4 (fun z => by unfold keyC; show _ = Option.map _ (if z = id then none else y.k z); split <;> rfl) o4; have S4 := S3.trans S4))
  go_end0
  exact ⟨rfl, G3, P4, S4⟩
def Ps.goes (y : Ps) (seed : Int) (mw : Nat) : Int :=
  if y.t.fst 1 = 0 then (if y.t.fst 2 = 0 then y.t.fst 0 else y.t.fst 2) else if y.f.oft (mixB seed ((y.k (y.t.fst 1)).getD 0)) mw < y.f.oft (mixB seed ((y.k (y.t.lst 1)).getD 0)) mw then y.t.fst 1 else y.t.lst 1
end Go.Proofs.Ytlmcopenbeammaa.Po
