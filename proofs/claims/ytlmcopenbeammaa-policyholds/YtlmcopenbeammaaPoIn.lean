/-
  What add and refusal of package policy do when they are called. No condition but those told at each sentence.
-/
import Derived.Test.YtlmcopenbeammaaPoAdd
namespace Go.Proofs.Ytlmcopenbeammaa.Po
open Go.RowKit Go.Deep Cm

def Ps.put (y : Ps) (n k v : Int) : Ps := { y with k := fun x => if x = n then some k else y.k x, t := y.t.pushI 0 n v }
/-- Behind an add of a node. -/
def Ps.ad (y : Ps) (C seed : Int) (mw : Nat) (n k v : Int) : Ps := ((y.rec1 seed mw k).hit C false).put n k v
variable {w w' : World} {A S F X M mw : Nat} {G : Nat → Prop} {C seed : Int} {y : Ps}
set_option maxRecDepth 100000 in
set_option maxHeartbeats 4000000 in
theorem add_p (h : Pof w A S F X M G C seed mw y) (hn : 1 < y.t.n) (hC : wh C = C) (hx : inWin C y.q.x) (ha : 0 ≤ y.f.a ∧ y.f.a ≤ 4611686018427387903) (d n k v : Int) (h1 : 1 ≤ n) (h2 : n ≤ 65536) :
    Calls Try.prog 22 #[ptr A, evV d n k v] w fun e w' => e = .returned (.tuple #[]) ∧ ∃ G', Pof w' A S F X M G' C seed mw (y.ad C seed mw n k v) ∧ Step (foot A S F M G) (foot A S F M G') w w' := by
  have HN : Hid (1 < y.t.n ∧ wh C = C ∧ inWin C y.q.x ∧ 1 ≤ n ∧ n ≤ 65536 ∧ (Lit.int .i64 n).wf = true) := ⟨hn, hC, hx, h1, h2, wf_small ⟨h1, h2⟩⟩
  obtain ⟨B, eB⟩ : ∃ B, B = w.heap.size := ⟨_, rfl⟩
  have g0 := grown_ev w d n k v
  have E0 := EvB.new w d n k v
  rw [← eB] at E0
  have HB : Hid (∀ i, foot A S F M G i → i < B) := fun i hi => by rw [eB]; exact h.lt i hi
  have HP : Hid (Pof w A S F X M G C seed mw y ∧ B = w.heap.size) := ⟨h, eB⟩
  clear h hn hC hx h1 h2
  unfold ptr evV
  go_enter Try.func22, Try.ntmps22
  go_wp2
  rw [← eB]
  clear eB
  obtain ⟨W0, eW⟩ : ∃ W, W = (w.alloc (.cells #[.int .i64 d, .int .i64 n, .int .i64 k, .int .i64 v] 28)) := ⟨_, rfl⟩
  rw [← eW] at E0 g0 ⊢
  clear eW
  have gd := grownTrans g0 (Grown.refl W0).drew
  have E1 : EvB W0.drew B d n k v := (grown_block (Grown.refl W0).drew (lt_of E0)).trans E0
  have P1 := HP.out.1.grown gd
  have S1 := Step.grown (foot A S F M G) gd
  have RC := record_f P1.fl ha.1 ha.2 k
  obtain ⟨c0, c1, c2, _⟩ := P1.pb.cells
  obtain ⟨e0, e1, e2, e3⟩ := E1.cells
  unfold ptr at RC
  clear E0 g0 gd ha
  refine region_flowN [(6, [])] 6 [(4, .pointer (some ⟨A, 0, none⟩)), (5, .pointer (some ⟨A, 0, none⟩)), (6, .pointer (some ⟨A, 0, none⟩)), (7, .pointer (some ⟨F, 0, none⟩)), (8, .pointer (some ⟨B, 2, none⟩)), (9, .int .i64 k)] Cm.hmx (by kernel_rfl) (by decide) (by kernel_rfl) ?_
  simp only [fills, Act.put, List.setIfInBounds_toArray, List.set_cons_zero, List.set_cons_succ]
  refine flowN_only (6, []) [] (by kernel_rfl) (by rfl) ?r1 (stepN_call _ (some 10) 43 _ rfl rfl (by go_simp) (RC.mono ?_))
  case r1 =>
    clear RC HP HN HB P1 S1 E1
    intro i o ho hi hoff
    iterate 7 (rcases i with _ | i; · first | (exact absurd hi (by decide)) | (exact absurd hoff (by decide)) | (cases ho; go_simp))
    cases ho
  rintro e w2 ⟨rfl, f2, o2⟩
  obtain ⟨P2, T2⟩ := P1.filt f2 o2
  have E2 := E1.out T2.out (fun hf => Nat.lt_irrefl _ (HB.out _ hf))
  have S2 := S1.trans T2
  refine ⟨_, rfl, [], by kernel_rfl, ?_⟩
  simp only [fills, Act.put, List.setIfInBounds_toArray, List.set_cons_zero, List.set_cons_succ]
  refine flowN_done ?_
  have CO := count_p P2 HN.out.1 HN.out.2.1 HN.out.2.2.1 false
  unfold ptr at CO
  clear RC c0 c1 c2 e0 e1 e2 e3 f2 o2 E1 P1 S1
  have HS : Hid (Step (foot A S F M G) (foot A S F M G) w w2 ∧ EvB w2 B d n k v) := ⟨S2, E2⟩
  clear S2 E2 T2 P2
  go_wp2_with (go_at_call 44; refine CO.mono ?_; rintro e w3 ⟨rfl, G3, P3, T3⟩)
  have S3 := HS.out.1.trans T3
  have b3 : ¬ foot A S F M G3 B := T3.apart (G := fun i => i = B) (fun i hi => by rw [hi]; exact lt_of HS.out.2) (fun i hi hf => by rw [hi] at hf; exact Nat.lt_irrefl _ (HB.out _ hf)) B rfl
  have E3 : EvB w3 B d n k v := HS.out.2.out T3.out fun hf => Nat.lt_irrefl _ (HB.out _ hf)
  have P4 := P3.grown (Grown.refl _).drew
  have E4 : EvB w3.drew B d n k v := (grown_block (Grown.refl w3).drew (lt_of E3)).trans E3
  have S4 := S3.more (Grown.refl _).drew
  have HG : Hid (¬ foot A S F M G3 B) := b3
  clear S3 b3 E3 P3 T3 CO HS
  obtain ⟨c0, c1, c2, _⟩ := P4.pb.cells
  obtain ⟨e0, e1, e2, e3⟩ := E4.cells
  obtain ⟨w5, hr5, m5, o5⟩ := P4.mp.store Try.underlying3 (t := 47) Try.underlying47 HN.out.2.2.2.2.2 HN.out.2.2.2.1 HN.out.2.2.2.2.1 (by omega) (.int .i64 k)
  obtain ⟨P5, T5⟩ := P4.keys (k' := fun x => if x = n then some k else ((y.rec1 seed mw k).hit C false).k x) m5 (fun z => by
    unfold keyC
    show _ = Option.map _ (if z = n then some k else _)
    split <;> rfl) o5
  have E5 : EvB w5 B d n k v := E4.out T5.out HG.out
  have S5 := S4.trans T5
  refine region_flowN [(8, [])] 8 [(13, .pointer (some ⟨A, 0, none⟩)), (14, .pointer (some ⟨A, 0, none⟩)), (15, .pointer (some ⟨A, 2, none⟩)), (16, .map (some M)), (17, .pointer (some ⟨B, 1, none⟩)), (18, .int .i64 n), (19, .pointer (some ⟨B, 2, none⟩)), (20, .int .i64 k)] Cm.hmx (by kernel_rfl) (by decide) (by kernel_rfl) ?_
  simp only [fills, Act.put, List.setIfInBounds_toArray, List.set_cons_zero, List.set_cons_succ]
  refine flowN_only (8, []) [] (by kernel_rfl) (by rfl) ?r2 (stepN_skip _ w5 [] rfl rfl (exec_update _ _ _ 47 rfl rfl rfl rfl hr5) (by kernel_rfl) ?_)
  case r2 =>
    clear HP HN HB P4 S4 E4 P5 S5 E5 T5 m5 o5 hr5
    intro i o ho hi hoff
    iterate 9 (rcases i with _ | i; · first | (exact absurd hi (by decide)) | (exact absurd hoff (by decide)) | (cases ho; go_simp))
    cases ho
  simp only [fills]
  refine flowN_done ?_
  clear hr5 m5 o5 P4 S4 E4 T5 c0 c1 c2 e0 e1 e2 e3
  go_wp2
  have P6 := P5.grown (Grown.refl _).drew
  have E6 : EvB w5.drew B d n k v := (grown_block (Grown.refl w5).drew (lt_of E5)).trans E5
  have S6 := S5.more (Grown.refl _).drew
  obtain ⟨c0, c1, c2, _⟩ := P6.pb.cells
  obtain ⟨e0, e1, e2, e3⟩ := E6.cells
  have PU := push_a P6.dq 0 n v
  unfold ptr at PU
  clear S5 E5 P5
  refine region_flowN [(8, [])] 8 [(21, .pointer (some ⟨A, 0, none⟩)), (22, .pointer (some ⟨A, 0, none⟩)), (23, .pointer (some ⟨A, 1, none⟩)), (24, .pointer (some ⟨X, 0, none⟩)), (25, .pointer (some ⟨B, 1, none⟩)), (26, .int .i64 n), (27, .pointer (some ⟨B, 3, none⟩)), (28, .int .i64 v)] Cm.hmx (by kernel_rfl) (by decide) (by kernel_rfl) ?_
  simp only [fills, Act.put, List.setIfInBounds_toArray, List.set_cons_zero, List.set_cons_succ]
  refine flowN_only (8, []) [] (by kernel_rfl) (by rfl) ?r3 (stepN_call _ (some 29) 45 _ rfl rfl (by go_simp) (PU.mono ?_))
  case r3 =>
    clear HP HN HB PU P6 S6 E6
    intro i o ho hi hoff
    iterate 9 (rcases i with _ | i; · first | (exact absurd hi (by decide)) | (exact absurd hoff (by decide)) | (cases ho; go_simp))
    cases ho
  rintro e w7 ⟨rfl, G7, d7, t7⟩
  obtain ⟨P7, T7⟩ := P6.rows d7 t7
  refine ⟨_, rfl, [], by kernel_rfl, ?_⟩
  simp only [fills, Act.put, List.setIfInBounds_toArray, List.set_cons_zero, List.set_cons_succ]
  refine flowN_done ?_
  have HZ : Hid (∃ G', Pof w7 A S F X M G' C seed mw (y.ad C seed mw n k v) ∧ Step (foot A S F M G) (foot A S F M G') w w7) := ⟨G7, P7, S6.trans T7⟩
  clear PU P6 S6 E6 d7 t7 P7 T7 c0 c1 c2 e0 e1 e2 e3 HG
  go_end0
  exact ⟨rfl, HZ.out⟩
end Go.Proofs.Ytlmcopenbeammaa.Po
