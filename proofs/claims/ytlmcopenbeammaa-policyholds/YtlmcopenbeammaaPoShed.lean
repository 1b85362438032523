/-
  What shed of package policy does when it is called: as long as a row weighs more than most its first is moved to row 1. No condition but those told at each sentence.
-/
import Derived.Test.YtlmcopenbeammaaPoNew
import Derived.Test.YtlmcopenbeammaaGenFlow
import Derived.Deep.LoopGhost
namespace Go.Proofs.Ytlmcopenbeammaa.Po
open Go.RowKit Go.Deep Cm

theorem rowI_nat (t : Ds) (r : Nat) : t.rowI (r : Int) = t.L r := by unfold Ds.rowI; rw [if_pos (by omega), Int.toNat_natCast]
theorem wf_id {t : Ds} (hw : t.Wf) {i : Nat} {p : Int × Int} (h : p ∈ t.L i) : (Lit.int .i64 p.1).wf = true := by
  have := hw.els i p h
  exact wf_small ⟨by omega, by omega⟩
variable {w w' : World} {A S F X M mw : Nat} {G : Nat → Prop} {C seed : Int} {y : Ps}
set_option maxHeartbeats 2000000 in
theorem shed_p (h : Pof w A S F X M G C seed mw y) (r : Nat) (hr : r ≠ 1) (hn : 1 < y.t.n) (most : Int) (h0 : 0 ≤ most) :
    Calls Try.prog 49 #[ptr A, .int .i64 r, .int .i64 most] w fun e w' => e = .returned (.tuple #[]) ∧ ∃ G', Pof w' A S F X M G' C seed mw { y with t := y.t.shed r most } ∧ Step (foot A S F M G) (foot A S F M G') w w' := by
  have HR : Hid (r ≠ 1) := hr
  have H1 : Hid (1 < y.t.n) := hn
  have rn := rowI_nat
  clear hr hn
  obtain ⟨R, hR⟩ : ∃ R : Int, R = (r : Int) := ⟨_, rfl⟩
  rw [← hR]
  have HRR : Hid (R = (r : Int)) := hR
  clear hR
  unfold ptr
  go_enter Try.func49, Try.ntmps49
  go_wp2
  go_loopg [] (y.t.L r).length (fun k wr => ∃ t' G', k = (t'.L r).length ∧ Hid (Pof wr A S F X M G' C seed mw { y with t := t' } ∧ Step (foot A S F M G) (foot A S F M G') w wr ∧ t'.shed r most = y.t.shed r most ∧ 1 < t'.n))
  case atStart => exact ⟨y.t, G, rfl, h, Step.grown _ (Grown.refl _), rfl, H1.out⟩
  case round =>
    clear h
    obtain ⟨t', G', rfl, HI⟩ := hrel
    have HK := HI.out.1
    have c1 := HK.pb.cells.2.1
    have hw := HK.dq.wf
    have we := weight_a HK.dq R
    rw [HRR.out, rn, ← HRR.out] at we
    have ew : sumD ((t'.L r).map (·.2)) = t'.wt r := rfl
    rw [ew] at we
    obtain ⟨wt, hwt⟩ : ∃ v, v = t'.wt r := ⟨_, rfl⟩
    rw [← hwt] at we
    by_cases hlt : most < wt
    · have hd : decide (most < wt) = true := by simpa using hlt
      obtain ⟨id, v, l, e1, e2⟩ := Ds.wt_pos (t := t') (r := r) (by omega)
      obtain ⟨s1, s2⟩ := hw.shed_go HR.out HI.out.2.2.2 h0 (by rw [← hwt]; exact hlt)
      rw [e2] at s1 s2
      have hid := wf_id hw (i := r) (p := (id, v)) (by rw [e1]; simp)
      have hsm := (hw.move_sm id 1).n
      have HS : Hid ((t'.moveI id 1).shed r most = t'.shed r most ∧ ((t'.moveI id 1).L r).length < (t'.L r).length ∧ (t'.moveI id 1).n = t'.n ∧ (Lit.int .i64 id).wf = true) := ⟨s1, s2, hsm, hid⟩
      have fr : ∀ W G'', Pof W A S F X M G'' C seed mw { y with t := t' } → Calls Try.prog 72 #[ptr X, .int .i64 R] W fun e w' => e = .returned (.int .i64 id) ∧ Grown W w' := fun W G'' k => by
        have := front_a k.dq R
        rw [HRR.out, rn, ← HRR.out] at this
        have ef : ((t'.L r).map (·.1)).headD 0 = id := e2
        simp only [ef] at this
        exact this
      clear e1 e2 s1 s2 hid hwt ew hsm rn
      go_wp2_with (go_at_call 29; refine we.mono ?_; rintro e w2 ⟨rfl, g2⟩)
      have K2 := (HK.grown g2).grown (Grown.refl _).drew
      have c1 := K2.pb.cells.2.1
      unfold ptr at fr
      refine region_fill [9, 10] [(14, .pointer (some ⟨A, 0, none⟩)), (15, .pointer (some ⟨A, 0, none⟩)), (16, .pointer (some ⟨A, 1, none⟩)), (17, .pointer (some ⟨X, 0, none⟩)), (18, .pointer (some ⟨A, 0, none⟩)), (19, .pointer (some ⟨A, 0, none⟩)), (20, .pointer (some ⟨A, 1, none⟩)), (21, .pointer (some ⟨X, 0, none⟩)), (22, .int .i64 R)] Cm.hmx (by kernel_rfl) (by kernel_rfl) ?_
      simp only [fills, Act.put, List.setIfInBounds_toArray, List.set_cons_zero, List.set_cons_succ]
      refine flow_call _ 72 _ rfl ?run (by go_simp) ((fr _ _ K2).mono ?_)
      case run =>
        clear HK HI HS K2 we fr
        intro i o ho hi
        iterate 11 (rcases i with _ | i; · first | (exact absurd hi (by decide)) | (cases ho; go_simp))
        cases ho
      rintro e w3 ⟨rfl, g3⟩
      have K3 := K2.grown g3
      have c3 := K3.pb.cells.2.1
      refine ⟨_, rfl, ?_⟩
      simp only [Act.put, List.setIfInBounds_toArray]
      have mv := move_a K3.dq 1 HS.out.2.2.2
      unfold ptr at mv
      refine flow_call _ 48 _ rfl ?run2 (by go_simp) (mv.mono ?_)
      case run2 =>
        clear HK HI HS K2 K3 we fr mv
        intro i o ho hi
        iterate 11 (rcases i with _ | i; · first | (exact absurd hi (by decide)) | (cases ho; go_simp))
        cases ho
      rintro e w4 ⟨rfl, G'', d4, s4⟩
      refine ⟨_, rfl, ?_⟩
      obtain ⟨K4, s5⟩ := K3.rows d4 s4
      have st := HI.out.2.1.trans ((Step.grown _ (grownTrans (grownTrans g2 (Grown.refl _).drew) g3)).trans s5)
      show Exit.inBlock 1 (Exit.then _ _) Exit.normal _ _
      go_wp2
      go_roundg ((t'.moveI id 1).L r).length
      case measure => exact HS.out.2.1
      case rel => exact ⟨t'.moveI id 1, G'', rfl, K4, st, HS.out.1.trans HI.out.2.2.1, by rw [HS.out.2.2.1]; exact HI.out.2.2.2⟩
    · have hd : decide (most < wt) = false := by simpa using hlt
      have HE : Hid (t'.shed r most = t') := Ds.shed_stop (by rw [← hwt]; exact hlt)
      clear hwt ew hlt
      go_wp2_with (go_at_call 29; refine we.mono ?_; rintro e w2 ⟨rfl, g2⟩)
      go_end0
      have e := HI.out.2.2.1
      rw [HE.out] at e
      exact ⟨rfl, G', by rw [← e]; exact HK.grown g2, HI.out.2.1.more g2⟩
end Go.Proofs.Ytlmcopenbeammaa.Po
