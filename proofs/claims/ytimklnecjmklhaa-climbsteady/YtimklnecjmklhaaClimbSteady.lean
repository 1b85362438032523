/-
  Proved: pantrylaw10.ClimbSteady returns true for every capacity, hits, misses and turns: with the same rate again and again a climb goes on the same way, by less and less, until it stands (P10.2). No condition.
-/
import Derived.Test.YtimklnecjmklhaaRows
import Derived.WalkKit
import Derived.ProofKit
import Derived.OpenShut
import Derived.Test.YtimklnecjmklhaaClSmall
namespace Go.Proofs.Ytimklnecjmklhaa.climbSteady
open Go.ChangeShapes Go.WideShapes Go.ChangeAt Go.RowKit
set_option linter.unusedVariables false      -- a walk need not use every 'w<i>' (that an integer argument fits its kind)

theorem own : ownKnob Try.prog.godebug = none := by kernel_rfl

/-! ### STEP 1: THE WALK: the Go text returns true. 'Grown w w'': the world has at most new blocks (Derived/RowKit3.lean). Part the cases AHEAD of 'go_enter' where a test parts the walk; take each callee by a contract of your own. -/
set_option maxRecDepth 20000 in set_option maxHeartbeats 4000000 in
theorem walk (a0 : Int) (a1 : Int) (a2 : Int) (a3 : Int) (w0 : (Lit.int .i64 a0).wf = true) (w1 : (Lit.int .i64 a1).wf = true) (w2 : (Lit.int .i64 a2).wf = true) (w3 : (Lit.int .i64 a3).wf = true) (w : World) :
    Calls Try.prog 7 #[.int .i64 a0, .int .i64 a1, .int .i64 a2, .int .i64 a3] w fun e w' => e = .returned (.bool true) ∧ Grown w w' := by
  clear w0 w1 w2 w3
  have SM := cSmall
  by_cases n0 : a0 < 0
  · go_enter Try.func7, Try.ntmps7
    go_wp2_with (first | (go_at_call 8; refine (SM _).mono ?_; rintro e w1 ⟨rfl, g1⟩))
    go_ret
    exact ⟨rfl, g1⟩
  by_cases n1 : 1048576 < a0
  · go_enter Try.func7, Try.ntmps7
    go_wp2_with (first | (go_at_call 8; refine (SM _).mono ?_; rintro e w1 ⟨rfl, g1⟩))
    go_ret
    exact ⟨rfl, g1⟩
  by_cases n2 : a1 < 0
  · go_enter Try.func7, Try.ntmps7
    go_wp2_with (first | (go_at_call 8; refine (SM _).mono ?_; rintro e w1 ⟨rfl, g1⟩))
    go_ret
    exact ⟨rfl, g1⟩
  by_cases n3 : 1000 < a1
  · go_enter Try.func7, Try.ntmps7
    go_wp2_with (first | (go_at_call 8; refine (SM _).mono ?_; rintro e w1 ⟨rfl, g1⟩))
    go_ret
    exact ⟨rfl, g1⟩
  by_cases n4 : a2 < 1
  · go_enter Try.func7, Try.ntmps7
    go_wp2_with (first | (go_at_call 8; refine (SM _).mono ?_; rintro e w1 ⟨rfl, g1⟩))
    go_ret
    exact ⟨rfl, g1⟩
  by_cases n5 : 1000 < a2
  · go_enter Try.func7, Try.ntmps7
    go_wp2_with (first | (go_at_call 8; refine (SM _).mono ?_; rintro e w1 ⟨rfl, g1⟩))
    go_ret
    exact ⟨rfl, g1⟩
  by_cases n6 : a3 < 1
  · go_enter Try.func7, Try.ntmps7
    go_wp2_with (first | (go_at_call 8; refine (SM _).mono ?_; rintro e w1 ⟨rfl, g1⟩))
    go_ret
    exact ⟨rfl, g1⟩
  by_cases n7 : 300 < a3
  · go_enter Try.func7, Try.ntmps7
    go_wp2_with (first | (go_at_call 8; refine (SM _).mono ?_; rintro e w1 ⟨rfl, g1⟩))
    go_ret
    exact ⟨rfl, g1⟩
  obtain ⟨n, hn⟩ : ∃ n : Nat, a3 = (n : Int) := ⟨a3.toNat, by omega⟩
  subst hn
  have hy := fs_le a0
  have hy2 : fs a0 ≤ 65536 := by unfold fs wh mid; omega
  have NC := new_c a0
  have hr := rt_le (h := a1) (m := a2) (by omega) (by omega)
  have hd : (a1 * 65536).tdiv (a1 + a2) = rt a1 a2 := by
    unfold rt
    rw [if_neg (by omega)]
    exact Int.tdiv_eq_ediv_of_nonneg (by omega)
  have e1 : cc a1 = a1 := by unfold cc mid; omega
  have e2 : cc a2 = a2 := by unfold cc mid; omega
  obtain ⟨R, hR⟩ : ∃ x, x = rt a1 a2 := ⟨_, rfl⟩
  have e3 : cr R = R := by rw [hR]; unfold cr mid; omega
  have TU : Hid (∀ S w, 0 ≤ S → S ≤ 65536 → Calls Try.prog 9 #[cl a1 a2 R S, .int .i64 a0] w fun e w' => e = .returned (.tuple #[cl 0 0 R (kp S), .int .i64 S]) ∧ Grown w w') := fun S w h0 h1 => by
    have k := turn_c a1 a2 R S a0 w
    have e4 : cs S = S := by unfold cs mid; omega
    have ef : fa a1 a2 R S = S := by unfold fa; rw [e1, e2, e3, e4, ← hR, if_neg (by omega)]
    have es : st S (R - R) a0 = kp S := by unfold st; rw [if_pos (by omega)]
    rw [ef, e1, e2, e3, ← hR, es] at k
    exact k
  rw [← hR] at hd hr
  obtain ⟨hr0, hr1⟩ := hr
  obtain ⟨F, hF⟩ : ∃ F, F = fs a0 := ⟨_, rfl⟩
  rw [← hF] at hy hy2
  simp only [← hF] at NC
  obtain ⟨hy0, hy1⟩ := hy
  clear hF hR e1 e2 e3 hy1
  go_enter Try.func7, Try.ntmps7
  go_wp2_with (first | (go_at_call 8; refine (SM _).mono ?_; rintro e w1 ⟨rfl, g1⟩) | (go_at_call 17; refine (NC _).mono ?_; rintro e w2 ⟨rfl, g2⟩))
  have K := Cb.new w2 0 0 R F
  have hg := grownTrans (grownTrans g1 g2) ((Grown.refl w2).alloc #[.int .i64 0, .int .i64 0, .int .i64 R, .int .i64 F] 23)
  have hB : w.heap.size ≤ w2.heap.size := (grownTrans g1 g2).2.2
  obtain ⟨B, eB⟩ : ∃ B, B = w2.heap.size := ⟨_, rfl⟩
  obtain ⟨W0, eW⟩ : ∃ W, W = (w2.alloc (.cells #[.int .i64 0, .int .i64 0, .int .i64 R, .int .i64 F] 23)) := ⟨_, rfl⟩
  simp only [← eB] at K hB ⊢
  simp only [← eW] at K hg ⊢
  clear eB eW g1 g2 SM NC hd
  have hI : 0 ≤ F ∧ F ≤ 65536 := ⟨by omega, hy2⟩
  clear hy2 hy0
  go_loopw [11, 12] (fun s i wr => ∃ (k : Nat) (h m S : Int), k ≤ n ∧ i = .int .i64 k ∧ s = .int .i64 S ∧ 0 ≤ S ∧ S ≤ 65536 ∧ Cb wr B h m R S ∧ Grown w wr) (fun _ i _ => n - (intOf i).toNat)
  case atStart => exact ⟨0, 0, 0, F, by omega, rfl, rfl, hI.1, hI.2, K, hg⟩
  case round =>
    clear K hg hI
    obtain ⟨k, h, m, S, hk, rfl, rfl, h0, h1, K, hg⟩ := hrel
    by_cases hlt : k < n
    · have hd : decide ((k : Int) < (n : Int)) = true := by rw [decide_eq_true_eq]; omega
      have TS := fun w => TU.out S w h0 h1
      obtain ⟨j0, j1, j2⟩ := kp_le h0
      obtain ⟨J, eJ⟩ : ∃ J, J = kp S := ⟨_, rfl⟩
      rw [← eJ] at j0 j1 j2
      simp only [← eJ] at TS
      clear eJ
      obtain ⟨q0, q1, q2, q3⟩ := K.cells
      obtain ⟨f0, f1, f2, f3⟩ := K.free
      by_cases hp : 0 < S
      · have j3 := j2 hp
        have j5 : (J == S) = false := by simp; omega
        clear j2
        go_wp2_with (first | (refine wpList_load_cb rfl (.tmp 10) rfl B rfl ((K.set0 a1).set1 a2) ?_) | (go_at_call 9; refine (TS _).mono ?_; rintro e w3 ⟨rfl, g3⟩; have K3 := (((K.set0 a1).set1 a2).grown g3).grown ((Grown.refl _).alloc #[.int .i64 0, .int .i64 0, .int .i64 R, .int .i64 J] 23); have k13 := Cb.new w3 0 0 R J; have G3 := (grownTrans ((hg.setCell hB _).setCell hB _) g3).alloc #[.int .i64 0, .int .i64 0, .int .i64 R, .int .i64 J] 23; clear q0 q1 q2 q3 f0 f1 f2 f3; obtain ⟨q0, q1, q2, q3⟩ := K3.cells) | (refine wpList_load_cb rfl (.tmp 13) rfl w3.heap.size rfl k13 ?_) | (refine wpList_store_cb rfl rfl (.tmp 10) (.tmp 106) rfl B rfl rfl K3 ?_; intro w4 k4 o4; have G4 := o4.grown G3 hB))
        exact ⟨⟨k + 1, 0, 0, J, by omega, by go_num, rfl, by omega, by omega, k4, G4⟩, by simp [intOf]; omega⟩
      · obtain rfl : S = 0 := by omega
        obtain rfl : J = 0 := by omega
        clear j2
        go_wp2_with (first | (refine wpList_load_cb rfl (.tmp 10) rfl B rfl ((K.set0 a1).set1 a2) ?_) | (go_at_call 9; refine (TS _).mono ?_; rintro e w3 ⟨rfl, g3⟩; have K3 := (((K.set0 a1).set1 a2).grown g3).grown ((Grown.refl _).alloc #[.int .i64 0, .int .i64 0, .int .i64 R, .int .i64 0] 23); have k13 := Cb.new w3 0 0 R 0; have G3 := (grownTrans ((hg.setCell hB _).setCell hB _) g3).alloc #[.int .i64 0, .int .i64 0, .int .i64 R, .int .i64 0] 23; clear q0 q1 q2 q3 f0 f1 f2 f3; obtain ⟨q0, q1, q2, q3⟩ := K3.cells) | (refine wpList_load_cb rfl (.tmp 13) rfl w3.heap.size rfl k13 ?_) | (refine wpList_store_cb rfl rfl (.tmp 10) (.tmp 106) rfl B rfl rfl K3 ?_; intro w4 k4 o4; have G4 := o4.grown G3 hB))
        exact ⟨⟨k + 1, 0, 0, 0, by omega, by go_num, rfl, by omega, by omega, k4, G4⟩, by simp [intOf]; omega⟩
    · obtain rfl : k = n := by omega
      have hd : decide ((k : Int) < (k : Int)) = false := by rw [decide_eq_false_iff_not]; omega
      go_wp2
      go_ret
      exact ⟨rfl, hg⟩

/-! ### THE ROW's STEP: WRITTEN OUT: LEAVE IT -/
set_option maxRecDepth 100000 in
theorem lifted (os : Os) (started : os.Started) (H : Type) (enc : TypeId × Value → H) :
    ReturnsInHanded {} Try.checked os 7 .any (Rows.climbSteadySpec.pre6 enc Try.prog Try.f7 Rows.climbSteadyRow.domain false) (Rows.climbSteadySpec.post enc Try.prog Try.f7 false true false false) := by
  refine returnsInHanded_of_change (C := Try.checked) own started (by kernel_rfl) Try.func7
    (ChangeSpec.witness6 (enc := enc) (C := Try.checked) false ⟨#[], #[.int .i64 0, .int .i64 0, .int .i64 0, .int .i64 0], []⟩ 8 (by kernel_rfl) (by kernel_rfl) (by kernel_rfl) (by kernel_rfl)) ?_
  intro W base args ds gs before hval0 hW hcnd _
  have hval : ∀ (j : Nat) t v, Try.f7.params[j]? = some t → args[j]? = some v → Value.okWide Try.prog W .any base t v := hval0
  have hW' := hW
  obtain ⟨p, q, hA0, hV, rfl, hfz, hnd⟩ := hW
  have hA : DataW.TrodAll enc Try.prog W 0 (fun _ => true) true Try.f7.params.toList args.toList ds p := hA0
  rw [Try.params7] at hA hval
  obtain ⟨v0, vs0, d0, ds0, p0, q0, hargs, rfl, rfl, h0, r0⟩ := trodAll_cons hA
  obtain ⟨v1, vs1, d1, ds1, p1, q1, rfl, rfl, rfl, h1, r1⟩ := trodAll_cons r0
  obtain ⟨v2, vs2, d2, ds2, p2, q2, rfl, rfl, rfl, h2, r2⟩ := trodAll_cons r1
  obtain ⟨v3, vs3, d3, ds3, p3, q3, rfl, rfl, rfl, h3, r3⟩ := trodAll_cons r2
  obtain ⟨rfl, rfl, rfl⟩ := trodAll_nil r3
  obtain rfl : args = #[v0, v1, v2, v3] := by cases args; simp_all
  obtain ⟨rfl, rfl⟩ := trodVars_none hV
  obtain ⟨a0, rfl, rfl, rfl, w0⟩ := open_int Try.underlying3 (hval 0 3 v0 rfl rfl) h0
  obtain ⟨a1, rfl, rfl, rfl, w1⟩ := open_int Try.underlying3 (hval 1 3 v1 rfl rfl) h1
  obtain ⟨a2, rfl, rfl, rfl, w2⟩ := open_int Try.underlying3 (hval 2 3 v2 rfl rfl) h2
  obtain ⟨a3, rfl, rfl, rfl, w3⟩ := open_int Try.underlying3 (hval 3 3 v3 rfl rfl) h3
  clear hA0 hval0
  simp only [List.append_nil] at hW'
  refine (walk a0 a1 a2 a3 w0 w1 w2 w3 W).mono fun e W' ⟨he, hg⟩ => ?_
  subst he
  exact ⟨_, rfl, post_of_same (pa := []) (pv := []) hW' (fun _ _ _ => (trodAll_cons_mk (shut_bool Try.underlying4 _) trodAll_mk0)) (fun sp _ => (trodAll_cons_mk (shut_int Try.underlying3 w0) (trodAll_cons_mk (shut_int Try.underlying3 w1) (trodAll_cons_mk (shut_int Try.underlying3 w2) (trodAll_cons_mk (shut_int Try.underlying3 w3) trodAll_mk0))))) (fun _ _ => rfl) rfl
    (hg.frame _) hg.2.1 (ok_one (by kernel_rfl) rfl (okWide_bool_mk Try.underlying4 _))⟩

theorem over : Rows.climbSteadyRow.holds Try.pinned (OpenSpec.ofChange Rows.climbSteadySpec) :=
  OpenClaim.holds_of_wide 7 Try.f7 rfl rfl rfl rfl rfl rfl rfl ⟨rfl, rfl, rfl, rfl, rfl⟩ rfl rfl rfl rfl rfl (by kernel_rfl) Try.func7 (by kernel_rfl)
    (of_decide_eq_true (by kernel_rfl)) (by unfold Func.isWrapper; first | (rw [if_pos (by decide +kernel)]; kernel_rfl) | (rw [if_neg (by decide +kernel)]; exact ⟨rfl, rfl⟩))
    (fun os started H enc _ => lifted os started H enc)

/-- ████ THE STATEMENT ████ -/
theorem proved : Rows.ClimbSteadySaid :=
  over
end Go.Proofs.Ytimklnecjmklhaa.climbSteady

namespace Go.Proofs.Ytimklnecjmklhaa
/-- The given statement. -/
theorem climbSteady_holds : Rows.ClimbSteadySaid := climbSteady.proved
#print axioms climbSteady_holds
end Go.Proofs.Ytimklnecjmklhaa
