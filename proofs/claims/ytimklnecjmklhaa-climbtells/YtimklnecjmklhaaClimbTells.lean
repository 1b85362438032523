/-
  Proved: pantrylaw10.ClimbTells returns true for every climb (four numbers), every hit or miss, every period and every capacity: Count, Due, Rate, Turn and New are the document's (P10.1, P10.2). No condition.
-/
import Derived.Test.YtimklnecjmklhaaRows
import Derived.WalkKit
import Derived.ProofKit
import Derived.OpenShut
import Derived.Test.YtimklnecjmklhaaClSmall
import Derived.Test.YtimklnecjmklhaaGenCls
import Derived.ShutString
import Derived.ChangeOld
import Derived.Below
import Derived.Test.YtimklnecjmklhaaGenArgs
namespace Go.Proofs.Ytimklnecjmklhaa.climbTells
open Go.ChangeShapes Go.WideShapes Go.ChangeAt Go.RowKit
set_option linter.unusedVariables false

theorem own : ownKnob Try.prog.godebug = none := by kernel_rfl
theorem laidOut : laidOutB Try.prog = true := by kernel_rfl

/-! ### The walk: the law returns true, and writes nothing that was there -/
set_option maxRecDepth 20000 in set_option maxHeartbeats 4000000 in
theorem walk (x0a x0b x0c x0d : Int) (a1 : Bool) (a2 : Int) (a3 : Int) (w : World) (wx0a : (Lit.int .i64 x0a).wf = true) (wx0b : (Lit.int .i64 x0b).wf = true) (wx0c : (Lit.int .i64 x0c).wf = true) (wx0d : (Lit.int .i64 x0d).wf = true)  (w2 : (Lit.int .i64 a2).wf = true) (w3 : (Lit.int .i64 a3).wf = true) :
    Calls Try.prog 3 #[.agg #[.int .i64 x0a, .int .i64 x0b, .int .i64 x0c, .int .i64 x0d], .bool a1, .int .i64 a2, .int .i64 a3] w fun e w' => e = .returned (.bool true) ∧ Grown w w' := by
  clear wx0a wx0b wx0c wx0d w2 w3
  have SM := cSmall
  have gq := guardC
  have he := eqC
  have CE := fun W => one_cb w W x0a x0b x0c x0d
  have hg := fun W => one_g w W x0a x0b x0c x0d
  have CO := count_c x0a x0b x0c x0d a1
  have RO := rcount_c x0a x0b x0c x0d a1
  have DU := due_c x0a x0b x0c x0d a2
  have RD := rdue_c x0a x0b x0c x0d a2
  have RA := rate_c x0a x0b x0c x0d
  have RR := rrate_c x0a x0b x0c x0d
  have TU := turn_c x0a x0b x0c x0d a3
  have RT := rturn_c x0a x0b x0c x0d a3
  have NE := new_c a3
  have RN := rnew_c a3
  obtain ⟨H1, hH1⟩ : ∃ x, x = (if a1 = true then cc (cc x0a + 1) else cc x0a) := ⟨_, rfl⟩
  obtain ⟨M1, hM1⟩ : ∃ x, x = (if a1 = true then cc x0b else cc (cc x0b + 1)) := ⟨_, rfl⟩
  obtain ⟨b, hb⟩ : ∃ b, b = decide (1 ≤ a2 ∧ a2 ≤ cc x0a + cc x0b) := ⟨_, rfl⟩
  obtain ⟨F, hF⟩ : ∃ x, x = fa x0a x0b x0c x0d := ⟨_, rfl⟩
  obtain ⟨T, hT⟩ : ∃ x, x = st F (rt (cc x0a) (cc x0b) - cr x0c) a3 := ⟨_, rfl⟩
  obtain ⟨R, hR⟩ : ∃ x, x = rt (cc x0a) (cc x0b) := ⟨_, rfl⟩
  obtain ⟨L1, hL1⟩ : ∃ x, x = cr x0c := ⟨_, rfl⟩
  obtain ⟨S1, hS1⟩ : ∃ x, x = cs x0d := ⟨_, rfl⟩
  obtain ⟨N1, hN1⟩ : ∃ x, x = fs a3 := ⟨_, rfl⟩
  simp only [← hF] at TU RT
  simp only [← hT] at TU RT
  simp only [← hR] at TU RT RA RR
  simp only [← hH1, ← hM1, ← hL1, ← hS1] at CO RO
  simp only [← hb] at DU RD
  simp only [← hN1] at NE RN
  clear hF hT hR hH1 hM1 hL1 hS1 hb hN1
  go_enter Try.func3, Try.ntmps3
  go_wp2_with (first | (go_at_call 8; refine (SM _).mono ?_; rintro e w1 ⟨rfl, g1⟩; have k1 := CE _ g1; replace g1 := hg _ g1) | (refine wpList_load_cb rfl (.tmp 4) rfl w.heap.size rfl k1 ?_) | (go_at_call 9; refine (TU _).mono ?_; rintro e w2 ⟨rfl, g2⟩; replace g1 := (grownTrans g1 g2).alloc #[.int .i64 0, .int .i64 0, .int .i64 R, .int .i64 T] 23; replace k1 := (k1.grown g2).grown ((Grown.refl _).alloc #[.int .i64 0, .int .i64 0, .int .i64 R, .int .i64 T] 23); have k2 := Cb.new w2 0 0 R T; clear g2) | (go_at_call 10; refine (RT _).mono ?_; rintro e w3 ⟨rfl, g3⟩; replace g1 := (grownTrans g1 g3).alloc #[.int .i64 0, .int .i64 0, .int .i64 R, .int .i64 T] 23; replace k1 := (k1.grown g3).grown ((Grown.refl _).alloc #[.int .i64 0, .int .i64 0, .int .i64 R, .int .i64 T] 23); replace k2 := (k2.grown g3).grown ((Grown.refl _).alloc #[.int .i64 0, .int .i64 0, .int .i64 R, .int .i64 T] 23); have k3 := Cb.new w3 0 0 R T; clear g3))
  obtain ⟨B1, eB1⟩ : ∃ B, B = w.heap.size := ⟨_, rfl⟩
  obtain ⟨B2, eB2⟩ : ∃ B, B = w2.heap.size := ⟨_, rfl⟩
  obtain ⟨B3, eB3⟩ : ∃ B, B = w3.heap.size := ⟨_, rfl⟩
  obtain ⟨W0, eW⟩ : ∃ W, W = w3.alloc (.cells #[.int .i64 0, .int .i64 0, .int .i64 R, .int .i64 T] 23) := ⟨_, rfl⟩
  simp only [← eW] at k1 k2 k3 g1 ⊢
  simp only [← eB1, ← eB2, ← eB3] at k1 k2 k3 ⊢
  clear eB1 eB2 eB3 eW CE hg SM TU RT
  obtain ⟨Good, hGood⟩ : ∃ Good : World → Prop, Good = fun W => Cb W B1 x0a x0b x0c x0d ∧ Cb W B2 0 0 R T ∧ Cb W B3 0 0 R T ∧ Grown w W := ⟨_, rfl⟩
  have G : ∀ (W W' : World), Good W → Grown W W' → Good W' := fun W W' h h' => by
    rw [hGood] at h ⊢; exact ⟨h.1.grown h', h.2.1.grown h', h.2.2.1.grown h', grownTrans h.2.2.2 h'⟩
  have g0 : Good W0.drew := by rw [hGood]; exact ⟨k1.grown (Grown.refl _).drew, k2.grown (Grown.refl _).drew, k3.grown (Grown.refl _).drew, g1.drew⟩
  have HGO : Hid (∀ W, Good W → Grown w W) := fun W h => by rw [hGood] at h; exact h.2.2.2
  have G1 : ∀ W, Good W → Cb W B1 x0a x0b x0c x0d := fun W h => by rw [hGood] at h; exact h.1
  have G2 : ∀ W, Good W → Cb W B2 0 0 R T := fun W h => by rw [hGood] at h; exact h.2.1
  have G3 : ∀ W, Good W → Cb W B3 0 0 R T := fun W h => by rw [hGood] at h; exact h.2.2.1
  have u1 := fun r : Wor Good => (G1 _ r.h).cells.1
  have u2 := fun r : Wor Good => (G1 _ r.h).cells.2.1
  have u3 := fun r : Wor Good => (G1 _ r.h).cells.2.2.1
  have u4 := fun r : Wor Good => (G1 _ r.h).cells.2.2.2
  have v1 := fun r : Wor Good => (G2 _ r.h).cells.1
  have v2 := fun r : Wor Good => (G2 _ r.h).cells.2.1
  have v3 := fun r : Wor Good => (G2 _ r.h).cells.2.2.1
  have v4 := fun r : Wor Good => (G2 _ r.h).cells.2.2.2
  have y1 := fun r : Wor Good => (G3 _ r.h).cells.1
  have y2 := fun r : Wor Good => (G3 _ r.h).cells.2.1
  have y3 := fun r : Wor Good => (G3 _ r.h).cells.2.2.1
  have y4 := fun r : Wor Good => (G3 _ r.h).cells.2.2.2
  have TC : Hid (∀ r : Wor Good, Calls Try.prog 11 #[cl x0a x0b x0c x0d, .bool a1] r.w fun e w' => e = .returned (cl H1 M1 L1 S1) ∧ ∃ r' : Wor Good, w' = r'.w) := fun r => calls_class ((CO r.w).mono fun _ _ ⟨he, hh⟩ => ⟨he, G _ _ r.h hh⟩)
  have TR : Hid (∀ r : Wor Good, Calls Try.prog 12 #[cl x0a x0b x0c x0d, .bool a1] r.w fun e w' => e = .returned (cl H1 M1 L1 S1) ∧ ∃ r' : Wor Good, w' = r'.w) := fun r => calls_class ((RO r.w).mono fun _ _ ⟨he, hh⟩ => ⟨he, G _ _ r.h hh⟩)
  have TD : Hid (∀ r : Wor Good, Calls Try.prog 13 #[cl x0a x0b x0c x0d, .int .i64 a2] r.w fun e w' => e = .returned (.bool b) ∧ ∃ r' : Wor Good, w' = r'.w) := fun r => calls_class ((DU r.w).mono fun _ _ ⟨he, hh⟩ => ⟨he, G _ _ r.h hh⟩)
  have TE : Hid (∀ r : Wor Good, Calls Try.prog 14 #[cl x0a x0b x0c x0d, .int .i64 a2] r.w fun e w' => e = .returned (.bool b) ∧ ∃ r' : Wor Good, w' = r'.w) := fun r => calls_class ((RD r.w).mono fun _ _ ⟨he, hh⟩ => ⟨he, G _ _ r.h hh⟩)
  have TA : Hid (∀ r : Wor Good, Calls Try.prog 15 #[cl x0a x0b x0c x0d] r.w fun e w' => e = .returned (.int .i64 R) ∧ ∃ r' : Wor Good, w' = r'.w) := fun r => calls_class ((RA r.w).mono fun _ _ ⟨he, hh⟩ => ⟨he, G _ _ r.h hh⟩)
  have TB : Hid (∀ r : Wor Good, Calls Try.prog 16 #[cl x0a x0b x0c x0d] r.w fun e w' => e = .returned (.int .i64 R) ∧ ∃ r' : Wor Good, w' = r'.w) := fun r => calls_class ((RR r.w).mono fun _ _ ⟨he, hh⟩ => ⟨he, G _ _ r.h hh⟩)
  have TN : Hid (∀ r : Wor Good, Calls Try.prog 17 #[.int .i64 a3] r.w fun e w' => e = .returned (cl 0 0 0 N1) ∧ ∃ r' : Wor Good, w' = r'.w) := fun r => calls_class ((NE r.w).mono fun _ _ ⟨he, hh⟩ => ⟨he, G _ _ r.h hh⟩)
  have TM : Hid (∀ r : Wor Good, Calls Try.prog 18 #[.int .i64 a3] r.w fun e w' => e = .returned (cl 0 0 0 N1) ∧ ∃ r' : Wor Good, w' = r'.w) := fun r => calls_class ((RN r.w).mono fun _ _ ⟨he, hh⟩ => ⟨he, G _ _ r.h hh⟩)
  have hne : Nonempty (Wor Good) := ⟨⟨_, g0⟩⟩
  clear hGood G G1 G2 G3 k1 k2 k3 g1 CO RO DU RD RA RR NE RN
  refine wp_region_class (Good := Good) (by kernel_rfl) (by kernel_rfl) g0 ?_
  repeat (go_big_quiet_step (first | (go_at_call 11; with_reducible exact TC.out _) | (go_at_call 12; with_reducible exact TR.out _) | (go_at_call 13; with_reducible exact TD.out _) | (go_at_call 14; with_reducible exact TE.out _) | (go_at_call 15; with_reducible exact TA.out _) | (go_at_call 16; with_reducible exact TB.out _) | (go_at_call 17; with_reducible exact TN.out _) | (go_at_call 18; with_reducible exact TM.out _)))
  refine wpQuiet_nil ?_
  intro _ hw'
  obtain ⟨r, hw''⟩ := hw'
  subst hw''
  have hgo := HGO.out _ r.h
  clear u1 u2 u3 u4 v1 v2 v3 v4 y1 y2 y3 y4 TC TR TD TE TA TB TN TM g0
  go_wp2
  go_ret
  exact ⟨rfl, hgo⟩

/-! ### The row's step -/
set_option maxRecDepth 100000 in
theorem lifted (os : Os) (started : os.Started) (H : Type) (enc : TypeId × Value → H) :
    ReturnsInHanded {} Try.checked os 3 .any (Rows.climbTellsSpec.pre6 enc Try.prog Try.f3 Rows.climbTellsRow.domain false) (Rows.climbTellsSpec.post enc Try.prog Try.f3 false true false false) := by
  refine returnsInHanded_of_change (C := Try.checked) own started (by kernel_rfl) Try.func3
    (ChangeSpec.witness6 (enc := enc) (C := Try.checked) false ⟨#[], #[.agg #[.int .i64 0, .int .i64 0, .int .i64 0, .int .i64 0], .bool false, .int .i64 0, .int .i64 0], []⟩ 8 (by kernel_rfl) (by kernel_rfl) (by kernel_rfl) (by kernel_rfl)) ?_
  intro W base args ds gs before hval0 hW hcnd _
  have hval : ∀ (j : Nat) t v, Try.f3.params[j]? = some t → args[j]? = some v → Value.okWide Try.prog W .any base t v := hval0
  have hW' := hW
  obtain ⟨p, q, hA0, hV, rfl, hfz, hnd⟩ := hW
  have hA : DataW.TrodAll enc Try.prog W 0 (fun _ => true) true Try.f3.params.toList args.toList ds p := hA0
  rw [Try.params3] at hA hval
  obtain ⟨v0, vs0, d0, ds0, p0, q0, hargs, rfl, rfl, h0, r0⟩ := trodAll_cons hA
  obtain ⟨v1, vs1, d1, ds1, p1, q1, rfl, rfl, rfl, h1, r1⟩ := trodAll_cons r0
  obtain ⟨v2, vs2, d2, ds2, p2, q2, rfl, rfl, rfl, h2, r2⟩ := trodAll_cons r1
  obtain ⟨v3, vs3, d3, ds3, p3, q3, rfl, rfl, rfl, h3, r3⟩ := trodAll_cons r2
  obtain ⟨rfl, rfl, rfl⟩ := trodAll_nil r3
  obtain rfl : args = #[v0, v1, v2, v3] := by cases args; simp_all
  obtain ⟨rfl, rfl⟩ := trodVars_none hV
  have k0 := h0
  have lt0 : ∀ x ∈ p0, x.block < W.heap.size := by obtain ⟨m, hm⟩ := k0; exact DataW.trod_lt m _ _ _ hm
  obtain ⟨z0, hv0, wz0⟩ := open_nums (n := 4) (k := .i64) Try.underlying23 (by kernel_rfl) (by
    intro i hi
    match i, hi with
    | 0, _ => exact ⟨_, rfl, Try.underlying3, by kernel_rfl, rfl⟩
    | 1, _ => exact ⟨_, rfl, Try.underlying3, by kernel_rfl, rfl⟩
    | 2, _ => exact ⟨_, rfl, Try.underlying3, by kernel_rfl, rfl⟩
    | 3, _ => exact ⟨_, rfl, Try.underlying3, by kernel_rfl, rfl⟩) (hval 0 23 v0 rfl rfl) h0
  obtain rfl : v0 = .agg #[.int .i64 (z0 0), .int .i64 (z0 1), .int .i64 (z0 2), .int .i64 (z0 3)] := hv0
  obtain ⟨a1, rfl, rfl, rfl⟩ := open_bool Try.underlying4 (hval 1 4 v1 rfl rfl) h1
  obtain ⟨a2, rfl, rfl, rfl, w2⟩ := open_int Try.underlying3 (hval 2 3 v2 rfl rfl) h2
  obtain ⟨a3, rfl, rfl, rfl, w3⟩ := open_int Try.underlying3 (hval 3 3 v3 rfl rfl) h3
  clear hA0 hval0
  refine (walk (z0 0) (z0 1) (z0 2) (z0 3) a1 a2 a3 W (wz0 0 (by decide)) (wz0 1 (by decide)) (wz0 2 (by decide)) (wz0 3 (by decide))  w2 w3).mono fun e W' ⟨he, bel⟩ => ?_
  subst he
  exact ⟨_, rfl, _, _, _, [], _, [], hW', trodAll_mk1 (shut_bool Try.underlying4 _), (trodAll_cons_mk (grown_trod laidOut (by kernel_rfl) (of_decide_eq_true (by kernel_rfl)) k0 bel lt0) (trodAll_cons_mk (shut_bool Try.underlying4 _) (trodAll_cons_mk (shut_int Try.underlying3 w2) (trodAll_cons_mk (shut_int Try.underlying3 w3) trodAll_mk0)))), rfl, bel.frame _, fun h => by cases h⟩

theorem over : Rows.climbTellsRow.holds Try.pinned (OpenSpec.ofChange Rows.climbTellsSpec) :=
  OpenClaim.holds_of_wide 3 Try.f3 rfl rfl rfl rfl rfl rfl rfl ⟨rfl, rfl, rfl, rfl, rfl⟩ rfl rfl rfl rfl rfl (by kernel_rfl) Try.func3 (by kernel_rfl)
    (of_decide_eq_true (by kernel_rfl)) (by unfold Func.isWrapper; first | (rw [if_pos (by decide +kernel)]; kernel_rfl) | (rw [if_neg (by decide +kernel)]; exact ⟨rfl, rfl⟩))
    (fun os started H enc _ => lifted os started H enc)

/-- The statement. -/
theorem proved : Rows.ClimbTellsSaid := over
end Go.Proofs.Ytimklnecjmklhaa.climbTells

namespace Go.Proofs.Ytimklnecjmklhaa
/-- The given statement. -/
theorem climbTells_holds : Rows.ClimbTellsSaid := climbTells.proved
#print axioms climbTells_holds
end Go.Proofs.Ytimklnecjmklhaa
