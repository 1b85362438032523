/-
  Proved: pantrylaw09.QuotaTells returns true for every capacity, every quota (three numbers, right or not) and every by: Of, Shift, Right and Main are the document's (P9.1, P9.2). No condition.
-/
import Derived.Test.YteblhnpijjddcaaRows
import Derived.WalkKit
import Derived.ProofKit
import Derived.OpenShut
import Derived.Test.YteblhnpijjddcaaQtMore
import Derived.Test.YteblhnpijjddcaaGenCls
import Derived.ShutString
import Derived.ChangeOld
import Derived.Below
import Derived.Test.YteblhnpijjddcaaGenArgs
namespace Go.Proofs.Yteblhnpijjddcaa.quotaTells
open Go.ChangeShapes Go.WideShapes Go.ChangeAt Go.RowKit
set_option linter.unusedVariables false

theorem own : ownKnob Try.prog.godebug = none := by kernel_rfl
theorem laidOut : laidOutB Try.prog = true := by kernel_rfl

/-! ### The walk: the law returns true, and writes nothing that was there -/
set_option maxRecDepth 20000 in set_option maxHeartbeats 4000000 in
theorem walk (a0 : Int) (x1a x1b x1c : Int) (a2 : Int) (w : World) (w0 : (Lit.int .i64 a0).wf = true) (wx1a : (Lit.int .i64 x1a).wf = true) (wx1b : (Lit.int .i64 x1b).wf = true) (wx1c : (Lit.int .i64 x1c).wf = true) (w2 : (Lit.int .i64 a2).wf = true) :
    Calls Try.prog 3 #[.int .i64 a0, .agg #[.int .i64 x1a, .int .i64 x1b, .int .i64 x1c], .int .i64 a2] w fun e w' => e = .returned (.bool true) ∧ Grown w w' := by
  clear w0 wx1a wx1b wx1c w2
  have SM := qSmall
  have gq := guardQ
  have he := eqQ
  have er : (wh x1a == x1a && ws x1a x1b 0 == x1b && pr (wh x1a) (ws x1a x1b 0) == x1c) = ri x1a x1b x1c := by
    unfold ri; rw [Bool.beq_comm (a := x1a), Bool.beq_comm (a := x1b), Bool.beq_comm (a := x1c)]
  have OF := of_c a0
  have RO := rof_c a0
  obtain ⟨C0, hC0⟩ : ∃ C, C = wh a0 := ⟨_, rfl⟩
  obtain ⟨X0, hX0⟩ : ∃ C, C = wo a0 := ⟨_, rfl⟩
  obtain ⟨P0, hP0⟩ : ∃ C, C = pr C0 X0 := ⟨_, rfl⟩
  simp only [← hC0, ← hX0, ← hP0] at OF RO
  have SZ := rshift_c x1a x1b x1c 0
  have SH := shift_c x1a x1b x1c a2
  have RS := rshift_c x1a x1b x1c a2
  have RI := right_c x1a x1b x1c
  have MA := main_c x1a x1b x1c
  have rl := @ri_le x1a x1b x1c
  unfold ma at MA
  obtain ⟨C, hC⟩ : ∃ C, C = wh x1a := ⟨_, rfl⟩
  obtain ⟨Z, hZ⟩ : ∃ Z, Z = ws x1a x1b 0 := ⟨_, rfl⟩
  obtain ⟨Y, hY⟩ : ∃ Y, Y = ws x1a x1b a2 := ⟨_, rfl⟩
  obtain ⟨PZ, hPZ⟩ : ∃ P, P = pr C Z := ⟨_, rfl⟩
  obtain ⟨PY, hPY⟩ : ∃ P, P = pr C Y := ⟨_, rfl⟩
  obtain ⟨b, hb⟩ : ∃ b, b = ri x1a x1b x1c := ⟨_, rfl⟩
  simp only [← hC, ← hZ, ← hPZ, ← hb] at SZ er RI MA rl
  simp only [← hC, ← hY, ← hPY] at SH RS
  clear hC0 hX0 hP0 hC hZ hY hPZ hPY hb
  obtain ⟨M, hM, hM2⟩ : ∃ M : Int, M = (if b = true then x1a - x1b else 0) ∧ (b = true → M = x1a - x1b) ∧ (b = false → M = 0) := ⟨_, rfl, fun h => by rw [if_pos h], fun h => by rw [h]; rfl⟩
  simp only [← hM] at MA
  clear hM
  go_enter Try.func3, Try.ntmps3
  go_wp2_with (first | (go_at_call 7; refine (SM _).mono ?_; rintro e w1 ⟨rfl, g1⟩))
  have Q0 : Qb w1 w.heap.size x1a x1b x1c := (Qb.new w x1a x1b x1c).grown g1
  have hg : Grown w w1 := grownTrans ((Grown.refl w).alloc _ _) g1
  obtain ⟨B, hB⟩ : ∃ B, B = w.heap.size := ⟨_, rfl⟩
  simp only [← hB] at Q0 ⊢
  clear hB g1 SM
  obtain ⟨Good, hGood⟩ : ∃ Good : World → Prop, Good = fun W => Qb W B x1a x1b x1c ∧ Grown w W := ⟨_, rfl⟩
  have G : ∀ (W W' : World), Good W → Grown W W' → Good W' := fun W W' h h' => by
    rw [hGood] at h ⊢; exact ⟨h.1.grown h', grownTrans h.2 h'⟩
  have g0 : Good w1.drew := by rw [hGood]; exact ⟨Q0.grown (Grown.refl _).drew, hg.drew⟩
  have HGO : Hid (∀ W, Good W → Grown w W) := fun W h => by rw [hGood] at h; exact h.2
  have GX : ∀ W, Good W → Qb W B x1a x1b x1c := fun W h => by rw [hGood] at h; exact h.1
  have k1 := fun r : Wor Good => (GX _ r.h).cells.1
  have k2 := fun r : Wor Good => (GX _ r.h).cells.2.1
  have k3 := fun r : Wor Good => (GX _ r.h).cells.2.2
  have TZ : Hid (∀ r : Wor Good, Calls Try.prog 8 #[.agg #[.int .i64 x1a, .int .i64 x1b, .int .i64 x1c], .int .i64 0] r.w fun e w' => e = .returned (.agg #[.int .i64 C, .int .i64 Z, .int .i64 PZ]) ∧ ∃ r' : Wor Good, w' = r'.w) := fun r => calls_class ((SZ r.w).mono fun _ _ ⟨he, hh⟩ => ⟨he, G _ _ r.h hh⟩)
  have TS : Hid (∀ r : Wor Good, Calls Try.prog 11 #[.agg #[.int .i64 x1a, .int .i64 x1b, .int .i64 x1c], .int .i64 a2] r.w fun e w' => e = .returned (.agg #[.int .i64 C, .int .i64 Y, .int .i64 PY]) ∧ ∃ r' : Wor Good, w' = r'.w) := fun r => calls_class ((SH r.w).mono fun _ _ ⟨he, hh⟩ => ⟨he, G _ _ r.h hh⟩)
  have TR : Hid (∀ r : Wor Good, Calls Try.prog 8 #[.agg #[.int .i64 x1a, .int .i64 x1b, .int .i64 x1c], .int .i64 a2] r.w fun e w' => e = .returned (.agg #[.int .i64 C, .int .i64 Y, .int .i64 PY]) ∧ ∃ r' : Wor Good, w' = r'.w) := fun r => calls_class ((RS r.w).mono fun _ _ ⟨he, hh⟩ => ⟨he, G _ _ r.h hh⟩)
  have TO : Hid (∀ r : Wor Good, Calls Try.prog 9 #[.int .i64 a0] r.w fun e w' => e = .returned (.agg #[.int .i64 C0, .int .i64 X0, .int .i64 P0]) ∧ ∃ r' : Wor Good, w' = r'.w) := fun r => calls_class ((OF r.w).mono fun _ _ ⟨he, hh⟩ => ⟨he, G _ _ r.h hh⟩)
  have TQ : Hid (∀ r : Wor Good, Calls Try.prog 10 #[.int .i64 a0] r.w fun e w' => e = .returned (.agg #[.int .i64 C0, .int .i64 X0, .int .i64 P0]) ∧ ∃ r' : Wor Good, w' = r'.w) := fun r => calls_class ((RO r.w).mono fun _ _ ⟨he, hh⟩ => ⟨he, G _ _ r.h hh⟩)
  have TI : Hid (∀ r : Wor Good, Calls Try.prog 12 #[.agg #[.int .i64 x1a, .int .i64 x1b, .int .i64 x1c]] r.w fun e w' => e = .returned (.bool b) ∧ ∃ r' : Wor Good, w' = r'.w) := fun r => calls_class ((RI r.w).mono fun _ _ ⟨he, hh⟩ => ⟨he, G _ _ r.h hh⟩)
  have TM : Hid (∀ r : Wor Good, Calls Try.prog 13 #[.agg #[.int .i64 x1a, .int .i64 x1b, .int .i64 x1c]] r.w fun e w' => e = .returned (.int .i64 M) ∧ ∃ r' : Wor Good, w' = r'.w) := fun r => calls_class ((MA r.w).mono fun _ _ ⟨he, hh⟩ => ⟨he, G _ _ r.h hh⟩)
  have HGD : Hid (∀ W, Good W → Good W.drew) := fun W h => G _ _ h (Grown.refl _).drew
  have hne : Nonempty (Wor Good) := ⟨⟨_, g0⟩⟩
  clear hGood G GX SZ SH RS OF RO RI MA Q0 hg
  refine wp_region_class (Good := Good) (by kernel_rfl) (by kernel_rfl) g0 ?_
  repeat (go_big_quiet_step (first | (go_at_call 8; with_reducible exact TZ.out _)))
  refine wpQuiet_nil ?_
  intro _ hw'
  obtain ⟨r, hw''⟩ := hw'
  subst hw''
  clear er
  have HR := HGD.out _ r.h
  clear g0 HGD
  cases b with
  | true =>
    obtain ⟨b1, b2, b3, b4⟩ := rl rfl
    obtain rfl : M = x1a - x1b := hM2.1 rfl
    clear rl hM2
    go_wp2
    refine wp_region_class (Good := Good) (by kernel_rfl) (by kernel_rfl) HR ?_
    repeat (go_big_quiet_step (first | (go_at_call 9; with_reducible exact TO.out _) | (go_at_call 10; with_reducible exact TQ.out _) | (go_at_call 11; with_reducible exact TS.out _) | (go_at_call 8; with_reducible exact TR.out _) | (go_at_call 12; with_reducible exact TI.out _) | (go_at_call 13; with_reducible exact TM.out _)))
    refine wpQuiet_nil ?_
    intro _ hw'
    obtain ⟨r2, hw''⟩ := hw'
    subst hw''
    have hgo := HGO.out _ r2.h
    clear k1 k2 k3 TZ TS TR TO TQ TI TM
    go_wp2
    go_ret
    exact ⟨rfl, hgo⟩
  | false =>
    obtain rfl : M = 0 := hM2.2 rfl
    clear rl hM2
    go_wp2
    refine wp_region_class (Good := Good) (by kernel_rfl) (by kernel_rfl) HR ?_
    repeat (go_big_quiet_step (first | (go_at_call 9; with_reducible exact TO.out _) | (go_at_call 10; with_reducible exact TQ.out _) | (go_at_call 11; with_reducible exact TS.out _) | (go_at_call 8; with_reducible exact TR.out _) | (go_at_call 12; with_reducible exact TI.out _) | (go_at_call 13; with_reducible exact TM.out _)))
    refine wpQuiet_nil ?_
    intro _ hw'
    obtain ⟨r2, hw''⟩ := hw'
    subst hw''
    have hgo := HGO.out _ r2.h
    clear k1 k2 k3 TZ TS TR TO TQ TI TM
    go_wp2
    go_ret
    exact ⟨rfl, hgo⟩

/-! ### The row's step -/
set_option maxRecDepth 100000 in
theorem lifted (os : Os) (started : os.Started) (H : Type) (enc : TypeId × Value → H) :
    ReturnsInHanded {} Try.checked os 3 .any (Rows.quotaTellsSpec.pre6 enc Try.prog Try.f3 Rows.quotaTellsRow.domain false) (Rows.quotaTellsSpec.post enc Try.prog Try.f3 false true false false) := by
  refine returnsInHanded_of_change (C := Try.checked) own started (by kernel_rfl) Try.func3
    (ChangeSpec.witness6 (enc := enc) (C := Try.checked) false ⟨#[], #[.int .i64 0, .agg #[.int .i64 0, .int .i64 0, .int .i64 0], .int .i64 0], []⟩ 8 (by kernel_rfl) (by kernel_rfl) (by kernel_rfl) (by kernel_rfl)) ?_
  intro W base args ds gs before hval0 hW hcnd _
  have hval : ∀ (j : Nat) t v, Try.f3.params[j]? = some t → args[j]? = some v → Value.okWide Try.prog W .any base t v := hval0
  have hW' := hW
  obtain ⟨p, q, hA0, hV, rfl, hfz, hnd⟩ := hW
  have hA : DataW.TrodAll enc Try.prog W 0 (fun _ => true) true Try.f3.params.toList args.toList ds p := hA0
  rw [Try.params3] at hA hval
  obtain ⟨v0, vs0, d0, ds0, p0, q0, hargs, rfl, rfl, h0, r0⟩ := trodAll_cons hA
  obtain ⟨v1, vs1, d1, ds1, p1, q1, rfl, rfl, rfl, h1, r1⟩ := trodAll_cons r0
  obtain ⟨v2, vs2, d2, ds2, p2, q2, rfl, rfl, rfl, h2, r2⟩ := trodAll_cons r1
  obtain ⟨rfl, rfl, rfl⟩ := trodAll_nil r2
  obtain rfl : args = #[v0, v1, v2] := by cases args; simp_all
  obtain ⟨rfl, rfl⟩ := trodVars_none hV
  obtain ⟨a0, rfl, rfl, rfl, w0⟩ := open_int Try.underlying3 (hval 0 3 v0 rfl rfl) h0
  have k1 := h1
  have lt1 : ∀ x ∈ p1, x.block < W.heap.size := by obtain ⟨m, hm⟩ := k1; exact DataW.trod_lt m _ _ _ hm
  obtain ⟨z1, hv1, wz1⟩ := open_nums (n := 3) (k := .i64) Try.underlying23 (by kernel_rfl) (by
    intro i hi
    match i, hi with
    | 0, _ => exact ⟨_, rfl, Try.underlying3, by kernel_rfl, rfl⟩
    | 1, _ => exact ⟨_, rfl, Try.underlying3, by kernel_rfl, rfl⟩
    | 2, _ => exact ⟨_, rfl, Try.underlying3, by kernel_rfl, rfl⟩) (hval 1 23 v1 rfl rfl) h1
  obtain rfl : v1 = .agg #[.int .i64 (z1 0), .int .i64 (z1 1), .int .i64 (z1 2)] := hv1
  obtain ⟨a2, rfl, rfl, rfl, w2⟩ := open_int Try.underlying3 (hval 2 3 v2 rfl rfl) h2
  clear hA0 hval0
  refine (walk a0 (z1 0) (z1 1) (z1 2) a2 W w0 (wz1 0 (by decide)) (wz1 1 (by decide)) (wz1 2 (by decide)) w2).mono fun e W' ⟨he, bel⟩ => ?_
  subst he
  exact ⟨_, rfl, _, _, _, [], _, [], hW', trodAll_mk1 (shut_bool Try.underlying4 _), (trodAll_cons_mk (shut_int Try.underlying3 w0) (trodAll_cons_mk (grown_trod laidOut (by kernel_rfl) (of_decide_eq_true (by kernel_rfl)) k1 bel lt1) (trodAll_cons_mk (shut_int Try.underlying3 w2) trodAll_mk0))), rfl, bel.frame _, fun h => by cases h⟩

theorem over : Rows.quotaTellsRow.holds Try.pinned (OpenSpec.ofChange Rows.quotaTellsSpec) :=
  OpenClaim.holds_of_wide 3 Try.f3 rfl rfl rfl rfl rfl rfl rfl ⟨rfl, rfl, rfl, rfl, rfl⟩ rfl rfl rfl rfl rfl (by kernel_rfl) Try.func3 (by kernel_rfl)
    (of_decide_eq_true (by kernel_rfl)) (by unfold Func.isWrapper; first | (rw [if_pos (by decide +kernel)]; kernel_rfl) | (rw [if_neg (by decide +kernel)]; exact ⟨rfl, rfl⟩))
    (fun os started H enc _ => lifted os started H enc)

/-- The statement. -/
theorem proved : Rows.QuotaTellsSaid := over
end Go.Proofs.Yteblhnpijjddcaa.quotaTells

namespace Go.Proofs.Yteblhnpijjddcaa
/-- The given statement. -/
theorem quotaTells_holds : Rows.QuotaTellsSaid := quotaTells.proved
#print axioms quotaTells_holds
end Go.Proofs.Yteblhnpijjddcaa
