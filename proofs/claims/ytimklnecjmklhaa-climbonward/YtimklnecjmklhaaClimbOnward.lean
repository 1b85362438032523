/-
  Proved: pantrylaw10.ClimbOnward returns true for every climb (four numbers) and every capacity: as long as rates get better it goes on the same way, and it turns where they get worse (P10.6). No condition.
-/
import Derived.Test.YtimklnecjmklhaaRows
import Derived.WalkKit
import Derived.ProofKit
import Derived.OpenShut
import Derived.Test.YtimklnecjmklhaaClSmall
import Derived.ShutString
import Derived.ChangeOld
import Derived.Below
import Derived.Test.YtimklnecjmklhaaGenArgs
namespace Go.Proofs.Ytimklnecjmklhaa.climbOnward
open Go.ChangeShapes Go.WideShapes Go.ChangeAt Go.RowKit
set_option linter.unusedVariables false

theorem own : ownKnob Try.prog.godebug = none := by kernel_rfl
theorem laidOut : laidOutB Try.prog = true := by kernel_rfl

/-! ### The walk: the law returns true, and writes nothing that was there -/
set_option maxRecDepth 20000 in set_option maxHeartbeats 4000000 in
theorem walk (x0a x0b x0c x0d : Int) (a1 : Int) (w : World) (wx0a : (Lit.int .i64 x0a).wf = true) (wx0b : (Lit.int .i64 x0b).wf = true) (wx0c : (Lit.int .i64 x0c).wf = true) (wx0d : (Lit.int .i64 x0d).wf = true) (w1 : (Lit.int .i64 a1).wf = true) :
    Calls Try.prog 6 #[.agg #[.int .i64 x0a, .int .i64 x0b, .int .i64 x0c, .int .i64 x0d], .int .i64 a1] w fun e w' => e = .returned (.bool true) ∧ Grown w w' := by
  clear wx0a wx0b wx0c wx0d w1
  have SM := cSmall
  have CE := fun W => one_cb w W x0a x0b x0c x0d
  have hg := fun W => one_g w W x0a x0b x0c x0d
  by_cases n0 : x0a < 0
  · go_enter Try.func6, Try.ntmps6
    go_wp2_with (first | (go_at_call 8; refine (SM _).mono ?_; rintro e w1 ⟨rfl, g1⟩; have k1 := CE _ g1; obtain ⟨q0, q1, q2, q3⟩ := k1.cells; replace g1 := hg _ g1))
    go_ret
    exact ⟨rfl, g1⟩
  by_cases n1 : x0b < 0
  · go_enter Try.func6, Try.ntmps6
    go_wp2_with (first | (go_at_call 8; refine (SM _).mono ?_; rintro e w1 ⟨rfl, g1⟩; have k1 := CE _ g1; obtain ⟨q0, q1, q2, q3⟩ := k1.cells; replace g1 := hg _ g1))
    go_ret
    exact ⟨rfl, g1⟩
  by_cases n2 : 1099511627776 < x0a
  · go_enter Try.func6, Try.ntmps6
    go_wp2_with (first | (go_at_call 8; refine (SM _).mono ?_; rintro e w1 ⟨rfl, g1⟩; have k1 := CE _ g1; obtain ⟨q0, q1, q2, q3⟩ := k1.cells; replace g1 := hg _ g1))
    go_ret
    exact ⟨rfl, g1⟩
  by_cases n3 : 1099511627776 < x0b
  · go_enter Try.func6, Try.ntmps6
    go_wp2_with (first | (go_at_call 8; refine (SM _).mono ?_; rintro e w1 ⟨rfl, g1⟩; have k1 := CE _ g1; obtain ⟨q0, q1, q2, q3⟩ := k1.cells; replace g1 := hg _ g1))
    go_ret
    exact ⟨rfl, g1⟩
  by_cases n4 : x0c < 0
  · go_enter Try.func6, Try.ntmps6
    go_wp2_with (first | (go_at_call 8; refine (SM _).mono ?_; rintro e w1 ⟨rfl, g1⟩; have k1 := CE _ g1; obtain ⟨q0, q1, q2, q3⟩ := k1.cells; replace g1 := hg _ g1))
    go_ret
    exact ⟨rfl, g1⟩
  by_cases n5 : 65536 < x0c
  · go_enter Try.func6, Try.ntmps6
    go_wp2_with (first | (go_at_call 8; refine (SM _).mono ?_; rintro e w1 ⟨rfl, g1⟩; have k1 := CE _ g1; obtain ⟨q0, q1, q2, q3⟩ := k1.cells; replace g1 := hg _ g1))
    go_ret
    exact ⟨rfl, g1⟩
  by_cases n6 : x0d < -4611686018427387903
  · go_enter Try.func6, Try.ntmps6
    go_wp2_with (first | (go_at_call 8; refine (SM _).mono ?_; rintro e w1 ⟨rfl, g1⟩; have k1 := CE _ g1; obtain ⟨q0, q1, q2, q3⟩ := k1.cells; replace g1 := hg _ g1))
    go_ret
    exact ⟨rfl, g1⟩
  by_cases n7 : 4611686018427387903 < x0d
  · go_enter Try.func6, Try.ntmps6
    go_wp2_with (first | (go_at_call 8; refine (SM _).mono ?_; rintro e w1 ⟨rfl, g1⟩; have k1 := CE _ g1; obtain ⟨q0, q1, q2, q3⟩ := k1.cells; replace g1 := hg _ g1))
    go_ret
    exact ⟨rfl, g1⟩
  have e1 : cc x0a = x0a := by unfold cc mid; omega
  have e2 : cc x0b = x0b := by unfold cc mid; omega
  have e3 : cr x0c = x0c := by unfold cr mid; omega
  have e4 : cs x0d = x0d := by unfold cs mid; omega
  have TU := turn_c x0a x0b x0c x0d a1
  have RA := rate_c x0a x0b x0c x0d
  have hr := rt_le (h := x0a) (m := x0b) (by omega) (by omega)
  have hy := fs_le a1
  have ef : fa x0a x0b x0c x0d = if rt x0a x0b < x0c then -x0d else x0d := by unfold fa; rw [e1, e2, e3, e4]
  rw [e1, e2, e3] at TU
  rw [e1, e2] at RA
  obtain ⟨F, hF⟩ : ∃ x, x = fa x0a x0b x0c x0d := ⟨_, rfl⟩
  obtain ⟨R, hR⟩ : ∃ x, x = rt x0a x0b := ⟨_, rfl⟩
  have hT : (0 < F → 0 ≤ st F (R - x0c) a1) ∧ (F < 0 → st F (R - x0c) a1 ≤ 0) := by
    have k1 := @kp_le F
    have k2 := @kp_low F
    unfold st
    constructor <;> intro h <;> split <;> (try split) <;> omega
  simp only [← hF, ← hR] at TU RA hr ef
  obtain ⟨T, eT⟩ : ∃ x, x = st F (R - x0c) a1 := ⟨_, rfl⟩
  simp only [← eT] at TU hT
  obtain ⟨hT1, hT2⟩ := hT
  obtain ⟨hr0, hr1⟩ := hr
  clear hF hR eT hy e1 e2 e3 e4
  by_cases hlt : R < x0c
  · rw [if_pos hlt] at ef
    have efi : F = -x0d := ef
    clear ef
    by_cases hp : 0 < F
    · have h9 := hT1 hp
      clear hT1 hT2
      subst efi
      go_enter Try.func6, Try.ntmps6
      go_wp2_with (first | (go_at_call 8; refine (SM _).mono ?_; rintro e w1 ⟨rfl, g1⟩; have k1 := CE _ g1; obtain ⟨q0, q1, q2, q3⟩ := k1.cells; replace g1 := hg _ g1) | (refine wpList_load_cb rfl (.tmp 2) rfl w.heap.size rfl k1 ?_) | (go_at_call 9; refine (TU _).mono ?_; rintro e w2 ⟨rfl, g2⟩; replace g1 := (grownTrans g1 g2).alloc #[.int .i64 0, .int .i64 0, .int .i64 R, .int .i64 T] 23; replace k1 := (k1.grown g2).grown ((Grown.refl _).alloc #[.int .i64 0, .int .i64 0, .int .i64 R, .int .i64 T] 23); have k6 := Cb.new w2 0 0 R T; clear g2 q0 q1 q2 q3) | (go_at_call 15; refine (RA _).mono ?_; rintro e w3 ⟨rfl, g3⟩; replace g1 := grownTrans g1 g3; replace k1 := k1.grown g3; replace k6 := k6.grown g3; obtain ⟨q0, q1, q2, q3⟩ := k1.cells; obtain ⟨r0, r1, r2, r3⟩ := k6.cells; clear g3 k1 k6))
      go_ret
      exact ⟨rfl, g1⟩
    · by_cases hn : F < 0
      · have h9 := hT2 hn
        clear hT1 hT2
        subst efi
        go_enter Try.func6, Try.ntmps6
        go_wp2_with (first | (go_at_call 8; refine (SM _).mono ?_; rintro e w1 ⟨rfl, g1⟩; have k1 := CE _ g1; obtain ⟨q0, q1, q2, q3⟩ := k1.cells; replace g1 := hg _ g1) | (refine wpList_load_cb rfl (.tmp 2) rfl w.heap.size rfl k1 ?_) | (go_at_call 9; refine (TU _).mono ?_; rintro e w2 ⟨rfl, g2⟩; replace g1 := (grownTrans g1 g2).alloc #[.int .i64 0, .int .i64 0, .int .i64 R, .int .i64 T] 23; replace k1 := (k1.grown g2).grown ((Grown.refl _).alloc #[.int .i64 0, .int .i64 0, .int .i64 R, .int .i64 T] 23); have k6 := Cb.new w2 0 0 R T; clear g2 q0 q1 q2 q3) | (go_at_call 15; refine (RA _).mono ?_; rintro e w3 ⟨rfl, g3⟩; replace g1 := grownTrans g1 g3; replace k1 := k1.grown g3; replace k6 := k6.grown g3; obtain ⟨q0, q1, q2, q3⟩ := k1.cells; obtain ⟨r0, r1, r2, r3⟩ := k6.cells; clear g3 k1 k6))
        go_ret
        exact ⟨rfl, g1⟩
      · clear hT1 hT2
        subst efi
        go_enter Try.func6, Try.ntmps6
        go_wp2_with (first | (go_at_call 8; refine (SM _).mono ?_; rintro e w1 ⟨rfl, g1⟩; have k1 := CE _ g1; obtain ⟨q0, q1, q2, q3⟩ := k1.cells; replace g1 := hg _ g1) | (refine wpList_load_cb rfl (.tmp 2) rfl w.heap.size rfl k1 ?_) | (go_at_call 9; refine (TU _).mono ?_; rintro e w2 ⟨rfl, g2⟩; replace g1 := (grownTrans g1 g2).alloc #[.int .i64 0, .int .i64 0, .int .i64 R, .int .i64 T] 23; replace k1 := (k1.grown g2).grown ((Grown.refl _).alloc #[.int .i64 0, .int .i64 0, .int .i64 R, .int .i64 T] 23); have k6 := Cb.new w2 0 0 R T; clear g2 q0 q1 q2 q3) | (go_at_call 15; refine (RA _).mono ?_; rintro e w3 ⟨rfl, g3⟩; replace g1 := grownTrans g1 g3; replace k1 := k1.grown g3; replace k6 := k6.grown g3; obtain ⟨q0, q1, q2, q3⟩ := k1.cells; obtain ⟨r0, r1, r2, r3⟩ := k6.cells; clear g3 k1 k6))
        go_ret
        exact ⟨rfl, g1⟩
  · rw [if_neg hlt] at ef
    have efi : F = x0d := ef
    clear ef
    by_cases hp : 0 < F
    · have h9 := hT1 hp
      clear hT1 hT2
      subst efi
      go_enter Try.func6, Try.ntmps6
      go_wp2_with (first | (go_at_call 8; refine (SM _).mono ?_; rintro e w1 ⟨rfl, g1⟩; have k1 := CE _ g1; obtain ⟨q0, q1, q2, q3⟩ := k1.cells; replace g1 := hg _ g1) | (refine wpList_load_cb rfl (.tmp 2) rfl w.heap.size rfl k1 ?_) | (go_at_call 9; refine (TU _).mono ?_; rintro e w2 ⟨rfl, g2⟩; replace g1 := (grownTrans g1 g2).alloc #[.int .i64 0, .int .i64 0, .int .i64 R, .int .i64 T] 23; replace k1 := (k1.grown g2).grown ((Grown.refl _).alloc #[.int .i64 0, .int .i64 0, .int .i64 R, .int .i64 T] 23); have k6 := Cb.new w2 0 0 R T; clear g2 q0 q1 q2 q3) | (go_at_call 15; refine (RA _).mono ?_; rintro e w3 ⟨rfl, g3⟩; replace g1 := grownTrans g1 g3; replace k1 := k1.grown g3; replace k6 := k6.grown g3; obtain ⟨q0, q1, q2, q3⟩ := k1.cells; obtain ⟨r0, r1, r2, r3⟩ := k6.cells; clear g3 k1 k6))
      go_ret
      exact ⟨rfl, g1⟩
    · by_cases hn : F < 0
      · have h9 := hT2 hn
        clear hT1 hT2
        subst efi
        go_enter Try.func6, Try.ntmps6
        go_wp2_with (first | (go_at_call 8; refine (SM _).mono ?_; rintro e w1 ⟨rfl, g1⟩; have k1 := CE _ g1; obtain ⟨q0, q1, q2, q3⟩ := k1.cells; replace g1 := hg _ g1) | (refine wpList_load_cb rfl (.tmp 2) rfl w.heap.size rfl k1 ?_) | (go_at_call 9; refine (TU _).mono ?_; rintro e w2 ⟨rfl, g2⟩; replace g1 := (grownTrans g1 g2).alloc #[.int .i64 0, .int .i64 0, .int .i64 R, .int .i64 T] 23; replace k1 := (k1.grown g2).grown ((Grown.refl _).alloc #[.int .i64 0, .int .i64 0, .int .i64 R, .int .i64 T] 23); have k6 := Cb.new w2 0 0 R T; clear g2 q0 q1 q2 q3) | (go_at_call 15; refine (RA _).mono ?_; rintro e w3 ⟨rfl, g3⟩; replace g1 := grownTrans g1 g3; replace k1 := k1.grown g3; replace k6 := k6.grown g3; obtain ⟨q0, q1, q2, q3⟩ := k1.cells; obtain ⟨r0, r1, r2, r3⟩ := k6.cells; clear g3 k1 k6))
        go_ret
        exact ⟨rfl, g1⟩
      · clear hT1 hT2
        subst efi
        go_enter Try.func6, Try.ntmps6
        go_wp2_with (first | (go_at_call 8; refine (SM _).mono ?_; rintro e w1 ⟨rfl, g1⟩; have k1 := CE _ g1; obtain ⟨q0, q1, q2, q3⟩ := k1.cells; replace g1 := hg _ g1) | (refine wpList_load_cb rfl (.tmp 2) rfl w.heap.size rfl k1 ?_) | (go_at_call 9; refine (TU _).mono ?_; rintro e w2 ⟨rfl, g2⟩; replace g1 := (grownTrans g1 g2).alloc #[.int .i64 0, .int .i64 0, .int .i64 R, .int .i64 T] 23; replace k1 := (k1.grown g2).grown ((Grown.refl _).alloc #[.int .i64 0, .int .i64 0, .int .i64 R, .int .i64 T] 23); have k6 := Cb.new w2 0 0 R T; clear g2 q0 q1 q2 q3) | (go_at_call 15; refine (RA _).mono ?_; rintro e w3 ⟨rfl, g3⟩; replace g1 := grownTrans g1 g3; replace k1 := k1.grown g3; replace k6 := k6.grown g3; obtain ⟨q0, q1, q2, q3⟩ := k1.cells; obtain ⟨r0, r1, r2, r3⟩ := k6.cells; clear g3 k1 k6))
        go_ret
        exact ⟨rfl, g1⟩

/-! ### The row's step -/
set_option maxRecDepth 100000 in
theorem lifted (os : Os) (started : os.Started) (H : Type) (enc : TypeId × Value → H) :
    ReturnsInHanded {} Try.checked os 6 .any (Rows.climbOnwardSpec.pre6 enc Try.prog Try.f6 Rows.climbOnwardRow.domain false) (Rows.climbOnwardSpec.post enc Try.prog Try.f6 false true false false) := by
  refine returnsInHanded_of_change (C := Try.checked) own started (by kernel_rfl) Try.func6
    (ChangeSpec.witness6 (enc := enc) (C := Try.checked) false ⟨#[], #[.agg #[.int .i64 0, .int .i64 0, .int .i64 0, .int .i64 0], .int .i64 0], []⟩ 8 (by kernel_rfl) (by kernel_rfl) (by kernel_rfl) (by kernel_rfl)) ?_
  intro W base args ds gs before hval0 hW hcnd _
  have hval : ∀ (j : Nat) t v, Try.f6.params[j]? = some t → args[j]? = some v → Value.okWide Try.prog W .any base t v := hval0
  have hW' := hW
  obtain ⟨p, q, hA0, hV, rfl, hfz, hnd⟩ := hW
  have hA : DataW.TrodAll enc Try.prog W 0 (fun _ => true) true Try.f6.params.toList args.toList ds p := hA0
  rw [Try.params6] at hA hval
  obtain ⟨v0, vs0, d0, ds0, p0, q0, hargs, rfl, rfl, h0, r0⟩ := trodAll_cons hA
  obtain ⟨v1, vs1, d1, ds1, p1, q1, rfl, rfl, rfl, h1, r1⟩ := trodAll_cons r0
  obtain ⟨rfl, rfl, rfl⟩ := trodAll_nil r1
  obtain rfl : args = #[v0, v1] := by cases args; simp_all
  obtain ⟨rfl, rfl⟩ := trodVars_none hV
  have k0 := h0
  have lt0 : ∀ x ∈ p0, x.block < W.heap.size := by obtain ⟨m, hm⟩ := k0; exact DataW.trod_lt m _ _ _ hm
  obtain ⟨z0, hv0, wz0⟩ := open_nums (n := 4) (k := .i64) Try.underlying23 (by kernel_rfl) (by
    intro i hi
    match i, hi with
    | 0, _ => exact ⟨_, rfl, Try.underlying3, by kernel_rfl, rfl⟩
    | 1, _ => exact ⟨_, rfl, Try.underlying3, by kernel_rfl, rfl⟩
    | 2, _ => exact ⟨_, rfl, Try.underlying3, by kernel_rfl, rfl⟩
    | 3, _ => exact ⟨_, rfl, Try.underlying3, by kernel_rfl, rfl⟩) (hval 0 23 v0 rfl rfl) h0
  obtain rfl : v0 = .agg #[.int .i64 (z0 0), .int .i64 (z0 1), .int .i64 (z0 2), .int .i64 (z0 3)] := hv0
  obtain ⟨a1, rfl, rfl, rfl, w1⟩ := open_int Try.underlying3 (hval 1 3 v1 rfl rfl) h1
  clear hA0 hval0
  refine (walk (z0 0) (z0 1) (z0 2) (z0 3) a1 W (wz0 0 (by decide)) (wz0 1 (by decide)) (wz0 2 (by decide)) (wz0 3 (by decide)) w1).mono fun e W' ⟨he, bel⟩ => ?_
  subst he
  exact ⟨_, rfl, _, _, _, [], _, [], hW', trodAll_mk1 (shut_bool Try.underlying4 _), (trodAll_cons_mk (grown_trod laidOut (by kernel_rfl) (of_decide_eq_true (by kernel_rfl)) k0 bel lt0) (trodAll_cons_mk (shut_int Try.underlying3 w1) trodAll_mk0)), rfl, bel.frame _, fun h => by cases h⟩

theorem over : Rows.climbOnwardRow.holds Try.pinned (OpenSpec.ofChange Rows.climbOnwardSpec) :=
  OpenClaim.holds_of_wide 6 Try.f6 rfl rfl rfl rfl rfl rfl rfl ⟨rfl, rfl, rfl, rfl, rfl⟩ rfl rfl rfl rfl rfl (by kernel_rfl) Try.func6 (by kernel_rfl)
    (of_decide_eq_true (by kernel_rfl)) (by unfold Func.isWrapper; first | (rw [if_pos (by decide +kernel)]; kernel_rfl) | (rw [if_neg (by decide +kernel)]; exact ⟨rfl, rfl⟩))
    (fun os started H enc _ => lifted os started H enc)

/-- The statement. -/
theorem proved : Rows.ClimbOnwardSaid := over
end Go.Proofs.Ytimklnecjmklhaa.climbOnward

namespace Go.Proofs.Ytimklnecjmklhaa
/-- The given statement. -/
theorem climbOnward_holds : Rows.ClimbOnwardSaid := climbOnward.proved
#print axioms climbOnward_holds
end Go.Proofs.Ytimklnecjmklhaa
