/-
  Proved: pantrylaw10.ClimbStays returns true for every capacity, every period and every slice of bools: steps never grow above the first step, rates are from 0 to RateOne, and a quota that is played is right (P10.5). No condition.
-/
import Derived.Test.YtimklnecjmklhaaRows
import Derived.WalkKit
import Derived.ProofKit
import Derived.OpenShut
import Derived.Test.YtimklnecjmklhaaClIn
import Derived.Test.YtimklnecjmklhaaClSmall
import Derived.ShutString
import Derived.ChangeOld
import Derived.Below
import Derived.Test.YtimklnecjmklhaaGenArgs
namespace Go.Proofs.Ytimklnecjmklhaa.climbStays
open Go.ChangeShapes Go.WideShapes Go.ChangeAt Go.RowKit
set_option linter.unusedVariables false

theorem own : ownKnob Try.prog.godebug = none := by kernel_rfl
theorem laidOut : laidOutB Try.prog = true := by kernel_rfl

/-! ### The walk: the law returns true, and writes nothing that was there -/
open Go.Proofs.Ytimklnecjmklhaa.Cm Go.Deep in set_option maxRecDepth 20000 in set_option maxHeartbeats 4000000 in
theorem walk (a0 : Int) (a1 : Int) (a2 : Option Addr) (len2 cap2 : Nat) (z2 : Nat → Bool) (w : World) (w0 : (Lit.int .i64 a0).wf = true) (w1 : (Lit.int .i64 a1).wf = true) (w2 : IsBools w a2 len2 cap2 z2) :
    Calls Try.prog 5 #[.int .i64 a0, .int .i64 a1, .slice a2 len2 cap2] w fun e w' => e = .returned (.bool true) ∧ Grown w w' := by
  clear w0 w1
  have hz : Sb w a2 len2 z2 := bools_open w2
  have SM := cSmall
  by_cases hl : 300 < len2
  · have d3 : decide (300 < (len2 : Int)) = true := by rw [decide_eq_true_eq]; omega
    go_enter Try.func5, Try.ntmps5
    go_wp2_with (first | (go_at_call 8; refine (SM _).mono ?_; rintro e w1 ⟨rfl, g1⟩))
    go_ret
    exact ⟨rfl, g1⟩
  have d3 : decide (300 < (len2 : Int)) = false := by rw [decide_eq_false_iff_not]; omega
  by_cases n1 : a0 < 0
  · go_enter Try.func5, Try.ntmps5
    go_wp2_with (first | (go_at_call 8; refine (SM _).mono ?_; rintro e w1 ⟨rfl, g1⟩))
    go_ret
    exact ⟨rfl, g1⟩
  by_cases n2 : 4611686018427387903 < a0
  · go_enter Try.func5, Try.ntmps5
    go_wp2_with (first | (go_at_call 8; refine (SM _).mono ?_; rintro e w1 ⟨rfl, g1⟩))
    go_ret
    exact ⟨rfl, g1⟩
  have ew : wh a0 = a0 := by unfold wh mid; omega
  have PL := fun (n : Nat) (hn : n ≤ len2) w h => play_c a0 a1 a2 n cap2 z2 w h (by omega)
  rw [ew] at PL
  have IN : Hid (∀ k, CqIn a0 k (pst a0 a1 z2 k)) := pst_in a0 a1 z2
  have HW : Hid (wh a0 = a0) := ew
  have NC := new_c a0
  have hf := field3
  obtain ⟨F, eF⟩ : ∃ F, F = fs a0 := ⟨_, rfl⟩
  have HF : Hid (F = fs a0) := eF
  have hy := fs_le a0
  rw [← eF] at hy
  simp only [← eF] at NC
  obtain ⟨hy0, hy1⟩ := hy
  clear ew eF
  have hs : (a2 = none ∧ len2 = 0 ∧ cap2 = 0) ∨ ∃ x, a2 = some x ∧ len2 ≤ cap2 ∧ cap2 ≤ maxLen := by
    rcases w2 with ⟨h1, h2, h3⟩ | ⟨x, h1, h2, h3, _⟩
    · exact .inl ⟨h1, h2, h3⟩
    · exact .inr ⟨x, h1, h2, h3⟩
  clear w2
  go_enter Try.func5, Try.ntmps5
  go_wp2_with (first | (go_at_call 8; refine (SM _).mono ?_; rintro e w1 ⟨rfl, g1⟩) | (go_at_call 17; refine (NC _).mono ?_; rintro e w2 ⟨rfl, g2⟩))
  have hg := grownTrans g1 g2
  clear g1 g2 SM NC d3 hf
  go_loopw [9] (fun i wr => ∃ k : Nat, k ≤ len2 + 7 ∧ i = .int .i64 k ∧ Grown w wr) (fun i _ => len2 + 8 - (intOf i).toNat)
  case atStart => exact ⟨0, by omega, rfl, hg⟩
  case round =>
    clear hg
    obtain ⟨k, hk, rfl, hg⟩ := hrel
    by_cases hlt : k ≤ len2
    · have hd : decide ((k : Int) ≤ (len2 : Int)) = true := by rw [decide_eq_true_eq]; omega
      have hz' : Sb wr a2 k z2 := by
        rcases hz.grown hg with h | ⟨b, off, h1, h2, h3⟩
        · exact .inl (by omega)
        · exact .inr ⟨b, off, h1, h2, fun i hi => h3 i (by omega)⟩
      have PK := PL k hlt wr hz'
      obtain ⟨i1, i2, i3, ⟨i4, i5⟩, ⟨i6, i7⟩, ⟨i8, i9⟩⟩ := IN.out k
      rw [HW.out] at i8 i9
      rw [← HF.out] at i6 i7
      obtain ⟨q, eq⟩ : ∃ q, q = pst a0 a1 z2 k := ⟨_, rfl⟩
      simp only [← eq] at PK i1 i2 i3 i4 i5 i6 i7 i8 i9
      obtain ⟨h, m, l, s, x⟩ := q
      simp only at PK i1 i2 i3 i4 i5 i6 i7 i8 i9
      clear eq PL
      have hri : ri a0 x (pr a0 x) = true := ri_in HW.out i8 i9
      obtain ⟨P, eP⟩ : ∃ P, P = pr a0 x := ⟨_, rfl⟩
      simp only [← eP] at PK hri
      have RI := right_c a0 x P
      rw [hri] at RI
      have RA := rate_c h m l s
      have hr := rt_le (cc_le h).1 (cc_le m).1
      obtain ⟨R, eR⟩ : ∃ R, R = rt (cc h) (cc m) := ⟨_, rfl⟩
      simp only [← eR] at RA hr
      obtain ⟨r0, r1⟩ := hr
      clear eP eR hri
      rcases hs with ⟨rfl, hl0, hc0⟩ | ⟨y, rfl, hc1, hc2⟩
      · have hc1 : len2 ≤ cap2 := by omega
        have hc2 : cap2 ≤ maxLen := by rw [hc0]; exact Nat.zero_le _
        have hkc : k ≤ cap2 := by omega
        clear hl0 hc0
        clear i8 i9
        go_wp2_with (first | (go_at_call 19; refine PK.mono ?_; rintro e w3 ⟨rfl, g3⟩; have k3 : Cb _ w3.heap.size h m l s := heap2_old w3 (.cells #[.int .i64 h, .int .i64 m, .int .i64 l, .int .i64 s] 23) (.cells #[.int .i64 a0, .int .i64 x, .int .i64 P] 34); have k4 : Qb _ (w3.heap.size + 1) a0 x P := heap2_new w3 (.cells #[.int .i64 h, .int .i64 m, .int .i64 l, .int .i64 s] 23) (.cells #[.int .i64 a0, .int .i64 x, .int .i64 P] 34); have g4 := ((grownTrans hg g3).alloc #[.int .i64 h, .int .i64 m, .int .i64 l, .int .i64 s] 23).alloc #[.int .i64 a0, .int .i64 x, .int .i64 P] 34) | (go_at_call 15; refine (RA _).mono ?_; rintro e w5 ⟨rfl, g5⟩; replace k3 := k3.grown g5; replace k4 := k4.grown g5; replace g4 := grownTrans g4 g5; clear g5; obtain ⟨j0, j1, j2, j3⟩ := k3.cells; obtain ⟨m0, m1, m2⟩ := k4.cells) | (go_at_call 21; refine (RI _).mono ?_; rintro e w6 ⟨rfl, g6⟩; replace k3 := k3.grown g6; replace k4 := k4.grown g6; replace g4 := grownTrans g4 g6; clear g6 j0 j1 j2 j3 m0 m1 m2; obtain ⟨j0, j1, j2, j3⟩ := k3.cells; obtain ⟨m0, m1, m2⟩ := k4.cells))
        exact ⟨⟨k + 7, by omega, by go_num, g4⟩, by simp [intOf]; omega⟩
      · clear i8 i9
        go_wp2_with (first | (go_at_call 19; refine PK.mono ?_; rintro e w3 ⟨rfl, g3⟩; have k3 : Cb _ w3.heap.size h m l s := heap2_old w3 (.cells #[.int .i64 h, .int .i64 m, .int .i64 l, .int .i64 s] 23) (.cells #[.int .i64 a0, .int .i64 x, .int .i64 P] 34); have k4 : Qb _ (w3.heap.size + 1) a0 x P := heap2_new w3 (.cells #[.int .i64 h, .int .i64 m, .int .i64 l, .int .i64 s] 23) (.cells #[.int .i64 a0, .int .i64 x, .int .i64 P] 34); have g4 := ((grownTrans hg g3).alloc #[.int .i64 h, .int .i64 m, .int .i64 l, .int .i64 s] 23).alloc #[.int .i64 a0, .int .i64 x, .int .i64 P] 34) | (go_at_call 15; refine (RA _).mono ?_; rintro e w5 ⟨rfl, g5⟩; replace k3 := k3.grown g5; replace k4 := k4.grown g5; replace g4 := grownTrans g4 g5; clear g5; obtain ⟨j0, j1, j2, j3⟩ := k3.cells; obtain ⟨m0, m1, m2⟩ := k4.cells) | (go_at_call 21; refine (RI _).mono ?_; rintro e w6 ⟨rfl, g6⟩; replace k3 := k3.grown g6; replace k4 := k4.grown g6; replace g4 := grownTrans g4 g6; clear g6 j0 j1 j2 j3 m0 m1 m2; obtain ⟨j0, j1, j2, j3⟩ := k3.cells; obtain ⟨m0, m1, m2⟩ := k4.cells))
        exact ⟨⟨k + 7, by omega, by go_num, g4⟩, by simp [intOf]; omega⟩
    · have hd : decide ((k : Int) ≤ (len2 : Int)) = false := by rw [decide_eq_false_iff_not]; omega
      go_wp2
      go_ret
      exact ⟨rfl, hg⟩

/-! ### The row's step -/
set_option maxRecDepth 100000 in
theorem lifted (os : Os) (started : os.Started) (H : Type) (enc : TypeId × Value → H) :
    ReturnsInHanded {} Try.checked os 5 .any (Rows.climbStaysSpec.pre6 enc Try.prog Try.f5 Rows.climbStaysRow.domain false) (Rows.climbStaysSpec.post enc Try.prog Try.f5 false true false false) := by
  refine returnsInHanded_of_change (C := Try.checked) own started (by kernel_rfl) Try.func5
    (ChangeSpec.witness6 (enc := enc) (C := Try.checked) false ⟨#[], #[.int .i64 0, .int .i64 0, .slice none 0 0], []⟩ 8 (by kernel_rfl) (by kernel_rfl) (by kernel_rfl) (by kernel_rfl)) ?_
  intro W base args ds gs before hval0 hW hcnd _
  have hval : ∀ (j : Nat) t v, Try.f5.params[j]? = some t → args[j]? = some v → Value.okWide Try.prog W .any base t v := hval0
  have hW' := hW
  obtain ⟨p, q, hA0, hV, rfl, hfz, hnd⟩ := hW
  have hA : DataW.TrodAll enc Try.prog W 0 (fun _ => true) true Try.f5.params.toList args.toList ds p := hA0
  rw [Try.params5] at hA hval
  obtain ⟨v0, vs0, d0, ds0, p0, q0, hargs, rfl, rfl, h0, r0⟩ := trodAll_cons hA
  obtain ⟨v1, vs1, d1, ds1, p1, q1, rfl, rfl, rfl, h1, r1⟩ := trodAll_cons r0
  obtain ⟨v2, vs2, d2, ds2, p2, q2, rfl, rfl, rfl, h2, r2⟩ := trodAll_cons r1
  obtain ⟨rfl, rfl, rfl⟩ := trodAll_nil r2
  obtain rfl : args = #[v0, v1, v2] := by cases args; simp_all
  obtain ⟨rfl, rfl⟩ := trodVars_none hV
  obtain ⟨a0, rfl, rfl, rfl, w0⟩ := open_int Try.underlying3 (hval 0 3 v0 rfl rfl) h0
  obtain ⟨a1, rfl, rfl, rfl, w1⟩ := open_int Try.underlying3 (hval 1 3 v1 rfl rfl) h1
  obtain ⟨a2, len2, cap2, rfl⟩ := okWide_slice Try.underlying32 (hval 2 32 v2 rfl rfl)
  have k2 := h2
  have lt2 : ∀ x ∈ p2, x.block < W.heap.size := by obtain ⟨m, hm⟩ := k2; exact DataW.trod_lt m _ _ _ hm
  obtain ⟨z2, w2⟩ := open_bools Try.underlying32 Try.underlying4 (by kernel_rfl) h2
  clear hA0 hval0
  refine (walk a0 a1 a2 len2 cap2 z2 W w0 w1 w2).mono fun e W' ⟨he, bel⟩ => ?_
  subst he
  exact ⟨_, rfl, _, _, _, [], _, [], hW', trodAll_mk1 (shut_bool Try.underlying4 _), (trodAll_cons_mk (shut_int Try.underlying3 w0) (trodAll_cons_mk (shut_int Try.underlying3 w1) (trodAll_cons_mk (grown_trod laidOut (by kernel_rfl) (of_decide_eq_true (by kernel_rfl)) k2 bel lt2) trodAll_mk0))), rfl, bel.frame _, fun h => by cases h⟩

theorem over : Rows.climbStaysRow.holds Try.pinned (OpenSpec.ofChange Rows.climbStaysSpec) :=
  OpenClaim.holds_of_wide 5 Try.f5 rfl rfl rfl rfl rfl rfl rfl ⟨rfl, rfl, rfl, rfl, rfl⟩ rfl rfl rfl rfl rfl (by kernel_rfl) Try.func5 (by kernel_rfl)
    (of_decide_eq_true (by kernel_rfl)) (by unfold Func.isWrapper; first | (rw [if_pos (by decide +kernel)]; kernel_rfl) | (rw [if_neg (by decide +kernel)]; exact ⟨rfl, rfl⟩))
    (fun os started H enc _ => lifted os started H enc)

/-- The statement. -/
theorem proved : Rows.ClimbStaysSaid := over
end Go.Proofs.Ytimklnecjmklhaa.climbStays

namespace Go.Proofs.Ytimklnecjmklhaa
/-- The given statement. -/
theorem climbStays_holds : Rows.ClimbStaysSaid := climbStays.proved
#print axioms climbStays_holds
end Go.Proofs.Ytimklnecjmklhaa
