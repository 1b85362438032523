/-
  Proved: pantrylaw13.StripesLoses returns true for every count, size, seed, thread and number of offers: one thread alone has as much room as one ring has, and loses what is above that (P13.1, P13.2). No condition.
-/
import Derived.Test.YtbboomhgigaobaaRows
import Derived.WalkKit
import Derived.ProofKit
import Derived.OpenShut
import Derived.Test.YtbboomhgigaobaaSpMore
namespace Go.Proofs.Ytbboomhgigaobaa.stripesLoses
open Go.ChangeShapes Go.WideShapes Go.ChangeAt Go.RowKit
set_option linter.unusedVariables false      -- a walk need not use every 'w<i>' (that an integer argument fits its kind)

theorem own : ownKnob Try.prog.godebug = none := by kernel_rfl

/-! ### STEP 1: THE WALK: the Go text returns true. 'Grown w w'': the world has at most new blocks (Derived/RowKit3.lean). Part the cases AHEAD of 'go_enter' where a test parts the walk; take each callee by a contract of your own. -/
open Go.Proofs.Ytbboomhgigaobaa.Rn in set_option maxRecDepth 20000 in set_option maxHeartbeats 8000000 in
theorem walk (a0 : Int) (a1 : Int) (a2 : Int) (a3 : Int) (a4 : Int) (w0 : (Lit.int .i64 a0).wf = true) (w1 : (Lit.int .i64 a1).wf = true) (w2 : (Lit.int .i64 a2).wf = true) (w3 : (Lit.int .i64 a3).wf = true) (w4 : (Lit.int .i64 a4).wf = true) (w : World) :
    Calls Try.prog 6 #[.int .i64 a0, .int .i64 a1, .int .i64 a2, .int .i64 a3, .int .i64 a4] w fun e w' => e = .returned (.bool true) ∧ Grown w w' := by
  clear w0 w1 w2 w3 w4
  obtain ⟨N, n1, n2, e, _, hcN, _⟩ := size_all a1
  obtain ⟨k, k1, k2, ek⟩ := count_all a0
  have nw := fun (w1 : World) (g : Grown w w1) => new_x (Apt.none g) a0 a1 a2 k1 k2 ek n1 n2 e
  have up : Hid (Up a1 4096 (N : Int) 62 1) := by
    have := Up.start (n := a1) (l := 1) (m := 4096) (by decide) (by decide) (by decide) (by decide)
    rw [e] at this
    exact this
  clear e ek
  unfold ptr at nw
  have hc : a1 < 1 ∨ (1 ≤ a1 ∧ 64 < a1) ∨ (1 ≤ a1 ∧ a1 ≤ 64 ∧ a4 < 0) ∨ (1 ≤ a1 ∧ a1 ≤ 64 ∧ 0 ≤ a4 ∧ 200 < a4) ∨ (1 ≤ a1 ∧ a1 ≤ 64 ∧ 0 ≤ a4 ∧ a4 ≤ 200) := by omega
  rcases hc with c | ⟨c, c'⟩ | ⟨c, c', c2⟩ | ⟨c, c', c2, c3⟩ | ⟨c, c', c2, c3⟩
  iterate 4
    · clear hcN up
      go_enter Try.func6, Try.ntmps6
      go_wp2_with (first | (go_at_call 7; refine (small_s _).mono ?_; rintro e ws ⟨rfl, hgs⟩) | (go_at_call 8; refine (nw _ hgs).mono ?_; rintro e wx ⟨X, rfl, hX, hx⟩; clear nw hX; have hx : Hid (Apt w wx [obSp X (freshN k)]) := hx))
      go_ret
      exact ⟨rfl, hx.out.grown⟩
  obtain ⟨T, rfl⟩ : ∃ T : Nat, a4 = (T : Int) := ⟨a4.toNat, by omega⟩
  obtain ⟨y, hy⟩ : ∃ y, Hid (y = ofT a2 k a3) := ⟨_, rfl⟩
  have hyk : y < k := by rw [hy.out]; exact (ofT_lt a2 a3 k1).1
  have of : ∀ X w1 m, Is X k N a2 → m ≤ 1000 → Apt w w1 [obSp X (losS k y N m)] → Calls Try.prog 15 #[.pointer (some ⟨X.S, 0, none⟩), .int .i64 a3, .int .i64 (m : Int)] w1 fun e w' => e = .returned (.bool (decide ((m : Int) < (N : Int)))) ∧ Apt w w' [obSp X (losS k y N (m + 1))] := fun X w1 m hX hm h => los_offer h (i := 0) rfl hX a3 hy.out hyk hm
  have ls : ∀ X w1 m, Is X k N a2 → Apt w w1 [obSp X (losS k y N m)] → Calls Try.prog 23 #[.pointer (some ⟨X.S, 0, none⟩)] w1 fun e w' => ∃ p c, e = .returned (.slice p k c) ∧ ((losS k y N m).map lenO).length = k ∧ Apt w w' [obSp X (losS k y N m), obV p c ((losS k y N m).map lenO)] := fun X w1 m hX h => lens_x h (i := 0) rfl hX
  have pl : ∀ X w1 m p c, Is X k N a2 → Apt w w1 [obSp X (losS k y N m), obV p c ((losS k y N m).map lenO)] → Calls Try.prog 17 #[.pointer (some ⟨X.S, 0, none⟩), .int .i64 a3] w1 fun e w' => e = .returned (.int .i64 (y : Int)) ∧ Apt w w' [obSp X (losS k y N m), obV p c ((losS k y N m).map lenO)] := fun X w1 m p c hX h => by
    have := place_x h (i := 0) rfl hX a3
    rw [← hy.out] at this
    exact this
  have le : ∀ X w1 m p c, Apt w w1 [obSp X (losS k y N m), obV p c ((losS k y N m).map lenO)] → Calls Try.prog 19 #[.pointer (some ⟨X.S, 0, none⟩)] w1 fun e w' => e = .returned (.int .i64 ((min m N : Nat) : Int)) ∧ w' = w1 := fun X w1 m p c h => by
    have := len_p h (i := 0) rfl
    rw [los_len hyk] at this
    exact this
  have lo : ∀ X w1 m p c, m ≤ 1000 → Apt w w1 [obSp X (losS k y N m), obV p c ((losS k y N m).map lenO)] → Calls Try.prog 21 #[.pointer (some ⟨X.S, 0, none⟩)] w1 fun e w' => e = .returned (.int .i64 ((m - N : Nat) : Int)) ∧ w' = w1 := fun X w1 m p c hm h => by
    have := lost_p h (i := 0) rfl (los_bd hm)
    rw [los_lost hyk] at this
    exact this
  go_enter Try.func6, Try.ntmps6
  go_wp2_with (first | (go_at_call 7; refine (small_s _).mono ?_; rintro e ws ⟨rfl, hgs⟩) | (go_at_call 8; refine (nw _ hgs).mono ?_; rintro e wx ⟨X, rfl, hX, hx⟩; clear nw; have hX : Hid (Is X k N a2) := hX; have hx : Hid (Apt w wx [obSp X (freshN k)]) := hx))
  go_loopw [13] (fun r wr => ∃ (g : Nat) (v : Int), r = .int .i64 v ∧ Up a1 4096 (N : Int) g v ∧ wr = wx) (fun r _ => 4096 - (intOf r).toNat)
  case atStart => exact ⟨62, 1, rfl, up.out, rfl⟩
  case round =>
    obtain ⟨g, v, rfl, hu, hw⟩ := hrel
    subst hw
    have hv := hu.le
    have hu : Hid (Up a1 4096 (N : Int) g v) := hu
    by_cases hlt : v < a1
    · obtain ⟨g', _, hu2, _⟩ := hu.out.next (by omega)
      have hu2 : Hid (Up a1 4096 (N : Int) g' (2 * v)) := hu2
      clear of ls pl le lo
      go_wp2_with fail
      go_roundw
      case rel => exact ⟨g', 2 * v, by go_num, hu2.out, trivial⟩
      case measure => simp [intOf]; omega
    · have hst : v = (N : Int) := hu.out.stop (by omega)
      subst hst
      clear hu up
      go_wp2_with fail
      go_loopw [14] (fun iv wr => ∃ m : Nat, m ≤ T ∧ iv = .int .i64 (m : Int) ∧ Apt w wr [obSp X (losS k y N m)]) (fun iv _ => T - (intOf iv).toNat)
      case atStart => exact ⟨0, by omega, rfl, by rw [losS_zero hyk]; exact hx.out⟩
      case round =>
        clear hx
        obtain ⟨m, hm, rfl, hx⟩ := hrel
        have hx : Hid (Apt w _ [obSp X (losS k y N m)]) := hx
        by_cases hlt2 : m < T
        · have hd : decide ((m : Int) < (T : Int)) = true := by rw [decide_eq_true_eq]; omega
          have o1 := of X _ m hX.out (by omega) hx.out
          clear of ls pl le lo
          by_cases hl : m < N
          · have hd2 : decide ((m : Int) < (N : Int)) = true := by rw [decide_eq_true_eq]; omega
            rw [hd2] at o1
            go_wp2_with (go_at_call 15; refine o1.mono ?_; rintro e w2 ⟨rfl, h2⟩; clear o1 hx; have h2 : Hid (Apt w w2 [obSp X (losS k y N (m + 1))]) := h2)
            go_roundw
            case rel => exact ⟨m + 1, by omega, by go_num, h2.out⟩
            case measure => simp [intOf]; omega
          · have hd2 : decide ((m : Int) < (N : Int)) = false := by rw [decide_eq_false_iff_not]; omega
            rw [hd2] at o1
            go_wp2_with (go_at_call 15; refine o1.mono ?_; rintro e w2 ⟨rfl, h2⟩; clear o1 hx; have h2 : Hid (Apt w w2 [obSp X (losS k y N (m + 1))]) := h2)
            go_roundw
            case rel => exact ⟨m + 1, by omega, by go_num, h2.out⟩
            case measure => simp [intOf]; omega
        · obtain rfl : m = T := by omega
          have hd : decide ((m : Int) < (m : Int)) = false := by rw [decide_eq_false_iff_not]; omega
          have l1 := ls X _ m hX.out hx.out
          obtain ⟨mn, hmn⟩ : ∃ mn : Nat, mn = min m N := ⟨_, rfl⟩
          obtain ⟨mx, hmx⟩ : ∃ mx : Nat, mx = m - N := ⟨_, rfl⟩
          have le := fun w1 p c h => le X w1 m p c h
          have lo := fun w1 p c h => lo X w1 m p c (by omega) h
          rw [← hmn] at le
          rw [← hmx] at lo
          have cy : ∀ w1 p c, ((losS k y N m).map lenO).length = k → Apt w w1 [obSp X (losS k y N m), obV p c ((losS k y N m).map lenO)] → ∃ B, p = some ⟨B, 0, none⟩ ∧ w1.cell? ⟨B, y, none⟩ = some (.int .i64 (mn : Int)) ∧ B < w1.heap.size := fun w1 p c hl h => by
            have hv : Vec w1 3 1 p ((losS k y N m).map lenO).length c (ivL ((losS k y N m).map lenO)) := h.all 1 _ rfl
            obtain ⟨B, rfl, lB, cB, _, _⟩ := hv.opens (by omega)
            exact ⟨B, rfl, by rw [cB y (by omega), los_lens hyk, hmn], lB⟩
          have hcs : (mn = m ∧ mx = 0 ∧ m ≤ N) ∨ (mn = N ∧ mx = m - N ∧ N < m) := by omega
          clear of ls hmn hmx
          rcases hcs with ⟨rfl, rfl, hle⟩ | ⟨rfl, rfl, hle⟩
          all_goals
            go_wp2_with (first
              | (go_at_call 23; refine l1.mono ?_; rintro e w2 ⟨p, cp, rfl, hlen, h2⟩; clear l1 hx; obtain ⟨B, rfl, _, _⟩ := cy _ _ _ hlen h2; have hlen : Hid (((losS _ y _ _).map lenO).length = _) := hlen; have h2 : Hid (Apt w w2 _) := h2)
              | (go_at_call 17; refine (pl _ _ _ _ _ hX.out h2.out).mono ?_; rintro e w3 ⟨rfl, h3⟩; clear pl h2; obtain ⟨B', e, cB, lB⟩ := cy _ _ _ hlen.out h3; cases e; have h3 : Hid (Apt w w3 _) := h3)
              | (go_at_call 19; refine (le _ _ _ h3.out).mono ?_; rintro e w' ⟨rfl, hw'⟩; have hw' := hw'.symm; subst hw')
              | (go_at_call 21; refine (lo _ _ _ h3.out).mono ?_; rintro e w' ⟨rfl, hw'⟩; have hw' := hw'.symm; subst hw'))
            all_goals
              go_ret
              first
              | exact ⟨rfl, h3.out.grown⟩
              | exact ⟨ret_b (by rw [beq_iff_eq]; omega), h3.out.grown⟩

/-! ### THE ROW's STEP: WRITTEN OUT: LEAVE IT -/
set_option maxRecDepth 100000 in
theorem lifted (os : Os) (started : os.Started) (H : Type) (enc : TypeId × Value → H) :
    ReturnsInHanded {} Try.checked os 6 .any (Rows.stripesLosesSpec.pre6 enc Try.prog Try.f6 Rows.stripesLosesRow.domain false) (Rows.stripesLosesSpec.post enc Try.prog Try.f6 false true false false) := by
  refine returnsInHanded_of_change (C := Try.checked) own started (by kernel_rfl) Try.func6
    (ChangeSpec.witness6 (enc := enc) (C := Try.checked) false ⟨#[], #[.int .i64 0, .int .i64 0, .int .i64 0, .int .i64 0, .int .i64 0], []⟩ 8 (by kernel_rfl) (by kernel_rfl) (by kernel_rfl) (by kernel_rfl)) ?_
  intro W base args ds gs before hval0 hW hcnd _
  have hval : ∀ (j : Nat) t v, Try.f6.params[j]? = some t → args[j]? = some v → Value.okWide Try.prog W .any base t v := hval0
  have hW' := hW
  obtain ⟨p, q, hA0, hV, rfl, hfz, hnd⟩ := hW
  have hA : DataW.TrodAll enc Try.prog W 0 (fun _ => true) true Try.f6.params.toList args.toList ds p := hA0
  rw [Try.params6] at hA hval
  obtain ⟨v0, vs0, d0, ds0, p0, q0, hargs, rfl, rfl, h0, r0⟩ := trodAll_cons hA
  obtain ⟨v1, vs1, d1, ds1, p1, q1, rfl, rfl, rfl, h1, r1⟩ := trodAll_cons r0
  obtain ⟨v2, vs2, d2, ds2, p2, q2, rfl, rfl, rfl, h2, r2⟩ := trodAll_cons r1
  obtain ⟨v3, vs3, d3, ds3, p3, q3, rfl, rfl, rfl, h3, r3⟩ := trodAll_cons r2
  obtain ⟨v4, vs4, d4, ds4, p4, q4, rfl, rfl, rfl, h4, r4⟩ := trodAll_cons r3
  obtain ⟨rfl, rfl, rfl⟩ := trodAll_nil r4
  obtain rfl : args = #[v0, v1, v2, v3, v4] := by cases args; simp_all
  obtain ⟨rfl, rfl⟩ := trodVars_none hV
  obtain ⟨a0, rfl, rfl, rfl, w0⟩ := open_int Try.underlying3 (hval 0 3 v0 rfl rfl) h0
  obtain ⟨a1, rfl, rfl, rfl, w1⟩ := open_int Try.underlying3 (hval 1 3 v1 rfl rfl) h1
  obtain ⟨a2, rfl, rfl, rfl, w2⟩ := open_int Try.underlying3 (hval 2 3 v2 rfl rfl) h2
  obtain ⟨a3, rfl, rfl, rfl, w3⟩ := open_int Try.underlying3 (hval 3 3 v3 rfl rfl) h3
  obtain ⟨a4, rfl, rfl, rfl, w4⟩ := open_int Try.underlying3 (hval 4 3 v4 rfl rfl) h4
  clear hA0 hval0
  simp only [List.append_nil] at hW'
  refine (walk a0 a1 a2 a3 a4 w0 w1 w2 w3 w4 W).mono fun e W' ⟨he, hg⟩ => ?_
  subst he
  exact ⟨_, rfl, post_of_same (pa := []) (pv := []) hW' (fun _ _ _ => (trodAll_cons_mk (shut_bool Try.underlying4 _) trodAll_mk0)) (fun sp _ => (trodAll_cons_mk (shut_int Try.underlying3 w0) (trodAll_cons_mk (shut_int Try.underlying3 w1) (trodAll_cons_mk (shut_int Try.underlying3 w2) (trodAll_cons_mk (shut_int Try.underlying3 w3) (trodAll_cons_mk (shut_int Try.underlying3 w4) trodAll_mk0)))))) (fun _ _ => rfl) rfl
    (hg.frame _) hg.2.1 (ok_one (by kernel_rfl) rfl (okWide_bool_mk Try.underlying4 _))⟩

theorem over : Rows.stripesLosesRow.holds Try.pinned (OpenSpec.ofChange Rows.stripesLosesSpec) :=
  OpenClaim.holds_of_wide 6 Try.f6 rfl rfl rfl rfl rfl rfl rfl ⟨rfl, rfl, rfl, rfl, rfl⟩ rfl rfl rfl rfl rfl (by kernel_rfl) Try.func6 (by kernel_rfl)
    (of_decide_eq_true (by kernel_rfl)) (by unfold Func.isWrapper; first | (rw [if_pos (by decide +kernel)]; kernel_rfl) | (rw [if_neg (by decide +kernel)]; exact ⟨rfl, rfl⟩))
    (fun os started H enc _ => lifted os started H enc)

/-- ████ THE STATEMENT ████ -/
theorem proved : Rows.StripesLosesSaid :=
  over
end Go.Proofs.Ytbboomhgigaobaa.stripesLoses

namespace Go.Proofs.Ytbboomhgigaobaa
/-- The given statement. -/
theorem stripesLoses_holds : Rows.StripesLosesSaid := stripesLoses.proved
#print axioms stripesLoses_holds
end Go.Proofs.Ytbboomhgigaobaa
