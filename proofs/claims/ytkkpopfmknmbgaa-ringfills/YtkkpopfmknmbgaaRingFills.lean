/-
  Proved: pantrylaw12.RingFills returns true for every size and every number of turns: a ring holds as many as it may, again and again, wherever it begins, and Drain tells all of them in order (P12.1, P12.2). No condition.
-/
import Derived.Test.YtkkpopfmknmbgaaRows
import Derived.WalkKit
import Derived.ProofKit
import Derived.OpenShut
import Derived.Test.YtkkpopfmknmbgaaRgSep
namespace Go.Proofs.Ytkkpopfmknmbgaa.ringFills
open Go.ChangeShapes Go.WideShapes Go.ChangeAt Go.RowKit
set_option linter.unusedVariables false      -- a walk need not use every 'w<i>' (that an integer argument fits its kind)

theorem own : ownKnob Try.prog.godebug = none := by kernel_rfl

/-! ### STEP 1: THE WALK: the Go text returns true. 'Grown w w'': the world has at most new blocks (Derived/RowKit3.lean). Part the cases AHEAD of 'go_enter' where a test parts the walk; take each callee by a contract of your own. -/
open Go.Proofs.Ytkkpopfmknmbgaa.Rn in set_option maxRecDepth 20000 in set_option maxHeartbeats 8000000 in
theorem walk (a0 : Int) (a1 : Int) (w0 : (Lit.int .i64 a0).wf = true) (w1 : (Lit.int .i64 a1).wf = true) (w : World) :
    Calls Try.prog 5 #[.int .i64 a0, .int .i64 a1] w fun e w' => e = .returned (.bool true) ∧ Grown w w' := by
  clear w0 w1
  obtain ⟨N, n1, n2, e, hb, h4, h5⟩ := size_all a0
  have nw := fun (w1 : World) (g : Grown w w1) => new_s (Apt.none g) a0 n1 n2 e
  clear e h5
  unfold ptr at nw
  have hc : a1 < 0 ∨ (0 ≤ a1 ∧ 50 < a1) ∨ (0 ≤ a1 ∧ a1 ≤ 50 ∧ 256 < N) ∨ (0 ≤ a1 ∧ a1 ≤ 50 ∧ N ≤ 256) := by omega
  rcases hc with c | ⟨c, c'⟩ | ⟨c, c', c2⟩ | ⟨c, c', c2⟩
  · clear h4 hb
    go_enter Try.func5, Try.ntmps5
    go_wp2_with (first | (go_at_call 8; refine (small_s _).mono ?_; rintro e ws ⟨rfl, hgs⟩) | (go_at_call 9; refine (nw _ hgs).mono ?_; rintro e wx ⟨b, rfl, hx⟩; clear nw; have hx : Hid (Apt w wx [obR b N [] 0]) := hx))
    go_ret
    exact ⟨rfl, hx.out.grown⟩
  · clear h4 hb
    go_enter Try.func5, Try.ntmps5
    go_wp2_with (first | (go_at_call 8; refine (small_s _).mono ?_; rintro e ws ⟨rfl, hgs⟩) | (go_at_call 9; refine (nw _ hgs).mono ?_; rintro e wx ⟨b, rfl, hx⟩; clear nw; have hx : Hid (Apt w wx [obR b N [] 0]) := hx))
    go_ret
    exact ⟨rfl, hx.out.grown⟩
  · clear h4 hb
    have d1 : decide (256 < (N : Int)) = true := by rw [decide_eq_true_eq]; omega
    go_enter Try.func5, Try.ntmps5
    go_wp2_with (first | (go_at_call 8; refine (small_s _).mono ?_; rintro e ws ⟨rfl, hgs⟩) | (go_at_call 9; refine (nw _ hgs).mono ?_; rintro e wx ⟨b, rfl, hx⟩; clear nw; have hx : Hid (Apt w wx [obR b N [] 0]) := hx) | (go_at_call 20; refine (size_s hx.out (i := 0) rfl).mono ?_; rintro e w' ⟨rfl, hw'⟩; have hw' := hw'.symm; subst hw'))
    go_ret
    exact ⟨rfl, hx.out.grown⟩
  · obtain ⟨T, rfl⟩ : ∃ T : Nat, a1 = (T : Int) := ⟨a1.toNat, by omega⟩
    have H4 : Hid (a0 ≤ (N : Int) ∨ N = 4096) := h4
    have d1 : decide (256 < (N : Int)) = false := by rw [decide_eq_false_iff_not]; omega
    clear h4
    have o1 : ∀ b w1 (k : Int), Apt w w1 [obR b N [] 0] → Calls Try.prog 16 #[.pointer (some ⟨b + 1, 0, none⟩), .int .i64 k] w1 fun e w' => e = .returned (.bool true) ∧ Apt w w' [obR b N [k] 0] := fun b w1 k h => by
      have := offer_s h (i := 0) rfl k (by decide)
      unfold offQ offL at this
      rw [if_pos (show ([] : List Int).length < N from n1), if_pos (show ([] : List Int).length < N from n1), decide_eq_true (show ([] : List Int).length < N from n1)] at this
      exact this
    have t1 : ∀ b w1 (k : Int), Apt w w1 [obR b N [k] 0] → Calls Try.prog 11 #[.pointer (some ⟨b + 1, 0, none⟩)] w1 fun e w' => e = .returned (.tuple #[.int .i64 k, .bool true]) ∧ Apt w w' [obR b N [] 0] := fun b w1 k h => take_s h (i := 0) rfl
    have o2 : ∀ b w1 (k : Nat), k < N → Apt w w1 [obR b N (upto k) 0] → Calls Try.prog 16 #[.pointer (some ⟨b + 1, 0, none⟩), .int .i64 (k : Int)] w1 fun e w' => e = .returned (.bool true) ∧ Apt w w' [obR b N (upto (k + 1)) 0] := fun b w1 k hk h => by
      have := offer_s h (i := 0) rfl (k : Int) (by decide)
      unfold offQ offL at this
      rw [if_pos (by rw [upto_len]; exact hk), if_pos (by rw [upto_len]; exact hk), decide_eq_true (by rw [upto_len]; exact hk), ← upto_succ] at this
      exact this
    have o3 : ∀ b w1, Apt w w1 [obR b N (upto N) 0] → Calls Try.prog 16 #[.pointer (some ⟨b + 1, 0, none⟩), .int .i64 9] w1 fun e w' => e = .returned (.bool false) ∧ Apt w w' [obR b N (upto N) 1] := fun b w1 h => by
      have := offer_s h (i := 0) rfl 9 (by decide)
      unfold offQ offL at this
      rw [if_neg (by rw [upto_len]; omega), if_neg (by rw [upto_len]; omega), decide_eq_false (by rw [upto_len]; omega)] at this
      exact this
    have dr : ∀ b w1, Apt w w1 [obR b N (upto N) 1] → Calls Try.prog 14 #[.pointer (some ⟨b + 1, 0, none⟩)] w1 fun e w' => ∃ p c, e = .returned (.slice p N c) ∧ Apt w w' [obR b N [] 1, obV p c (upto N)] := fun b w1 h => by
      have := drain_s h (i := 0) rfl
      rw [upto_len] at this
      exact this
    go_enter Try.func5, Try.ntmps5
    go_wp2_with (first | (go_at_call 8; refine (small_s _).mono ?_; rintro e ws ⟨rfl, hgs⟩) | (go_at_call 9; refine (nw _ hgs).mono ?_; rintro e wx ⟨b, rfl, hx⟩; clear nw; have hx : Hid (Apt w wx [obR b N [] 0]) := hx) | (go_at_call 20; refine (size_s hx.out (i := 0) rfl).mono ?_; rintro e w' ⟨rfl, hw'⟩; have hw' := hw'.symm; subst hw'))
    go_loopw [7, 8, 9] (fun i _ _ wr => ∃ k : Nat, k ≤ T ∧ i = .int .i64 (k : Int) ∧ Apt w wr [obR b N [] 0]) (fun i _ _ _ => T - (intOf i).toNat)
    case atStart => exact ⟨0, by omega, rfl, hx.out⟩
    case round =>
      clear hx
      obtain ⟨k, hk, rfl, hx⟩ := hrel
      have hx : Hid (Apt w _ [obR b N [] 0]) := hx
      by_cases hlt : k < T
      · have hd : decide ((k : Int) < (T : Int)) = true := by rw [decide_eq_true_eq]; omega
        have hkk : ((k : Int) != (k : Int)) = false := by simp
        clear o2 o3 dr
        go_wp2_with (first | (go_at_call 16; refine (o1 _ _ _ hx.out).mono ?_; rintro e w2 ⟨rfl, h2⟩; clear o1; have h2 : Hid (Apt w w2 [obR b N [(k : Int)] 0]) := h2) | (go_at_call 11; refine (t1 _ _ _ h2.out).mono ?_; rintro e w3 ⟨rfl, h3⟩; clear t1; have h3 : Hid (Apt w w3 [obR b N [] 0]) := h3))
        go_roundw
        case rel => exact ⟨k + 1, by omega, by go_num, h3.out⟩
        case measure => simp [intOf]; omega
      · obtain rfl : k = T := by omega
        have hd : decide ((k : Int) < (k : Int)) = false := by rw [decide_eq_false_iff_not]; omega
        clear o1 t1
        go_wp2_with fail
        go_loopw [10] (fun i wr => ∃ j : Nat, j ≤ N ∧ i = .int .i64 (j : Int) ∧ Apt w wr [obR b N (upto j) 0]) (fun i _ => N - (intOf i).toNat)
        case atStart => exact ⟨0, by omega, rfl, hx.out⟩
        case round =>
          clear hx
          obtain ⟨j, hj, rfl, hx⟩ := hrel
          have hx : Hid (Apt w _ [obR b N (upto j) 0]) := hx
          by_cases hlt2 : j < N
          · have hd2 : decide ((j : Int) < (N : Int)) = true := by rw [decide_eq_true_eq]; omega
            clear o3 dr
            go_wp2_with (first | (go_at_call 20; refine (size_s hx.out (i := 0) rfl).mono ?_; rintro e w' ⟨rfl, hw'⟩; have hw' := hw'.symm; subst hw') | (go_at_call 16; refine (o2 _ _ j hlt2 hx.out).mono ?_; rintro e w2 ⟨rfl, h2⟩; clear o2; have h2 : Hid (Apt w w2 [obR b N (upto (j + 1)) 0]) := h2))
            go_roundw
            case rel => exact ⟨j + 1, by omega, by go_num, h2.out⟩
            case measure => simp [intOf]; omega
          · obtain rfl : j = N := by omega
            have hd2 : decide ((j : Int) < (j : Int)) = false := by rw [decide_eq_false_iff_not]; omega
            clear o2
            go_wp2_with (first | (go_at_call 20; refine (size_s hx.out (i := 0) rfl).mono ?_; rintro e w' ⟨rfl, hw'⟩; have hw' := hw'.symm; subst hw') | (go_at_call 16; refine (o3 _ _ hx.out).mono ?_; rintro e w2 ⟨rfl, h2⟩; clear o3 hx; have h2 : Hid (Apt w w2 [obR b j (upto j) 1]) := h2) | (go_at_call 14; refine (dr _ _ h2.out).mono ?_; rintro e w3 ⟨p, cp, rfl, h3⟩; clear dr h2; have h3 : Hid (Apt w w3 [obR b j [] 1, obV p cp (upto j)]) := h3))
            go_loopw [13] (fun i wr => ∃ m : Nat, m ≤ j ∧ i = .int .i64 (m : Int) ∧ wr = w3) (fun i _ => j - (intOf i).toNat)
            case atStart => exact ⟨0, by omega, rfl, rfl⟩
            case round =>
              obtain ⟨m, hm, rfl, hw3⟩ := hrel
              subst hw3
              by_cases hlt3 : m < j
              · have hd3 : decide ((m : Int) < (j : Int)) = true := by rw [decide_eq_true_eq]; omega
                have hv : Vec wr 3 1 p (upto j).length cp (ivL (upto j)) := h3.out.all 1 _ rfl
                rw [upto_len] at hv
                obtain ⟨B, rfl, lB, cB, _, nB⟩ := hv.opens (by omega)
                have cm : wr.cell? ⟨B, m, none⟩ = some (.int .i64 (m : Int)) := by
                  rw [cB m (by omega)]; unfold ivL; rw [upto_get hlt3]
                have hmm : ((m : Int) != (m : Int)) = false := by simp
                clear hv cB
                go_wp2_with fail
                go_roundw
                case rel => exact ⟨m + 1, by omega, by go_num, trivial⟩
                case measure => simp [intOf]; omega
              · obtain rfl : m = j := by omega
                have hd3 : decide ((m : Int) < (m : Int)) = false := by rw [decide_eq_false_iff_not]; omega
                have c5 : a0 ≤ (m : Int) := by have := H4.out; omega
                go_wp2_with (first | (go_at_call 20; refine (size_s h3.out (i := 0) rfl).mono ?_; rintro e w' ⟨rfl, hw'⟩; have hw' := hw'.symm; subst hw') | (go_at_call 19; refine (lost_s h3.out (i := 0) rfl).mono ?_; rintro e w' ⟨rfl, hw'⟩; have hw' := hw'.symm; subst hw'))
                go_ret
                exact ⟨rfl, h3.out.grown⟩

/-! ### THE ROW's STEP: WRITTEN OUT: LEAVE IT -/
set_option maxRecDepth 100000 in
theorem lifted (os : Os) (started : os.Started) (H : Type) (enc : TypeId × Value → H) :
    ReturnsInHanded {} Try.checked os 5 .any (Rows.ringFillsSpec.pre6 enc Try.prog Try.f5 Rows.ringFillsRow.domain false) (Rows.ringFillsSpec.post enc Try.prog Try.f5 false true false false) := by
  refine returnsInHanded_of_change (C := Try.checked) own started (by kernel_rfl) Try.func5
    (ChangeSpec.witness6 (enc := enc) (C := Try.checked) false ⟨#[], #[.int .i64 0, .int .i64 0], []⟩ 8 (by kernel_rfl) (by kernel_rfl) (by kernel_rfl) (by kernel_rfl)) ?_
  intro W base args ds gs before hval0 hW hcnd _
  have hval : ∀ (j : Nat) t v, Try.f5.params[j]? = some t → args[j]? = some v → Value.okWide Try.prog W .any base t v := hval0
  have hW' := hW
  obtain ⟨p, q, hA0, hV, rfl, hfz, hnd⟩ := hW
  have hA : DataW.TrodAll enc Try.prog W 0 (fun _ => true) true Try.f5.params.toList args.toList ds p := hA0
  rw [Try.params5] at hA hval
  obtain ⟨v0, vs0, d0, ds0, p0, q0, hargs, rfl, rfl, h0, r0⟩ := trodAll_cons hA
  obtain ⟨v1, vs1, d1, ds1, p1, q1, rfl, rfl, rfl, h1, r1⟩ := trodAll_cons r0
  obtain ⟨rfl, rfl, rfl⟩ := trodAll_nil r1
  obtain rfl : args = #[v0, v1] := by cases args; simp_all
  obtain ⟨rfl, rfl⟩ := trodVars_none hV
  obtain ⟨a0, rfl, rfl, rfl, w0⟩ := open_int Try.underlying3 (hval 0 3 v0 rfl rfl) h0
  obtain ⟨a1, rfl, rfl, rfl, w1⟩ := open_int Try.underlying3 (hval 1 3 v1 rfl rfl) h1
  clear hA0 hval0
  simp only [List.append_nil] at hW'
  refine (walk a0 a1 w0 w1 W).mono fun e W' ⟨he, hg⟩ => ?_
  subst he
  exact ⟨_, rfl, post_of_same (pa := []) (pv := []) hW' (fun _ _ _ => (trodAll_cons_mk (shut_bool Try.underlying4 _) trodAll_mk0)) (fun sp _ => (trodAll_cons_mk (shut_int Try.underlying3 w0) (trodAll_cons_mk (shut_int Try.underlying3 w1) trodAll_mk0))) (fun _ _ => rfl) rfl
    (hg.frame _) hg.2.1 (ok_one (by kernel_rfl) rfl (okWide_bool_mk Try.underlying4 _))⟩

theorem over : Rows.ringFillsRow.holds Try.pinned (OpenSpec.ofChange Rows.ringFillsSpec) :=
  OpenClaim.holds_of_wide 5 Try.f5 rfl rfl rfl rfl rfl rfl rfl ⟨rfl, rfl, rfl, rfl, rfl⟩ rfl rfl rfl rfl rfl (by kernel_rfl) Try.func5 (by kernel_rfl)
    (of_decide_eq_true (by kernel_rfl)) (by unfold Func.isWrapper; first | (rw [if_pos (by decide +kernel)]; kernel_rfl) | (rw [if_neg (by decide +kernel)]; exact ⟨rfl, rfl⟩))
    (fun os started H enc _ => lifted os started H enc)

/-- ████ THE STATEMENT ████ -/
theorem proved : Rows.RingFillsSaid :=
  over
end Go.Proofs.Ytkkpopfmknmbgaa.ringFills

namespace Go.Proofs.Ytkkpopfmknmbgaa
/-- The given statement. -/
theorem ringFills_holds : Rows.RingFillsSaid := ringFills.proved
#print axioms ringFills_holds
end Go.Proofs.Ytkkpopfmknmbgaa
