/-
  Proved: pantrylaw06.ArenaFills returns true for every number of nodes and any other number: an arena holds as many as it may, and not one more, and as many again behind drops (P6.1, P6.2). No condition.
-/
import Derived.Test.YtkjnpgpgcikhgaaRows
import Derived.WalkKit
import Derived.ProofKit
import Derived.OpenShut
import Derived.Test.YtkjnpgpgcikhgaaArLaws
import Derived.Deep.CutRange
namespace Go.Proofs.Ytkjnpgpgcikhgaa.arenaFills
open Go.ChangeShapes Go.WideShapes Go.ChangeAt Go.RowKit
set_option linter.unusedVariables false      -- a walk need not use every 'w<i>' (that an integer argument fits its kind)

theorem own : ownKnob Try.prog.godebug = none := by kernel_rfl

/-! ### STEP 1: THE WALK: the Go text returns true. 'Grown w w'': the world has at most new blocks (Derived/RowKit3.lean). Part the cases AHEAD of 'go_enter' where a test parts the walk; take each callee by a contract of your own. -/
set_option maxRecDepth 20000 in set_option maxHeartbeats 8000000 in
theorem walk (a0 : Int) (a1 : Int) (w0 : (Lit.int .i64 a0).wf = true) (w1 : (Lit.int .i64 a1).wf = true) (w : World) :
    Calls Try.prog 5 #[.int .i64 a0, .int .i64 a1] w fun e w' => e = .returned (.bool true) ∧ Grown w w' := by
  clear w0 w1
  have hc : (200 < a0 ∧ a0 < 65536) ∨ (200 < a0 ∧ 65536 ≤ a0) ∨ a0 ≤ 200 := by omega
  rcases hc with ⟨h1, h2⟩ | ⟨h1, h2⟩ | h1
  · have nw := fun w g => new_i a0 w w g
    unfold ptr at nw
    go_enter Try.func5, Try.ntmps5
    go_wp2_with (first | (go_at_call 8; refine (aSmall_any _).mono ?_; rintro e ws ⟨rfl, hgs⟩) | (go_at_call 9; refine (nw _ (Grown.refl _)).mono ?_; rintro e wx ⟨A, rfl, hx⟩))
    go_ret
    exact ⟨rfl, grownTrans hgs hx.old⟩
  · have nw := fun w g => new_i a0 w w g
    have hm : mostI a0 = 65536 := by unfold mostI; omega
    rw [hm] at nw
    have mo := fun W w A p n c f (h : Ari W w A (As.zero 65536) p n c f) => most_i h
    have mo' : ∀ W w A p n c f, Ari W w A (As.zero 65536) p n c f → Calls Try.prog 21 #[ptr A] w fun e w' => e = .returned (.int .i64 65536) ∧ w' = w := mo
    clear mo hm
    unfold ptr at nw mo'
    go_enter Try.func5, Try.ntmps5
    go_wp2_with (first | (go_at_call 8; refine (aSmall_any _).mono ?_; rintro e ws ⟨rfl, hgs⟩) | (go_at_call 9; refine (nw _ (Grown.refl _)).mono ?_; rintro e wx ⟨A, rfl, hx⟩) | (go_at_call 21; refine (mo' _ _ _ _ _ _ _ hx).mono ?_; rintro e w' ⟨rfl, hw'⟩; have hw' := hw'.symm; subst hw'))
    go_ret
    exact ⟨rfl, grownTrans hgs hx.old⟩
  · obtain ⟨N, hN, hN2⟩ : ∃ N : Nat, mostI a0 = N ∧ N ≤ 200 := ⟨_, rfl, by unfold mostI; omega⟩
    have nw := fun w g => new_i a0 w w g
    rw [hN] at nw
    unfold ptr at nw
    have hcase : (a0 < 0 ∧ Hid ((0 : Int) = (N : Int))) ∨ (0 ≤ a0 ∧ Hid (a0 = (N : Int))) := by
      by_cases h : a0 < 0
      · exact Or.inl ⟨h, by show (0 : Int) = N; rw [← hN]; unfold mostI; omega⟩
      · exact Or.inr ⟨by omega, by show a0 = (N : Int); rw [← hN]; unfold mostI; omega⟩
    clear hN
    go_enter Try.func5, Try.ntmps5
    have d1 : decide (200 < a0) = false := by rw [decide_eq_false_iff_not]; omega
    have d2 : decide (65536 ≤ a0) = false := by rw [decide_eq_false_iff_not]; omega
    go_upto_region 7 with (first | (go_at_call 8; refine (aSmall_any _).mono ?_; rintro e ws ⟨rfl, hgs⟩) | (go_at_call 9; refine (nw _ (Grown.refl _)).mono ?_; rintro e wx ⟨A, rfl, hx⟩))
    go_cut [7] from 41 to 42 (fun nv wc => nv = .int .i64 (N : Int) ∧ Ari ws wc A (As.zero N) none 0 0 (fun _ => .int .i64 0))
    case first =>
      rcases hcase with ⟨h2, HN⟩ | ⟨h2, HN⟩
      all_goals
        go_wp2_with fail
        go_meet
        case rel => exact ⟨by rw [← HN.out], hx⟩
    case rest =>
      obtain ⟨rfl, hxc⟩ := hcut
      clear hcase hx nw
      go_wp2_with fail
      go_loopw [8] (fun rv wr => ∃ (r : Nat) (t : As), r ≤ 3 ∧ rv = .int .i64 (r : Int) ∧ t.m = N ∧ Ari ws wr A t none 0 0 (fun _ => .int .i64 0)) (fun rv _ => 3 - (intOf rv).toNat)
      case atStart => exact ⟨0, _, by omega, rfl, rfl, hxc⟩
      case round =>
        clear hxc
        obtain ⟨r, t, hr, rfl, htm, ht⟩ := hrel
        by_cases hlt : r < 3
        · have hd : decide ((r : Int) < 3) = true := by rw [decide_eq_true_eq]; omega
          go_wp2_with fail
          go_loopw [9] (fun _ wi => ∃ t : As, t.m = N ∧ Ari ws wi A t none 0 0 (fun _ => .int .i64 0)) (fun _ wi => N - lenW A wi)
          case atStart => exact ⟨t, htm, ht⟩
          case round =>
            clear ht htm t
            obtain ⟨t, htm, ht⟩ := hrel
            have HT : Hid (Ari ws _ A t none 0 0 (fun _ => .int .i64 0)) := ht
            have hw := ht.wf
            have ln := fun W (h : Ari ws W A t none 0 0 (fun _ => .int .i64 0)) => len_i h
            have pt := fun W (h : Ari ws W A t none 0 0 (fun _ => .int .i64 0)) => put_i h (0, 0)
            by_cases hlen : t.len < N
            · obtain ⟨e1, e2, e3⟩ := As.put_room (t := t) (v := (0, 0)) (by omega)
              have g1 := hw.give_bd (by omega)
              have l1 := As.put_len (v := (0, 0)) hw
              obtain ⟨t', ht'⟩ : ∃ t', t' = t.put (0, 0) := ⟨_, rfl⟩
              have hm' : Hid (t'.m = N) := by show t'.m = N; rw [ht']; exact htm
              rw [← ht'] at l1 e1
              simp only [e1, e2, e3] at pt
              obtain ⟨G, hG⟩ : ∃ G : Int, G = (t.give : Int) := ⟨_, rfl⟩
              simp only [← hG] at pt
              have HL : Hid (N - t'.len < N - t.len) := by show _ < _; omega
              have ln' : ∀ W, Ari ws W A t' none 0 0 (fun _ => .int .i64 0) → Calls Try.prog 19 #[ptr A] W fun e w' => e = .returned (.int .i64 ((t.len : Int) + 1)) ∧ Ari ws w' A t' none 0 0 (fun _ => .int .i64 0) := fun W h => by
                have := len_i h
                rw [l1] at this
                exact this
              obtain ⟨L, hL⟩ : ∃ L : Nat, L = t.len := ⟨_, rfl⟩
              simp only [← hL] at ln ln' hlen
              have q1 : decide ((L : Int) < (N : Int)) = true := by rw [decide_eq_true_eq]; omega
              have q2 : decide (G < 1) = false := by rw [decide_eq_false_iff_not]; omega
              have q3 : decide ((N : Int) < G) = false := by rw [decide_eq_false_iff_not]; omega
              clear hL hG ht' e1 e2 e3 l1 g1 htm hw
              unfold ptr nodeV at *
              go_wp2_with (first | (go_at_call 19; refine (ln _ ht).mono ?_; rintro e w1 ⟨rfl, h1⟩; replace ht := h1; clear h1) | (go_at_call 11; refine (pt _ ht).mono ?_; rintro e w1 ⟨rfl, h1⟩; clear ht) | (go_at_call 19; refine (ln' _ h1).mono ?_; rintro e w4 ⟨rfl, h4⟩))
              go_roundw
              case rel => exact ⟨t', hm'.out, h4⟩
              case measure => rw [h4.lenW, HT.out.lenW]; exact HL.out
            · have hle : t.len = t.m := by have := hw.len_le; omega
              obtain ⟨f1, f2, f3⟩ := hw.full hle
              obtain ⟨e1, e2, e3⟩ := As.put_none (t := t) (v := (0, 0)) (by omega)
              simp only [e1, e2, e3] at pt
              rw [hle, htm] at ln hlen
              have q1 : decide ((N : Int) < (N : Int)) = false := by rw [decide_eq_false_iff_not]; omega
              have q2 : ((N : Int) != (N : Int)) = false := by simp
              have T1 : Hid True := trivial
              rw [htm] at f3
              have HH : Hid (∀ i, 1 ≤ i → i ≤ N → ∃ v, t.s i = some v) := f3
              have hm' : Hid (t.m = N) := htm
              clear e1 e2 e3 hle htm hw f1 f2 f3 HT
              unfold ptr nodeV at *
              go_wp2_with (first | (go_at_call 19; refine (ln _ ht).mono ?_; rintro e w1 ⟨rfl, h1⟩; replace ht := h1; clear h1) | (go_at_call 11; refine (pt _ ht).mono ?_; rintro e w1 ⟨rfl, h1⟩; replace ht := h1; clear h1))
              go_loopw [14] (fun kv wi => ∃ (k : Nat) (t : As), 1 ≤ k ∧ k ≤ N + 1 ∧ kv = .int .i64 (k : Int) ∧ t.m = N ∧ (∀ i, k ≤ i → i ≤ N → ∃ v, t.s i = some v) ∧ Ari ws wi A t none 0 0 (fun _ => .int .i64 0)) (fun kv _ => N + 1 - (intOf kv).toNat)
              case atStart => exact ⟨1, t, by omega, by omega, rfl, hm'.out, HH.out, ht⟩
              case round =>
                clear ht HH hm' ln pt t
                obtain ⟨k, t, hk1, hk2, rfl, htm, hf, ht⟩ := hrel
                by_cases hk : k ≤ N
                · obtain ⟨v, hv⟩ := hf k (Nat.le_refl _) hk
                  have dr := drop_i ht (k : Int)
                  rw [As.err_held hv, As.drop_held hv] at dr
                  have HF : Hid (∀ i, k + 1 ≤ i → i ≤ N → ∃ v, t.s i = some v) := fun i h1 h2 => hf i (by omega) h2
                  have HF' : Hid (∀ i, k + 1 ≤ i → i ≤ N → ∃ v, (t.drop k).s i = some v) := fun i h1 h2 => by
                    obtain ⟨u, hu⟩ := hf i (by omega) h2
                    refine ⟨u, ?_⟩
                    show (if i = k then none else t.s i) = some u
                    rw [if_neg (by omega)]; exact hu
                  have hm' : Hid (t.m = N ∧ (t.drop k).m = N) := ⟨htm, htm⟩
                  have q1 : decide ((k : Int) ≤ (N : Int)) = true := by rw [decide_eq_true_eq]; omega
                  obtain ⟨t', ht'⟩ : ∃ t', t' = t.drop k := ⟨_, rfl⟩
                  rw [← ht'] at dr HF' hm'
                  clear hv hf htm ht'
                  unfold ptr at dr
                  go_wp2_with (first | (go_at_call 13; refine dr.mono ?_; rintro e w1 ⟨rfl, h1⟩))
                  all_goals go_roundw
                  all_goals first | (case rel => first | exact ⟨k + 1, t', by omega, by omega, by go_num, hm'.out.2, HF'.out, h1⟩ | exact ⟨k + 1, t, by omega, by omega, by go_num, hm'.out.1, HF.out, ht⟩) | (case measure => simp [intOf]; omega)
                · have q1 : decide ((k : Int) ≤ (N : Int)) = false := by rw [decide_eq_false_iff_not]; omega
                  clear hf
                  go_wp2_with fail
                  go_roundw
                  case rel => exact ⟨r + 1, t, by omega, by go_num, htm, ht⟩
                  case measure => simp [intOf]; omega
        · obtain rfl : r = 3 := by omega
          go_wp2_with fail
          go_ret
          exact ⟨rfl, grownTrans hgs ht.old⟩

/-! ### THE ROW's STEP: WRITTEN OUT: LEAVE IT -/
set_option maxRecDepth 100000 in
theorem lifted (os : Os) (started : os.Started) (H : Type) (enc : TypeId × Value → H) :
    ReturnsInHanded {} Try.checked os 5 .any (Rows.arenaFillsSpec.pre6 enc Try.prog Try.f5 Rows.arenaFillsRow.domain false) (Rows.arenaFillsSpec.post enc Try.prog Try.f5 false true false false) := by
  refine returnsInHanded_of_change (C := Try.checked) own started (by kernel_rfl) Try.func5
    (ChangeSpec.witness6 (enc := enc) (C := Try.checked) false ⟨#[], #[.int .i64 0, .int .i64 0], []⟩ 8 (by kernel_rfl) (by kernel_rfl) (by kernel_rfl) (by kernel_rfl)) ?_
  intro W base args ds gs before hval0 hW hcnd _
  have hval : ∀ (j : Nat) t v, Try.f5.params[j]? = some t → args[j]? = some v → Value.okWide Try.prog W .any base t v := hval0
  have hW' := hW
  obtain ⟨p, q, hA0, hV, rfl, hfz, hnd⟩ := hW
  have hA : DataW.TrodAll enc Try.prog W 0 (fun _ => true) true Try.f5.params.toList args.toList ds p := hA0
  rw [Try.params5] at hA hval
  obtain ⟨v0, vs0, d0, ds0, p0, q0, hargs, rfl, rfl, h0, r0⟩ := trodAll_cons hA
  obtain ⟨v1, vs1, d1, ds1, p1, q1, rfl, rfl, rfl, h1, r1⟩ := trodAll_cons r0
  obtain ⟨rfl, rfl, rfl⟩ := trodAll_nil r1
  obtain rfl : args = #[v0, v1] := by cases args; simp_all
  obtain ⟨rfl, rfl⟩ := trodVars_none hV
  obtain ⟨a0, rfl, rfl, rfl, w0⟩ := open_int Try.underlying3 (hval 0 3 v0 rfl rfl) h0
  obtain ⟨a1, rfl, rfl, rfl, w1⟩ := open_int Try.underlying3 (hval 1 3 v1 rfl rfl) h1
  clear hA0 hval0
  simp only [List.append_nil] at hW'
  refine (walk a0 a1 w0 w1 W).mono fun e W' ⟨he, hg⟩ => ?_
  subst he
  exact ⟨_, rfl, post_of_same (pa := []) (pv := []) hW' (fun _ _ _ => (trodAll_cons_mk (shut_bool Try.underlying4 _) trodAll_mk0)) (fun sp _ => (trodAll_cons_mk (shut_int Try.underlying3 w0) (trodAll_cons_mk (shut_int Try.underlying3 w1) trodAll_mk0))) (fun _ _ => rfl) rfl
    (hg.frame _) hg.2.1 (ok_one (by kernel_rfl) rfl (okWide_bool_mk Try.underlying4 _))⟩

theorem over : Rows.arenaFillsRow.holds Try.pinned (OpenSpec.ofChange Rows.arenaFillsSpec) :=
  OpenClaim.holds_of_wide 5 Try.f5 rfl rfl rfl rfl rfl rfl rfl ⟨rfl, rfl, rfl, rfl, rfl⟩ rfl rfl rfl rfl rfl (by kernel_rfl) Try.func5 (by kernel_rfl)
    (of_decide_eq_true (by kernel_rfl)) (by unfold Func.isWrapper; first | (rw [if_pos (by decide +kernel)]; kernel_rfl) | (rw [if_neg (by decide +kernel)]; exact ⟨rfl, rfl⟩))
    (fun os started H enc _ => lifted os started H enc)

/-- ████ THE STATEMENT ████ -/
theorem proved : Rows.ArenaFillsSaid :=
  over
end Go.Proofs.Ytkjnpgpgcikhgaa.arenaFills

namespace Go.Proofs.Ytkjnpgpgcikhgaa
/-- The given statement. -/
theorem arenaFills_holds : Rows.ArenaFillsSaid := arenaFills.proved
#print axioms arenaFills_holds
end Go.Proofs.Ytkjnpgpgcikhgaa
