/-
  Proved: pantrylaw14.WritesRoom returns true for every size and every number of events held: as many can be reserved as there is room for, and what is cancelled makes room (P14.2, P14.4). Condition: errors.errorType holds what the program's text lays (tied by the card).
-/
import Derived.Test.YtigmjgmkeoineaaDoorRows
import Derived.WalkKit
import Derived.ProofKit
import Derived.OpenShut
import Derived.Test.YtigmjgmkeoineaaDoorWbSmall
import Derived.Test.YtigmjgmkeoineaaDoorWbRows
import Derived.ShutString
import Derived.ChangeOld
import Derived.Below
import Derived.Test.YtigmjgmkeoineaaDoorGenArgs
import Derived.Test.YtigmjgmkeoineaaDoorWgLaid
import Derived.Test.YtigmjgmkeoineaaDoorTie
import Derived.Test.YtigmjgmkeoineaaDoorCards
import Derived.SevenTiedAt
namespace Go.Proofs.YtigmjgmkeoineaaDoor.writesRoom
open Go.ChangeShapes Go.WideShapes Go.ChangeAt Go.RowKit
set_option linter.unusedVariables false

theorem laidOut : laidOutB Tryd.prog = true := by kernel_rfl

/-! ### The walk: the law returns true, and writes nothing that was there -/
open Go.Proofs.YtigmjgmkeoineaaDoor.Us Go.Proofs.YtigmjgmkeoineaaDoor.Wb in set_option maxRecDepth 100000 in set_option maxHeartbeats 8000000 in
theorem walk (a0 : Int) (a1 : Int) (w : World) (hl : Laid w) (hs : w.ShapedOpen Tryd.prog) (w0 : (Lit.int .i64 a0).wf = true) (w1 : (Lit.int .i64 a1).wf = true) :
    Calls Tryd.prog 5 #[.int .i64 a0, .int .i64 a1] w fun e w' => e = .returned (.bool true) ∧ Grown w w' := by
  clear hs
  clear w0 w1
  have sm := small_s w hl
  obtain ⟨N, n1, n2, e, hb, h4, h5⟩ := size_all a0
  have nw := fun (w1 : World) (g : Grown w w1) => new_s (Apt.none g) a0 n2 e
  clear e h5 h4 hb hl
  unfold ptr at nw
  have hc : 300 < N ∨ (N ≤ 300 ∧ a1 < 0) ∨ (N ≤ 300 ∧ 0 ≤ a1 ∧ (N : Int) < a1) ∨ (N ≤ 300 ∧ 0 ≤ a1 ∧ a1 ≤ (N : Int)) := by omega
  rcases hc with c | ⟨c, c'⟩ | ⟨c, c', c2⟩ | ⟨c, c', c2⟩
  · have d1 : decide (300 < (N : Int)) = true := by rw [decide_eq_true_eq]; omega
    go_enter Tryd.func5, Tryd.ntmps5
    go_wp2_with (first | (go_at_call 7; refine sm.mono ?_; rintro e ws ⟨rfl, hgs⟩; clear sm) | (go_at_call 8; refine (nw _ hgs).mono ?_; rintro e wx ⟨M, rfl, hx⟩; clear nw; have hx : Hid (Apt w wx [obB M N 0 [] 0]) := hx) | (go_at_call 22; refine (size_s hx.out (i := 0) rfl).mono ?_; rintro e w' ⟨rfl, hw'⟩; have hw' := hw'.symm; subst hw'))
    go_ret
    exact ⟨rfl, hx.out.grown⟩
  · have d1 : decide (300 < (N : Int)) = false := by rw [decide_eq_false_iff_not]; omega
    go_enter Tryd.func5, Tryd.ntmps5
    go_wp2_with (first | (go_at_call 7; refine sm.mono ?_; rintro e ws ⟨rfl, hgs⟩; clear sm) | (go_at_call 8; refine (nw _ hgs).mono ?_; rintro e wx ⟨M, rfl, hx⟩; clear nw; have hx : Hid (Apt w wx [obB M N 0 [] 0]) := hx) | (go_at_call 22; refine (size_s hx.out (i := 0) rfl).mono ?_; rintro e w' ⟨rfl, hw'⟩; have hw' := hw'.symm; subst hw'))
    go_ret
    exact ⟨rfl, hx.out.grown⟩
  · have d1 : decide (300 < (N : Int)) = false := by rw [decide_eq_false_iff_not]; omega
    have d2 : decide ((N : Int) < a1) = true := by rw [decide_eq_true_eq]; omega
    have d3 : decide (a1 < 0) = false := by rw [decide_eq_false_iff_not]; omega
    go_enter Tryd.func5, Tryd.ntmps5
    go_wp2_with (first | (go_at_call 7; refine sm.mono ?_; rintro e ws ⟨rfl, hgs⟩; clear sm) | (go_at_call 8; refine (nw _ hgs).mono ?_; rintro e wx ⟨M, rfl, hx⟩; clear nw; have hx : Hid (Apt w wx [obB M N 0 [] 0]) := hx) | (go_at_call 22; refine (size_s hx.out (i := 0) rfl).mono ?_; rintro e w' ⟨rfl, hw'⟩; have hw' := hw'.symm; subst hw'))
    go_ret
    exact ⟨rfl, hx.out.grown⟩
  · obtain ⟨T, rfl⟩ : ∃ T : Nat, a1 = (T : Int) := ⟨a1.toNat, by omega⟩
    have d1 : decide (300 < (N : Int)) = false := by rw [decide_eq_false_iff_not]; omega
    have d2 : decide ((N : Int) < (T : Int)) = false := by rw [decide_eq_false_iff_not]; omega
    have hTN : T ≤ N := by omega
    have d2n : ¬ N < T := by omega
    have d2m : decide (N < T) = false := by rw [decide_eq_false_iff_not]; omega
    have o1 : ∀ M w1 k, k < T → Apt w w1 [obB M N 0 (evs k) 0] → Calls Tryd.prog 11 #[.pointer (some ⟨M + 1, 0, none⟩)] w1 fun e w' => e = .returned .nilIface ∧ Apt w w' [obB M N 0 (evs k) 1] := fun M w1 k hk h => reserve_y h (i := 0) rfl (by rw [evs_len]; omega)
    have m1 : ∀ M w1 k, Apt w w1 [obB M N 0 (evs k) 1] → Calls Tryd.prog 14 #[.pointer (some ⟨M + 1, 0, none⟩), (ev (k : Int)).v] w1 fun e w' => e = .returned (.int .i64 0) ∧ Apt w w' [obB M N 0 (evs (k + 1)) 0] := fun M w1 k h => by
      rw [evs_succ]; exact commit_s h (i := 0) rfl (ev (k : Int)) (by decide)
    have o2 : ∀ M w1 j, T + j < N → Apt w w1 [obB M N 0 (evs T) j] → Calls Tryd.prog 11 #[.pointer (some ⟨M + 1, 0, none⟩)] w1 fun e w' => e = .returned .nilIface ∧ Apt w w' [obB M N 0 (evs T) (j + 1)] := fun M w1 j hk h => reserve_y h (i := 0) rfl (by rw [evs_len]; omega)
    have o3 : ∀ M w1 j, T + j = N → Apt w w1 [obB M N 0 (evs T) j] → Calls Tryd.prog 11 #[.pointer (some ⟨M + 1, 0, none⟩)] w1 fun e w' => ∃ b, e = .returned (.iface 55 (.pointer (some ⟨b, 0, none⟩))) ∧ Apt w w' [obB M N 0 (evs T) j] := fun M w1 j hk h => by
      refine (reserve_n h (i := 0) rfl (by rw [evs_len]; omega)).mono ?_
      rintro e w' ⟨b, rfl, h2⟩
      exact ⟨b, rfl, h2.front⟩
    have k1 : ∀ M w1 j, Apt w w1 [obB M N 0 (evs T) (j + 1)] → Calls Tryd.prog 16 #[.pointer (some ⟨M + 1, 0, none⟩)] w1 fun e w' => e = .returned (.int .i64 0) ∧ Apt w w' [obB M N 0 (evs T) j] := fun M w1 j h => cancel_s h (i := 0) rfl
    have l1 : ∀ M w1, Apt w w1 [obB M N 0 (evs T) 0] → Calls Tryd.prog 20 #[.pointer (some ⟨M + 1, 0, none⟩)] w1 fun e w' => e = .returned (.int .i64 (T : Int)) ∧ w' = w1 := fun M w1 h => by
      have := len_s h (i := 0) rfl
      rwa [evs_len] at this
    go_enter Tryd.func5, Tryd.ntmps5
    go_wp2_with (first | (go_at_call 7; refine sm.mono ?_; rintro e ws ⟨rfl, hgs⟩; clear sm) | (go_at_call 8; refine (nw _ hgs).mono ?_; rintro e wx ⟨M, rfl, hx⟩; clear nw; have hx : Hid (Apt w wx [obB M N 0 [] 0]) := hx) | (go_at_call 22; refine (size_s hx.out (i := 0) rfl).mono ?_; rintro e w' ⟨rfl, hw'⟩; have hw' := hw'.symm; subst hw'))
    go_loopw [7] (fun i wr => ∃ k : Nat, k ≤ T ∧ i = .int .i64 (k : Int) ∧ Apt w wr [obB M N 0 (evs k) 0]) (fun i _ => T - (intOf i).toNat)
    case atStart => exact ⟨0, by omega, rfl, hx.out⟩
    case round =>
      clear hx
      obtain ⟨k, hk, rfl, hx⟩ := hrel
      have hx : Hid (Apt w _ [obB M N 0 (evs k) 0]) := hx
      by_cases hlt : k < T
      · have hd : decide ((k : Int) < (T : Int)) = true := by rw [decide_eq_true_eq]; omega
        clear o2 o3 k1 l1
        go_wp2_with (first | (go_at_call 11; refine (o1 _ _ _ hlt hx.out).mono ?_; rintro e w2 ⟨rfl, h2⟩; clear o1 hx; have h2 : Hid (Apt w w2 [obB M N 0 (evs k) 1]) := h2) | (go_at_call 10; refine (event_s h2.out (k : Int)).mono ?_; rintro e w3 ⟨rfl, h3⟩; clear h2; have h3 : Hid (Apt w w3 [obB M N 0 (evs k) 1]) := h3) | (go_at_call 14; refine (m1 _ _ _ h3.out).mono ?_; rintro e w4 ⟨rfl, h4⟩; clear m1 h3; have h4 : Hid (Apt w w4 [obB M N 0 (evs (k + 1)) 0]) := h4))
        go_roundw
        case rel => exact ⟨k + 1, by omega, by go_num, h4.out⟩
        case measure => simp [intOf]; omega
      · obtain rfl : k = T := by omega
        have hd : decide ((k : Int) < (k : Int)) = false := by rw [decide_eq_false_iff_not]; omega
        clear o1 m1
        go_wp2_with fail
        go_loopw [8, 9, 10] (fun i _ _ wr => ∃ j : Nat, j ≤ 2 ∧ i = .int .i64 (j : Int) ∧ Apt w wr [obB M N 0 (evs k) 0]) (fun i _ _ _ => 2 - (intOf i).toNat)
        case atStart => exact ⟨0, by omega, rfl, hx.out⟩
        case round =>
          clear hx
          obtain ⟨j, hj, rfl, hx⟩ := hrel
          have hx : Hid (Apt w _ [obB M N 0 (evs k) 0]) := hx
          by_cases hlt2 : j < 2
          · have hd2 : decide ((j : Int) < 2) = true := by rw [decide_eq_true_eq]; omega
            clear l1
            go_wp2_with fail
            go_loopw [9] (fun i wr => ∃ n : Nat, k + n ≤ N ∧ i = .int .i64 (n : Int) ∧ Apt w wr [obB M N 0 (evs k) n]) (fun i _ => N - (intOf i).toNat)
            case atStart => exact ⟨0, by omega, rfl, hx.out⟩
            case round =>
              clear hx
              obtain ⟨n, hn, rfl, hx⟩ := hrel
              have hx : Hid (Apt w _ [obB M N 0 (evs k) n]) := hx
              have hd3 : decide ((n : Int) ≤ (N : Int)) = true := by rw [decide_eq_true_eq]; omega
              by_cases hlt3 : k + n < N
              · clear o3 k1
                go_wp2_with (first | (go_at_call 22; refine (size_s hx.out (i := 0) rfl).mono ?_; rintro e w' ⟨rfl, hw'⟩; have hw' := hw'.symm; subst hw') | (go_at_call 11; refine (o2 _ _ _ hlt3 hx.out).mono ?_; rintro e w2 ⟨rfl, h2⟩; clear o2 hx; have h2 : Hid (Apt w w2 [obB M N 0 (evs k) (n + 1)]) := h2))
                go_roundw
                case rel => exact ⟨n + 1, by omega, by go_num, h2.out⟩
                case measure => simp [intOf]; omega
              · have hn3 : k + n = N := by omega
                have hd4 : ((n : Int) != (N : Int) - (k : Int)) = false := by simp; omega
                have hd5 : ((n : Int) != (n : Int)) = false := by simp
                clear o2
                go_wp2_with (first | (go_at_call 22; refine (size_s hx.out (i := 0) rfl).mono ?_; rintro e w' ⟨rfl, hw'⟩; have hw' := hw'.symm; subst hw') | (go_at_call 11; refine (o3 _ _ _ hn3 hx.out).mono ?_; rintro e w2 ⟨b, rfl, h2⟩; clear o3 hx; have h2 : Hid (Apt w w2 [obB M N 0 (evs k) n]) := h2) | (go_at_call 22; refine (size_s h2.out (i := 0) rfl).mono ?_; rintro e w' ⟨rfl, hw'⟩; have hw' := hw'.symm; subst hw') | (go_at_call 21; refine (reserved_s h2.out (i := 0) rfl).mono ?_; rintro e w' ⟨rfl, hw'⟩; have hw' := hw'.symm; subst hw'))
                go_loopw [10] (fun i wr => ∃ m p : Nat, m + p = n ∧ i = .int .i64 (m : Int) ∧ Apt w wr [obB M N 0 (evs k) p]) (fun i _ => n - (intOf i).toNat)
                case atStart => exact ⟨0, n, by omega, rfl, h2.out⟩
                case round =>
                  clear h2
                  obtain ⟨m, p, hm, rfl, hx⟩ := hrel
                  have hx : Hid (Apt w _ [obB M N 0 (evs k) p]) := hx
                  cases p with
                  | succ p =>
                    have hd6 : decide ((m : Int) < (n : Int)) = true := by rw [decide_eq_true_eq]; omega
                    go_wp2_with (first | (go_at_call 16; refine (k1 _ _ _ hx.out).mono ?_; rintro e w2 ⟨rfl, h2⟩; clear k1 hx; have h2 : Hid (Apt w w2 [obB M N 0 (evs k) p]) := h2))
                    go_roundw
                    case rel => exact ⟨m + 1, p, by omega, by go_num, h2.out⟩
                    case measure => simp [intOf]; omega
                  | zero =>
                    have hd6 : decide ((m : Int) < (n : Int)) = false := by rw [decide_eq_false_iff_not]; omega
                    go_wp2_with fail
                    go_roundw
                    case rel => exact ⟨j + 1, by omega, by go_num, hx.out⟩
                    case measure => simp [intOf]; omega
          · have hd2 : decide ((j : Int) < 2) = false := by rw [decide_eq_false_iff_not]; omega
            go_wp2_with (first | (go_at_call 20; refine (l1 _ _ hx.out).mono ?_; rintro e w' ⟨rfl, hw'⟩; have hw' := hw'.symm; subst hw') | (go_at_call 21; refine (reserved_s hx.out (i := 0) rfl).mono ?_; rintro e w' ⟨rfl, hw'⟩; have hw' := hw'.symm; subst hw'))
            go_ret
            exact ⟨rfl, hx.out.grown⟩

/-! ### The row's step -/
set_option maxRecDepth 100000 in
theorem lifted (os : Os) (started : os.Started) (H : Type) (enc : TypeId × Value → H) :
    ReturnsInHanded {} Tryd.checked os 5 .any (fun w args => (Rows.writesRoomSpec.pre enc Tryd.prog Tryd.f5 [] false w args ∧ laidMetH Tryd.prog [("errors.errorType", Rows.laid_errors_errorType)] w) ∧ sizedMet enc Tryd.prog Tryd.f5 (OpenSpec.ofChange Rows.writesRoomSpec) false w args) (Rows.writesRoomSpec.post enc Tryd.prog Tryd.f5 false true false false) := by
  refine returns_shaped (C := Tryd.checked) (X := fun w _ => laidMetH Tryd.prog [("errors.errorType", Rows.laid_errors_errorType)] w) (fun _ _ _ hh h => h.of_heap hh) Tryd.own started (by kernel_rfl) Tryd.func5
    (ChangeSpec.witness_at (enc := enc) (C := Tryd.checked) (os := os) (X := fun w _ => laidMetH Tryd.prog [("errors.errorType", Rows.laid_errors_errorType)] w) false (laidWorld os) #[.int .i64 0, .int .i64 0] 8 rfl (by kernel_rfl) (by kernel_rfl) (by kernel_rfl) (by kernel_rfl) (by kernel_rfl) (laidWorld_met os _)) ?_
  intro W base args ds gs before hval0 hW hcnd hL hsh
  have hval : ∀ (j : Nat) t v, Tryd.f5.params[j]? = some t → args[j]? = some v → Value.okWide Tryd.prog W .any base t v := hval0
  have hW' := hW
  obtain ⟨p, q, hA0, hV, rfl, hfz, hnd⟩ := hW
  have hA : DataW.TrodAll enc Tryd.prog W 0 (fun _ => true) true Tryd.f5.params.toList args.toList ds p := hA0
  rw [Tryd.params5] at hA hval
  obtain ⟨v0, vs0, d0, ds0, p0, q0, hargs, rfl, rfl, h0, r0⟩ := trodAll_cons hA
  obtain ⟨v1, vs1, d1, ds1, p1, q1, rfl, rfl, rfl, h1, r1⟩ := trodAll_cons r0
  obtain ⟨rfl, rfl, rfl⟩ := trodAll_nil r1
  obtain rfl : args = #[v0, v1] := by cases args; simp_all
  obtain ⟨rfl, rfl⟩ := trodVars_none hV
  obtain ⟨a0, rfl, rfl, rfl, w0⟩ := open_int Tryd.underlying3 (hval 0 3 v0 rfl rfl) h0
  obtain ⟨a1, rfl, rfl, rfl, w1⟩ := open_int Tryd.underlying3 (hval 1 3 v1 rfl rfl) h1
  clear hA0 hval0
  refine (walk a0 a1 W (laid_of_met hL) hsh w0 w1).mono fun e W' ⟨he, bel⟩ => ?_
  subst he
  exact ⟨_, rfl, _, _, _, [], _, [], hW', trodAll_mk1 (shut_bool Tryd.underlying4 _), (trodAll_cons_mk (shut_int Tryd.underlying3 w0) (trodAll_cons_mk (shut_int Tryd.underlying3 w1) trodAll_mk0)), rfl, bel.frame _, fun h => by cases h⟩

theorem over : Rows.writesRoomRow.holds Tryd.pinned (OpenSpec.ofChange Rows.writesRoomSpec) :=
  OpenClaim.holds_of_wide 5 Tryd.f5 rfl rfl rfl rfl rfl rfl rfl ⟨rfl, rfl, rfl, rfl, rfl⟩ rfl rfl rfl rfl rfl (by kernel_rfl) Tryd.func5 (by kernel_rfl)
    (of_decide_eq_true (by kernel_rfl)) (by unfold Func.isWrapper; first | (rw [if_pos (by decide +kernel)]; kernel_rfl) | (rw [if_neg (by decide +kernel)]; exact ⟨rfl, rfl⟩))
    (fun os started H enc _ => lifted os started H enc)

/-- The card. -/
theorem proved : Rows.WritesRoomCardSaid :=
  Claim7.holds_tied_plain_at .later [] [.handle] true (true, "2722ad2fa73c23a01c9272db080880642b41ed3927dea9d586d89d666420e5f9") true
    over (fun _ h => by cases h) (by kernel_rfl) (fun _ h => by cases h) writesRoom_row_tie rfl ⟨rfl, rfl⟩ (by kernel_rfl) rfl
    (fun f fn hf hfn => by
      obtain rfl : f = 5 := Option.some.inj ((show Tryd.prog.funcNamed "pantry/pantrylaw14.WritesRoom" = some 5 by kernel_rfl).symm.trans hf) |>.symm
      obtain rfl : fn = Tryd.f5 := (Option.some.inj (Tryd.func5.symm.trans hfn)).symm
      exact ⟨by kernel_rfl, fun j t ht => noStandIn (by kernel_rfl) ht⟩)
    (by kernel_rfl)
end Go.Proofs.YtigmjgmkeoineaaDoor.writesRoom

namespace Go.Proofs.YtigmjgmkeoineaaDoor
/-- The given statement. -/
theorem writesRoom_holds : Rows.WritesRoomCardSaid := writesRoom.proved
#print axioms writesRoom_holds
end Go.Proofs.YtigmjgmkeoineaaDoor
