/-
  Proved: pantrylaw11.PolicyHot returns true for every capacity, every seed, any events and any number: a read lets none go, changes no weight, and lets a node be in the window only if it was. No condition.
-/
import Derived.Test.YtlmcopenbeammaaGreatRows
import Derived.WalkKit
import Derived.ProofKit
import Derived.OpenShut
import Derived.Test.YtlmcopenbeammaaGreatPoHot
import Derived.ShutString
import Derived.ChangeOld
import Derived.Below
import Derived.Test.YtlmcopenbeammaaGreatGenArgs
namespace Go.Proofs.YtlmcopenbeammaaGreat.policyHot
open Go.ChangeShapes Go.WideShapes Go.ChangeAt Go.RowKit
set_option linter.unusedVariables false

theorem own : ownKnob Tryz.prog.godebug = none := by kernel_rfl
theorem laidOut : laidOutB Tryz.prog = true := by kernel_rfl

/-! ### The walk: the law returns true, and writes nothing that was there -/
open Go.Proofs.YtlmcopenbeammaaGreat.Po Go.Deep in set_option maxRecDepth 100000 in set_option maxHeartbeats 8000000 in
theorem walk (a0 : Int) (a1 : Int) (a2 : Option Addr) (len2 cap2 : Nat) (z2 : Nat → Nat → Int) (a3 : Int) (w : World) (w0 : (Lit.int .i64 a0).wf = true) (w1 : (Lit.int .i64 a1).wf = true) (w2 : IsGrid .i64 4 w a2 len2 cap2 z2) (w3 : (Lit.int .i64 a3).wf = true) :
    Calls Tryz.prog 4 #[.int .i64 a0, .int .i64 a1, .slice a2 len2 cap2, .int .i64 a3] w fun e w' => e = .returned (.bool true) ∧ Grown w w' := by
  have SM := fun w => small_q w
  by_cases hl : 200 < len2
  · have d3 : decide (200 < (len2 : Int)) = true := by rw [decide_eq_true_eq]; omega
    go_enter Tryz.func4, Tryz.ntmps4
    go_wp2_with (first | (go_at_call 6; refine (SM _).mono ?_; rintro e w1 ⟨rfl, g1⟩))
    go_ret
    exact ⟨rfl, g1⟩
  have d3 : decide (200 < (len2 : Int)) = false := by rw [decide_eq_false_iff_not]; omega
  by_cases hc : a0 < 0
  · have d4 : decide (a0 < 0) = true := by simpa using hc
    go_enter Tryz.func4, Tryz.ntmps4
    go_wp2_with (first | (go_at_call 6; refine (SM _).mono ?_; rintro e w1 ⟨rfl, g1⟩))
    go_ret
    exact ⟨rfl, g1⟩
  have d4 : decide (a0 < 0) = false := by simpa using hc
  by_cases hd : 512 < a0
  · have d5 : decide (512 < a0) = true := by simpa using hd
    go_enter Tryz.func4, Tryz.ntmps4
    go_wp2_with (first | (go_at_call 6; refine (SM _).mono ?_; rintro e w1 ⟨rfl, g1⟩))
    go_ret
    exact ⟨rfl, g1⟩
  have d5 : decide (512 < a0) = false := by simpa using hd
  have NW := fun w => new_p a0 a1 w
  have hcap : wh (wh a0) = wh a0 := wh_wh a0
  obtain ⟨C, hCC⟩ : ∃ C, C = wh a0 := ⟨_, rfl⟩
  obtain ⟨mw, hmw⟩ : ∃ m, m = mwid a0 := ⟨_, rfl⟩
  rw [← hCC] at hcap
  simp only [← hCC, ← hmw] at NW
  have hZ := zero_fine hcap
  obtain ⟨q1, q2, q3, q4⟩ := pl_ok (C := C) (seed := a1) (mw := mw) (z := z2) hZ (show (0 : Int) ≤ (Ps.zero C).f.a from Int.le_refl _) len2
  have q3 : (pl C a1 mw z2 (Ps.zero C) len2).1.f.a ≤ 200 := by have : (Ps.zero C).f.a = 0 := rfl; omega
  obtain ⟨S, hS⟩ : ∃ S, S = (pl C a1 mw z2 (Ps.zero C) len2).1 := ⟨_, rfl⟩
  rw [← hS] at q1 q2 q3
  have PL : Hid (∀ (W : World) A Φ, Pol W A Φ C a1 mw (Ps.zero C) → Grown w W → (∀ j, Φ j → w.heap.size ≤ j) → Calls Tryz.prog 8 #[.pointer (some ⟨A, 0, none⟩), .slice a2 len2 cap2] W fun e w' => ∃ v Φ', e = .returned v ∧ Pol w' A Φ' C a1 mw S ∧ Grown w w' ∧ ∀ j, Φ' j → w.heap.size ≤ j) := fun W A Φ h g hb => by
    obtain ⟨b, hb1, hb2⟩ := evs_in1 w2 g hb (fun j hj => h.lt hj)
    refine (play_q h hZ ⟨Int.le_refl _, by show (0 : Int) ≤ 1152921504606846976; omega⟩ a2 len2 cap2 b z2 hb1 hb2 (by omega)).mono ?_
    rintro e w' ⟨p, l, c, Φ', rfl, _, _, hp, hs, _⟩
    exact ⟨_, Φ', rfl, by rw [hS]; exact hp, (hs.keeps g hb).1, (hs.keeps g hb).2⟩
  have RW : Hid (∀ (W : World) A Φ (Y : Ps) (k : Nat), Pol W A Φ C a1 mw Y → Fine C Y → Calls Tryz.prog 11 #[.pointer (some ⟨A, 0, none⟩), .int .i64 k] W fun e w' => ∃ p c n, e = .returned (.slice p n c) ∧ Grown W w' ∧ Hid (n = ((Y.t.L k).map (·.1)).length ∧ n ≤ 1000000 ∧ Vec w' 3 1 p n c (idL ((Y.t.L k).map (·.1))))) := fun W A Φ Y k h hf => by
    refine (row_q h (k : Int)).mono ?_
    rintro e w' ⟨p, c, n, rfl, hn, hv, hg, _⟩
    rw [rowI_nat] at hn hv
    have := hf.wf.lenD k
    exact ⟨p, c, n, rfl, hg, by rw [List.length_map]; exact hn, by omega, hv⟩
  have HS : Hid (Fine C S) := q1
  have HA : Hid (0 ≤ S.f.a ∧ S.f.a ≤ 2305843009213693952) := ⟨q2, by omega⟩
  obtain ⟨T, hT⟩ : ∃ T, T = S.t.tot 3 := ⟨_, rfl⟩
  have WT : Hid (∀ (W : World) A Φ (Y : Ps), Pol W A Φ C a1 mw Y → Y.t.tot 3 = T → Calls Tryz.prog 12 #[.pointer (some ⟨A, 0, none⟩)] W fun e w' => e = .returned (.int .i64 T) ∧ Grown W w') := fun W A Φ Y h ht => by
    have := q1.tot
    have hcc := wh_le C
    rw [hcap] at hcc
    rw [← ht]
    exact weight_q h (by rw [ht, hT]; omega)
  have HT : Hid (T = S.t.tot 3) := hT
  have HW : Hid (∀ Y : Ps, Y.t.Wf → Y.t.n = 3 → wasAt Y.t a3 0 = -1 ∧ wasAt Y.t a3 3 = Y.t.ofL a3) := fun Y h hn => ⟨wasAt_zero h hn a3, wasAt_three h hn a3⟩
  have hrg := ofL_range q1.wf q1.n a3
  have HI : Hid ((Lit.int .i64 a3).wf = true) := w3
  clear hc hd hl hcap hZ q2 q3 q4 hS hCC hmw hT w2 w3
  unfold ptr at NW
  go_enter Tryz.func4, Tryz.ntmps4
  go_wp2_with (first | (go_at_call 6; refine (SM _).mono ?_; rintro e ws ⟨rfl, g1⟩) | (go_at_call 7; refine (NW _).mono ?_; rintro e wn ⟨A, Φ, rfl, P2, g2, b2⟩; have gg := grownTrans g1 g2) | (go_at_call 8; refine (PL.out _ A Φ P2 gg (fun j hj => Nat.le_trans g1.2.2 (b2 j hj))).mono ?_; rintro e wp ⟨v3, Φ3, rfl, P3, g3, b3⟩))
  go_loopw [11, 12] (fun s i wq => ∃ j : Nat, j ≤ 3 ∧ s = .int .i64 (wasAt S.t a3 j) ∧ i = .int .i64 j ∧ Hid (Pol wq A Φ3 C a1 mw S ∧ Grown w wq)) (fun _ i _ => 3 - (intOf i).toNat)
  case atStart => exact ⟨0, by omega, by rw [(HW.out S q1.wf q1.n).1], rfl, P3, g3⟩
  case round =>
    clear P3 g3 P2 gg g2 b2 PL NW
    obtain ⟨j, hj, rfl, rfl, HP⟩ := hrel
    by_cases hlt3 : j < 3
    · have hd3 : decide ((j : Int) < 3) = true := by rw [decide_eq_true_eq]; omega
      have HNX := wasAt_next (t := S.t) a3 j
      have HOI := ofL_iff q1.wf (k := j) a3
      have RJ := RW.out wr A Φ3 S j HP.out.1 q1
      by_cases hin : S.t.ofL a3 = (j : Int)
      · have hmem : decide (a3 ∈ (S.t.L j).map (·.1)) = true := by rw [decide_eq_true_eq]; exact HOI.2 hin
        rw [if_pos hin] at HNX
        have HX : Hid (wasAt S.t a3 (j + 1) = (j : Int)) := HNX
        obtain ⟨D, hD⟩ : ∃ D, D = (S.t.L j).map (·.1) := ⟨_, rfl⟩
        rw [← hD] at hmem RJ
        obtain ⟨wa, hwa⟩ : ∃ x, x = wasAt S.t a3 j := ⟨_, rfl⟩
        rw [← hwa]
        clear HNX HOI hin hD hwa hrg
        go_wp2_with (first | (go_at_call 11; refine RJ.mono ?_; clear RJ; rintro e w5 ⟨p5, c5, n5, rfl, g5, H5⟩) | (go_at_call 14; refine (has_q H5.out.2.2 H5.out.1 H5.out.2.1 a3).mono ?_; rintro e w6 ⟨rfl, hw6⟩; rw [hmem]; have hw6 := hw6.symm; subst hw6))
        go_roundw
        case rel => exact ⟨j + 1, by omega, by rw [HX.out], by go_num, HP.out.1.grown g5, grownTrans HP.out.2 g5⟩
        case measure => simp [intOf]; omega
      · have hmem : decide (a3 ∈ (S.t.L j).map (·.1)) = false := by rw [decide_eq_false_iff_not]; exact fun h => hin (HOI.1 h)
        rw [if_neg hin] at HNX
        have HX : Hid (wasAt S.t a3 (j + 1) = wasAt S.t a3 j) := HNX
        obtain ⟨D, hD⟩ : ∃ D, D = (S.t.L j).map (·.1) := ⟨_, rfl⟩
        rw [← hD] at hmem RJ
        obtain ⟨wa, hwa⟩ : ∃ x, x = wasAt S.t a3 j := ⟨_, rfl⟩
        have HWA : Hid (wa = wasAt S.t a3 j) := hwa
        rw [← hwa]
        clear HNX HOI hin hD hwa hrg
        go_wp2_with (first | (go_at_call 11; refine RJ.mono ?_; clear RJ; rintro e w5 ⟨p5, c5, n5, rfl, g5, H5⟩) | (go_at_call 14; refine (has_q H5.out.2.2 H5.out.1 H5.out.2.1 a3).mono ?_; rintro e w6 ⟨rfl, hw6⟩; rw [hmem]; have hw6 := hw6.symm; subst hw6))
        go_roundw
        case rel => exact ⟨j + 1, by omega, by rw [HX.out, ← HWA.out], by go_num, HP.out.1.grown g5, grownTrans HP.out.2 g5⟩
        case measure => simp [intOf]; omega
    · obtain rfl : j = 3 := by omega
      rw [(HW.out S q1.wf q1.n).2]
      have DO := fun W (h : Pol W A Φ3 C a1 mw S) => do_q h HS.out HA.out 2 a3 0 0 HI.out
      have WS := fun W (h : Pol W A Φ3 C a1 mw S) => WT.out W A Φ3 S h HT.out.symm
      rcases hrg with ⟨o1, hf⟩ | ⟨o1, o2, hf⟩
      · have hk : (S.k a3).isSome = false := by rw [q1.keys]; exact hf
        have er : refE S C 2 a3 0 = 3 := by unfold refE; rw [if_neg (by decide), if_pos (.inl rfl), hk]; rfl
        have ee : S.ev C a1 mw 2 a3 0 0 = (S, []) := by unfold Ps.ev; rw [if_neg (by rw [er]; decide)]
        rw [ee, er] at DO
        rw [o1]
        clear hf hk er ee o1
        unfold evV ptr at DO
        go_wp2_with (first | (go_at_call 12; with_reducible refine (WS _ HP.out.1).mono ?_; rintro e w7 ⟨rfl, g7⟩; have P7 := HP.out.1.grown g7) | (go_at_call 9; refine (DO _ P7).mono ?_; rintro e w8 ⟨p8, g8, c8, Φ8, rfl, hg8, _, _, hs8, _⟩; replace hg8 : g8 = 0 := hg8; subst hg8; have k8 := hs8.keeps (grownTrans HP.out.2 g7) b3))
        go_ret
        exact ⟨rfl, k8.1⟩
      · have hk : (S.k a3).isSome = true := by rw [q1.keys]; exact hf
        have er : refE S C 2 a3 0 = 0 := by unfold refE; rw [if_neg (by decide), if_pos (.inl rfl), hk]; rfl
        have ee : S.ev C a1 mw 2 a3 0 0 = (S.rd C a1 mw a3, []) := by unfold Ps.ev; rw [if_pos er, if_neg (by decide), if_neg (by decide), if_pos rfl]
        rw [ee, er] at DO
        obtain ⟨rr1, rr2⟩ := rd_row (seed := a1) (mw := mw) q1 hf
        have hfr := q1.rd (seed := a1) (mw := mw) a3
        have hsm := (rd_sm (C := C) (seed := a1) (mw := mw) q1.wf a3).tot
        rw [q1.n] at hsm
        obtain ⟨R, hR⟩ : ∃ R, R = S.rd C a1 mw a3 := ⟨_, rfl⟩
        rw [← hR] at DO rr1 rr2 hfr hsm
        obtain ⟨o, ho⟩ : ∃ o, o = S.t.ofL a3 := ⟨_, rfl⟩
        rw [← ho] at o1 rr1 ⊢
        have hob : decide (o < 0) = false := by rw [decide_eq_false_iff_not]; omega
        have HRR : Hid ((o = 0 ↔ R.t.ofL a3 = 0) ∧ Fine C R ∧ R.t.tot 3 = T) := ⟨rr1, hfr, hsm.trans HT.out.symm⟩
        clear hf hk er ee o1 o2 rr1 rr2 hfr hsm hR ho
        unfold evV ptr at DO
        go_wp2_with (first | (go_at_call 12; with_reducible refine (WS _ HP.out.1).mono ?_; rintro e w7 ⟨rfl, g7⟩; have P7 := HP.out.1.grown g7) | (go_at_call 9; refine (DO _ P7).mono ?_; rintro e w8 ⟨p8, g8, c8, Φ8, rfl, hg8, _, P8, hs8, _⟩; replace hg8 : g8 = 0 := hg8; subst hg8; have k8 := (hs8.keeps (grownTrans HP.out.2 g7) b3).1))
        go_loopw [16, 17] (fun s i wq => ∃ j : Nat, j ≤ 3 ∧ s = .int .i64 (wasAt R.t a3 j) ∧ i = .int .i64 j ∧ Hid (Pol wq A Φ8 C a1 mw R ∧ Grown w wq)) (fun _ i _ => 3 - (intOf i).toNat)
        case atStart => exact ⟨0, by omega, by rw [(HW.out R HRR.out.2.1.wf HRR.out.2.1.n).1], rfl, P8, k8⟩
        case round =>
          clear P8 k8 P7 g7 DO WS hs8
          obtain ⟨j, hj, rfl, rfl, HQ⟩ := hrel
          by_cases hlt3 : j < 3
          · have hd3 : decide ((j : Int) < 3) = true := by rw [decide_eq_true_eq]; omega
            have HNX := wasAt_next (t := R.t) a3 j
            have HOI := ofL_iff HRR.out.2.1.wf (k := j) a3
            have RJ := RW.out wr A Φ8 R j HQ.out.1 HRR.out.2.1
            by_cases hin : R.t.ofL a3 = (j : Int)
            · have hmem : decide (a3 ∈ (R.t.L j).map (·.1)) = true := by rw [decide_eq_true_eq]; exact HOI.2 hin
              rw [if_pos hin] at HNX
              have HX : Hid (wasAt R.t a3 (j + 1) = (j : Int)) := HNX
              obtain ⟨D, hD⟩ : ∃ D, D = (R.t.L j).map (·.1) := ⟨_, rfl⟩
              rw [← hD] at hmem RJ
              obtain ⟨wa, hwa⟩ : ∃ x, x = wasAt R.t a3 j := ⟨_, rfl⟩
              rw [← hwa]
              clear HNX HOI hin hD hwa
              go_wp2_with (first | (go_at_call 11; refine RJ.mono ?_; clear RJ; rintro e w5 ⟨p5, c5, n5, rfl, g5, H5⟩) | (go_at_call 14; refine (has_q H5.out.2.2 H5.out.1 H5.out.2.1 a3).mono ?_; rintro e w6 ⟨rfl, hw6⟩; rw [hmem]; have hw6 := hw6.symm; subst hw6))
              go_roundw
              case rel => exact ⟨j + 1, by omega, by rw [HX.out], by go_num, HQ.out.1.grown g5, grownTrans HQ.out.2 g5⟩
              case measure => simp [intOf]; omega
            · have hmem : decide (a3 ∈ (R.t.L j).map (·.1)) = false := by rw [decide_eq_false_iff_not]; exact fun h => hin (HOI.1 h)
              rw [if_neg hin] at HNX
              have HX : Hid (wasAt R.t a3 (j + 1) = wasAt R.t a3 j) := HNX
              obtain ⟨D, hD⟩ : ∃ D, D = (R.t.L j).map (·.1) := ⟨_, rfl⟩
              rw [← hD] at hmem RJ
              obtain ⟨wa, hwa⟩ : ∃ x, x = wasAt R.t a3 j := ⟨_, rfl⟩
              have HWA : Hid (wa = wasAt R.t a3 j) := hwa
              rw [← hwa]
              clear HNX HOI hin hD hwa
              go_wp2_with (first | (go_at_call 11; refine RJ.mono ?_; clear RJ; rintro e w5 ⟨p5, c5, n5, rfl, g5, H5⟩) | (go_at_call 14; refine (has_q H5.out.2.2 H5.out.1 H5.out.2.1 a3).mono ?_; rintro e w6 ⟨rfl, hw6⟩; rw [hmem]; have hw6 := hw6.symm; subst hw6))
              go_roundw
              case rel => exact ⟨j + 1, by omega, by rw [HX.out, ← HWA.out], by go_num, HQ.out.1.grown g5, grownTrans HQ.out.2 g5⟩
              case measure => simp [intOf]; omega
          · obtain rfl : j = 3 := by omega
            rw [(HW.out R HRR.out.2.1.wf HRR.out.2.1.n).2]
            have WR := WT.out _ A Φ8 R HQ.out.1 HRR.out.2.2
            obtain ⟨o', ho'⟩ : ∃ o', o' = R.t.ofL a3 := ⟨_, rfl⟩
            have hh : (o == 0) = (o' == 0) := by
              have := HRR.out.1
              rw [← ho'] at this
              rw [Bool.eq_iff_iff, beq_iff_eq, beq_iff_eq]
              exact this
            rw [← ho']
            clear ho'
            by_cases hz : o = 0
            · have z1 : (o == 0) = true := by simpa using hz
              have z2' : (o' == 0) = true := by rw [← hh]; exact z1
              clear hh hz
              go_wp2_with (go_at_call 12; refine WR.mono ?_; clear WR; rintro e w9 ⟨rfl, g9⟩)
              go_ret
              exact ⟨rfl, grownTrans HQ.out.2 g9⟩
            · have z1 : (o == 0) = false := by simpa using hz
              have z2' : (o' == 0) = false := by rw [← hh]; exact z1
              clear hh hz
              go_wp2_with (go_at_call 12; refine WR.mono ?_; clear WR; rintro e w9 ⟨rfl, g9⟩)
              go_ret
              exact ⟨rfl, grownTrans HQ.out.2 g9⟩

/-! ### The row's step -/
set_option maxRecDepth 100000 in
theorem lifted (os : Os) (started : os.Started) (H : Type) (enc : TypeId × Value → H) :
    ReturnsInHanded {} Tryz.checked os 4 .any (Rows.policyHotSpec.pre6 enc Tryz.prog Tryz.f4 Rows.policyHotRow.domain false) (Rows.policyHotSpec.post enc Tryz.prog Tryz.f4 false true false false) := by
  refine returnsInHanded_of_change (C := Tryz.checked) own started (by kernel_rfl) Tryz.func4
    (ChangeSpec.witness6 (enc := enc) (C := Tryz.checked) false ⟨#[], #[.int .i64 0, .int .i64 0, .slice none 0 0, .int .i64 0], []⟩ 8 (by kernel_rfl) (by kernel_rfl) (by kernel_rfl) (by kernel_rfl)) ?_
  intro W base args ds gs before hval0 hW hcnd _
  have hval : ∀ (j : Nat) t v, Tryz.f4.params[j]? = some t → args[j]? = some v → Value.okWide Tryz.prog W .any base t v := hval0
  have hW' := hW
  obtain ⟨p, q, hA0, hV, rfl, hfz, hnd⟩ := hW
  have hA : DataW.TrodAll enc Tryz.prog W 0 (fun _ => true) true Tryz.f4.params.toList args.toList ds p := hA0
  rw [Tryz.params4] at hA hval
  obtain ⟨v0, vs0, d0, ds0, p0, q0, hargs, rfl, rfl, h0, r0⟩ := trodAll_cons hA
  obtain ⟨v1, vs1, d1, ds1, p1, q1, rfl, rfl, rfl, h1, r1⟩ := trodAll_cons r0
  obtain ⟨v2, vs2, d2, ds2, p2, q2, rfl, rfl, rfl, h2, r2⟩ := trodAll_cons r1
  obtain ⟨v3, vs3, d3, ds3, p3, q3, rfl, rfl, rfl, h3, r3⟩ := trodAll_cons r2
  obtain ⟨rfl, rfl, rfl⟩ := trodAll_nil r3
  obtain rfl : args = #[v0, v1, v2, v3] := by cases args; simp_all
  obtain ⟨rfl, rfl⟩ := trodVars_none hV
  obtain ⟨a0, rfl, rfl, rfl, w0⟩ := open_int Tryz.underlying3 (hval 0 3 v0 rfl rfl) h0
  obtain ⟨a1, rfl, rfl, rfl, w1⟩ := open_int Tryz.underlying3 (hval 1 3 v1 rfl rfl) h1
  obtain ⟨a2, len2, cap2, rfl⟩ := okWide_slice Tryz.underlying22 (hval 2 22 v2 rfl rfl)
  have k2 := h2
  have lt2 : ∀ x ∈ p2, x.block < W.heap.size := by obtain ⟨m, hm⟩ := k2; exact DataW.trod_lt m _ _ _ hm
  obtain ⟨z2, w2⟩ := open_structs (n := 4) (k := .i64) Tryz.underlying22 Tryz.underlying32 (by kernel_rfl) (by
    intro i hi
    match i, hi with
    | 0, _ => exact ⟨_, rfl, Tryz.underlying3, by kernel_rfl, rfl⟩
    | 1, _ => exact ⟨_, rfl, Tryz.underlying3, by kernel_rfl, rfl⟩
    | 2, _ => exact ⟨_, rfl, Tryz.underlying3, by kernel_rfl, rfl⟩
    | 3, _ => exact ⟨_, rfl, Tryz.underlying3, by kernel_rfl, rfl⟩) h2
  obtain ⟨a3, rfl, rfl, rfl, w3⟩ := open_int Tryz.underlying3 (hval 3 3 v3 rfl rfl) h3
  clear hA0 hval0
  refine (walk a0 a1 a2 len2 cap2 z2 a3 W w0 w1 w2 w3).mono fun e W' ⟨he, bel⟩ => ?_
  subst he
  exact ⟨_, rfl, _, _, _, [], _, [], hW', trodAll_mk1 (shut_bool Tryz.underlying4 _), (trodAll_cons_mk (shut_int Tryz.underlying3 w0) (trodAll_cons_mk (shut_int Tryz.underlying3 w1) (trodAll_cons_mk (grown_trod laidOut (by kernel_rfl) (of_decide_eq_true (by kernel_rfl)) k2 bel lt2) (trodAll_cons_mk (shut_int Tryz.underlying3 w3) trodAll_mk0)))), rfl, bel.frame _, fun h => by cases h⟩

theorem over : Rows.policyHotRow.holds Tryz.pinned (OpenSpec.ofChange Rows.policyHotSpec) :=
  OpenClaim.holds_of_wide 4 Tryz.f4 rfl rfl rfl rfl rfl rfl rfl ⟨rfl, rfl, rfl, rfl, rfl⟩ rfl rfl rfl rfl rfl (by kernel_rfl) Tryz.func4 (by kernel_rfl)
    (of_decide_eq_true (by kernel_rfl)) (by unfold Func.isWrapper; first | (rw [if_pos (by decide +kernel)]; kernel_rfl) | (rw [if_neg (by decide +kernel)]; exact ⟨rfl, rfl⟩))
    (fun os started H enc _ => lifted os started H enc)

/-- The statement. -/
theorem proved : Rows.PolicyHotSaid := over
end Go.Proofs.YtlmcopenbeammaaGreat.policyHot

namespace Go.Proofs.YtlmcopenbeammaaGreat
/-- The given statement. -/
theorem policyHot_holds : Rows.PolicyHotSaid := policyHot.proved
#print axioms policyHot_holds
end Go.Proofs.YtlmcopenbeammaaGreat
