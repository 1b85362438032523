/-
  Proved: pantrylaw03.SketchAlone returns true for every capacity, seed, key and number n: a key that comes alone counts just as often as it came, up to 15, and no more samples are counted then (P3.2). No condition.
-/
import Derived.Test.YtifhohhdoplbnaaRows
import Derived.WalkKit
import Derived.ProofKit
import Derived.OpenShut
import Derived.Test.YtifhohhdoplbnaaSkSmall
namespace Go.Proofs.Ytifhohhdoplbnaa.sketchAlone
open Go.ChangeShapes Go.WideShapes Go.ChangeAt Go.RowKit
set_option linter.unusedVariables false      -- a walk need not use every 'w<i>' (that an integer argument fits its kind)

theorem own : ownKnob Try.prog.godebug = none := by kernel_rfl

/-! ### STEP 1: THE WALK: the Go text returns true. 'Grown w w'': the world has at most new blocks (Derived/RowKit3.lean). Part the cases AHEAD of 'go_enter' where a test parts the walk; take each callee by a contract of your own. -/
set_option maxHeartbeats 4000000 in
theorem walk (a0 : Int) (a1 : Int) (a2 : Int) (a3 : Int) (w0 : (Lit.int .i64 a0).wf = true) (w1 : (Lit.int .i64 a1).wf = true) (w2 : (Lit.int .i64 a2).wf = true) (w3 : (Lit.int .i64 a3).wf = true) (w : World) :
    Calls Try.prog 6 #[.int .i64 a0, .int .i64 a1, .int .i64 a2, .int .i64 a3] w fun e w' => e = .returned (.bool true) ∧ Grown w w' := by
  by_cases hc : a0 ≤ 1024 ∧ 0 ≤ a3 ∧ a3 ≤ 40
  · obtain ⟨hc0, hc1, hc2⟩ := hc
    obtain ⟨m, m1, m2, hm⟩ := width_of a0
    obtain ⟨n, rfl⟩ : ∃ n : Nat, a3 = n := ⟨a3.toNat, by omega⟩
    have nw := fun w => new_c a0 a1 w m m2 hm
    unfold ptr at nw
    clear w0 w1 w2 w3 hm
    go_enter Try.func6, Try.ntmps6
    go_wp2_with (first | (go_at_call 7; refine (small_any _).mono ?_; rintro e ws ⟨rfl, hgs⟩) | (go_at_call 8; refine (nw _).mono ?_; rintro e w1 ⟨rfl, hs, hg⟩; replace hs := al_zero hs (mixB a1 a2); replace hg := grownTrans hgs hg))
    obtain ⟨B, hB⟩ : ∃ B, B = ws.heap.size := ⟨_, rfl⟩
    have HB : Hid (w.heap.size ≤ B) := by rw [hB]; exact hgs.2.2
    rw [← hB] at hs ⊢
    clear hB
    go_loopw [11] (fun i wr => ∃ (k : Nat) (K : Int), 1 ≤ k ∧ k ≤ n + 1 ∧ i = .int .i64 k ∧ Hid (K = if k ≤ 15 then (k : Int) - 1 else 15) ∧ Skc wr B a1 K m (al (mixB a1 a2) m K) ∧ Grown w wr) (fun i _ => n + 1 - (intOf i).toNat)
    case atStart => exact ⟨1, 0, by omega, by omega, rfl, rfl, hs, hg⟩
    case round =>
      clear hs hg
      obtain ⟨k, K, hk1, hk2, rfl, HK, hs, hg⟩ := hrel
      have hK0 : 0 ≤ K ∧ K ≤ 15 := by have := HK.out; split at this <;> omega
      obtain ⟨hK0, hK1⟩ := hK0
      by_cases hlt : k ≤ n
      · by_cases h15 : k ≤ 15
        · have hK : Hid (K = (k : Int) - 1) := by have := HK.out; rw [if_pos h15] at this; exact this
          have hd1 : decide (K < 15) = true := by rw [decide_eq_true_eq, hK.out]; omega
          have hd2 : decide ((k : Int) ≤ 15) = true := by rw [decide_eq_true_eq]; omega
          have hup : up K = (k : Int) := by unfold up; rw [if_pos (of_decide_eq_true hd1), hK.out]; omega
          go_wp2_with (first | (go_at_call 12; refine (add_al (b := B) hs m1 m2 hK0 hK1).mono ?_; rintro e w2 ⟨rfl, hs2, ho⟩; rw [hup] at hs2; replace hg := ho.grown hg HB.out; clear ho) | (go_at_call 14; refine (count_al (b := B) hs2 m1 m2).mono ?_; rintro e w' ⟨rfl, hw⟩; have hw := hw.symm; subst hw) | (go_at_call 18; refine (samples_c (b := B) hs2).mono ?_; rintro e w' ⟨rfl, hw⟩; have hw := hw.symm; subst hw))
          go_roundw
          case rel => exact ⟨k + 1, k, by omega, by omega, by go_num, alone_k k h15, hs2, hg⟩
          case measure => simp [intOf]; omega
        · obtain rfl : K = 15 := by have := HK.out; rw [if_neg h15] at this; exact this
          have hd2 : decide ((k : Int) ≤ 15) = false := by rw [decide_eq_false_iff_not]; omega
          have hup : up 15 = 15 := rfl
          clear HK
          go_wp2_with (first | (go_at_call 12; refine (add_al (b := B) hs m1 m2 hK0 hK1).mono ?_; rintro e w2 ⟨rfl, hs2, ho⟩; rw [hup] at hs2; replace hg := ho.grown hg HB.out; clear ho) | (go_at_call 14; refine (count_al (b := B) hs2 m1 m2).mono ?_; rintro e w' ⟨rfl, hw⟩; have hw := hw.symm; subst hw) | (go_at_call 18; refine (samples_c (b := B) hs2).mono ?_; rintro e w' ⟨rfl, hw⟩; have hw := hw.symm; subst hw))
          go_roundw
          case rel => exact ⟨k + 1, 15, by omega, by omega, by go_num, alone_15 k h15, hs2, hg⟩
          case measure => simp [intOf]; omega
      · obtain rfl : k = n + 1 := by omega
        have hd : decide (((n + 1 : Nat) : Int) ≤ n) = false := by rw [decide_eq_false_iff_not]; omega
        go_wp2_with (first | (go_at_call 17; refine (row_i (b := B) hs m2 _ (by decide) (by decide)).mono ?_; rintro e w2 ⟨rfl, hr, hg2⟩; replace hg := grownTrans hg hg2; clear hg2))
        obtain ⟨R, hR⟩ : ∃ R, R = wr.heap.size := ⟨_, rfl⟩
        rw [← hR] at hr ⊢
        clear hR hs
        obtain ⟨g, hge⟩ : ∃ g, g = al (mixB a1 a2) m K 1 := ⟨_, rfl⟩
        have hgb : ∀ j, 0 ≤ g j ∧ g j ≤ 15 := fun j => by rw [hge]; unfold al; split <;> omega
        have SUM : Hid (sumF g (16 * m) = K) := by rw [hge]; exact sum_al _ _ _ _ m1
        have hr' : w2.rowIs R 3 (16 * m) (fun j => .int .i64 (g j)) := by rw [hge]; exact hr
        have HR : Hid (w2.rowIs R 3 (16 * m) (fun j => .int .i64 (g j))) := hr'
        clear hge hr hr'
        go_loopw [14, 16] (fun s i wq => ∃ t : Nat, t ≤ 16 * m ∧ i = .int .i64 t ∧ s = .int .i64 (sumF g t) ∧ wq = w2) (fun _ i _ => 16 * m - (intOf i).toNat)
        case atStart => exact ⟨0, by omega, rfl, rfl, rfl⟩
        case round =>
          obtain ⟨t, ht, rfl, rfl, rfl⟩ := hrel
          have hsb := sumF_bd g 15 t (fun j _ => hgb j)
          have hgt := hgb t
          by_cases htl : t < 16 * m
          · have cr := HR.out.cell htl
            go_wp2
            go_roundw
            case rel => exact ⟨t + 1, by omega, by go_num, rfl, by first | rfl | trivial⟩
            case measure => simp [intOf]; omega
          · obtain rfl : t = 16 * m := by omega
            have hsum := SUM.out
            clear hsb hgt
            by_cases h15 : n ≤ 15
            · have hKn : sumF g (16 * m) = n := by rw [hsum]; have := HK.out; split at this <;> omega
              rw [hKn]
              clear hsum SUM HK hKn
              go_wp2
              go_ret
              exact ⟨rfl, hg⟩
            · have hKn : sumF g (16 * m) = 15 := by rw [hsum]; have := HK.out; split at this <;> omega
              rw [hKn]
              clear hsum SUM HK hKn
              go_wp2
              go_ret
              exact ⟨rfl, hg⟩
  · have hc' : 1024 < a0 ∨ (a0 ≤ 1024 ∧ a3 < 0) ∨ (a0 ≤ 1024 ∧ 0 ≤ a3 ∧ 40 < a3) := by omega
    clear hc
    rcases hc' with h | ⟨h, h'⟩ | ⟨h, h', h''⟩
    all_goals
      go_enter Try.func6, Try.ntmps6
      go_wp2_with (first | (go_at_call 7; refine (small_any _).mono ?_; rintro e ws ⟨rfl, hgs⟩))
      go_ret
      exact ⟨rfl, by assumption⟩

/-! ### THE ROW's STEP: WRITTEN OUT: LEAVE IT -/
set_option maxRecDepth 100000 in
theorem lifted (os : Os) (started : os.Started) (H : Type) (enc : TypeId × Value → H) :
    ReturnsInHanded {} Try.checked os 6 .any (Rows.sketchAloneSpec.pre6 enc Try.prog Try.f6 Rows.sketchAloneRow.domain false) (Rows.sketchAloneSpec.post enc Try.prog Try.f6 false true false false) := by
  refine returnsInHanded_of_change (C := Try.checked) own started (by kernel_rfl) Try.func6
    (ChangeSpec.witness6 (enc := enc) (C := Try.checked) false ⟨#[], #[.int .i64 0, .int .i64 0, .int .i64 0, .int .i64 0], []⟩ 8 (by kernel_rfl) (by kernel_rfl) (by kernel_rfl) (by kernel_rfl)) ?_
  intro W base args ds gs before hval0 hW hcnd _
  have hval : ∀ (j : Nat) t v, Try.f6.params[j]? = some t → args[j]? = some v → Value.okWide Try.prog W .any base t v := hval0
  have hW' := hW
  obtain ⟨p, q, hA0, hV, rfl, hfz, hnd⟩ := hW
  have hA : DataW.TrodAll enc Try.prog W 0 (fun _ => true) true Try.f6.params.toList args.toList ds p := hA0
  rw [Try.params6] at hA hval
  obtain ⟨v0, vs0, d0, ds0, p0, q0, hargs, rfl, rfl, h0, r0⟩ := trodAll_cons hA
  obtain ⟨v1, vs1, d1, ds1, p1, q1, rfl, rfl, rfl, h1, r1⟩ := trodAll_cons r0
  obtain ⟨v2, vs2, d2, ds2, p2, q2, rfl, rfl, rfl, h2, r2⟩ := trodAll_cons r1
  obtain ⟨v3, vs3, d3, ds3, p3, q3, rfl, rfl, rfl, h3, r3⟩ := trodAll_cons r2
  obtain ⟨rfl, rfl, rfl⟩ := trodAll_nil r3
  obtain rfl : args = #[v0, v1, v2, v3] := by cases args; simp_all
  obtain ⟨rfl, rfl⟩ := trodVars_none hV
  obtain ⟨a0, rfl, rfl, rfl, w0⟩ := open_int Try.underlying3 (hval 0 3 v0 rfl rfl) h0
  obtain ⟨a1, rfl, rfl, rfl, w1⟩ := open_int Try.underlying3 (hval 1 3 v1 rfl rfl) h1
  obtain ⟨a2, rfl, rfl, rfl, w2⟩ := open_int Try.underlying3 (hval 2 3 v2 rfl rfl) h2
  obtain ⟨a3, rfl, rfl, rfl, w3⟩ := open_int Try.underlying3 (hval 3 3 v3 rfl rfl) h3
  clear hA0 hval0
  simp only [List.append_nil] at hW'
  refine (walk a0 a1 a2 a3 w0 w1 w2 w3 W).mono fun e W' ⟨he, hg⟩ => ?_
  subst he
  exact ⟨_, rfl, post_of_same (pa := []) (pv := []) hW' (fun _ _ _ => (trodAll_cons_mk (shut_bool Try.underlying4 _) trodAll_mk0)) (fun sp _ => (trodAll_cons_mk (shut_int Try.underlying3 w0) (trodAll_cons_mk (shut_int Try.underlying3 w1) (trodAll_cons_mk (shut_int Try.underlying3 w2) (trodAll_cons_mk (shut_int Try.underlying3 w3) trodAll_mk0))))) (fun _ _ => rfl) rfl
    (hg.frame _) hg.2.1 (ok_one (by kernel_rfl) rfl (okWide_bool_mk Try.underlying4 _))⟩

theorem over : Rows.sketchAloneRow.holds Try.pinned (OpenSpec.ofChange Rows.sketchAloneSpec) :=
  OpenClaim.holds_of_wide 6 Try.f6 rfl rfl rfl rfl rfl rfl rfl ⟨rfl, rfl, rfl, rfl, rfl⟩ rfl rfl rfl rfl rfl (by kernel_rfl) Try.func6 (by kernel_rfl)
    (of_decide_eq_true (by kernel_rfl)) (by unfold Func.isWrapper; first | (rw [if_pos (by decide +kernel)]; kernel_rfl) | (rw [if_neg (by decide +kernel)]; exact ⟨rfl, rfl⟩))
    (fun os started H enc _ => lifted os started H enc)

/-- ████ THE STATEMENT ████ -/
theorem proved : Rows.SketchAloneSaid :=
  over
end Go.Proofs.Ytifhohhdoplbnaa.sketchAlone

namespace Go.Proofs.Ytifhohhdoplbnaa
/-- The given statement. -/
theorem sketchAlone_holds : Rows.SketchAloneSaid := sketchAlone.proved
#print axioms sketchAlone_holds
end Go.Proofs.Ytifhohhdoplbnaa
