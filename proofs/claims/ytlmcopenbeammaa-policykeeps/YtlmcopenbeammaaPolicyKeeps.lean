/-
  Proved: pantrylaw11.PolicyKeeps returns true for every seed, any events and any number more: where all that is ever added weighs no more than the capacity together, none goes. No condition.
-/
import Derived.Test.YtlmcopenbeammaaRows
import Derived.WalkKit
import Derived.ProofKit
import Derived.OpenShut
import Derived.Test.YtlmcopenbeammaaPoKeep
import Derived.ShutString
import Derived.ChangeOld
import Derived.Below
import Derived.Test.YtlmcopenbeammaaGenArgs
namespace Go.Proofs.Ytlmcopenbeammaa.policyKeeps
open Go.ChangeShapes Go.WideShapes Go.ChangeAt Go.RowKit
set_option linter.unusedVariables false

theorem own : ownKnob Try.prog.godebug = none := by kernel_rfl
theorem laidOut : laidOutB Try.prog = true := by kernel_rfl

/-! ### The walk: the law returns true, and writes nothing that was there -/
open Go.Proofs.Ytlmcopenbeammaa.Po Go.Deep in set_option maxRecDepth 100000 in set_option maxHeartbeats 8000000 in
theorem walk (a0 : Int) (a1 : Option Addr) (len1 cap1 : Nat) (z1 : Nat → Nat → Int) (a2 : Int) (w : World) (w0 : (Lit.int .i64 a0).wf = true) (w1 : IsGrid .i64 4 w a1 len1 cap1 z1) (w2 : (Lit.int .i64 a2).wf = true) :
    Calls Try.prog 4 #[.int .i64 a0, .slice a1 len1 cap1, .int .i64 a2] w fun e w' => e = .returned (.bool true) ∧ Grown w w' := by
  have SM := fun w => small_q w
  by_cases hl : 200 < len1
  · have d3 : decide (200 < (len1 : Int)) = true := by rw [decide_eq_true_eq]; omega
    go_enter Try.func4, Try.ntmps4
    go_wp2_with (first | (go_at_call 6; refine (SM _).mono ?_; rintro e w1 ⟨rfl, g1⟩))
    go_ret
    exact ⟨rfl, g1⟩
  have d3 : decide (200 < (len1 : Int)) = false := by rw [decide_eq_false_iff_not]; omega
  by_cases hc : a2 < 0
  · have d4 : decide (a2 < 0) = true := by simpa using hc
    go_enter Try.func4, Try.ntmps4
    go_wp2_with (first | (go_at_call 6; refine (SM _).mono ?_; rintro e w1 ⟨rfl, g1⟩))
    go_ret
    exact ⟨rfl, g1⟩
  have d4 : decide (a2 < 0) = false := by simpa using hc
  by_cases hd : 1000 < a2
  · have d5 : decide (1000 < a2) = true := by simpa using hd
    go_enter Try.func4, Try.ntmps4
    go_wp2_with (first | (go_at_call 6; refine (SM _).mono ?_; rintro e w1 ⟨rfl, g1⟩))
    go_ret
    exact ⟨rfl, g1⟩
  have d5 : decide (1000 < a2) = false := by simpa using hd
  have HL : Hid (len1 ≤ 200 ∧ 0 ≤ a2 ∧ a2 ≤ 1000) := ⟨by omega, by omega, by omega⟩
  have HG : Hid (IsGrid .i64 4 w a1 len1 cap1 z1) := w1
  have hlI : (len1 : Int) ≤ 200 := by omega
  have haI : 0 ≤ a2 := by omega
  have haJ : a2 ≤ 1000 := by omega
  clear hl hc hd w1
  go_enter Try.func4, Try.ntmps4
  go_wp2_with (first | (go_at_call 6; refine (SM _).mono ?_; rintro e ws ⟨rfl, g1⟩))
  go_loopw [8, 9] (fun s i wr => ∃ k : Nat, k ≤ len1 ∧ s = .int .i64 (evsum z1 k) ∧ i = .int .i64 k ∧ wr = ws ∧ Hid ((∀ j, j < k → 0 ≤ z1 j 3 ∧ z1 j 3 ≤ 1000) ∧ 0 ≤ evsum z1 k ∧ evsum z1 k ≤ 1000 * k)) (fun _ i _ => len1 - (intOf i).toNat)
  case atStart => exact ⟨0, by omega, rfl, rfl, rfl, fun j hj => by omega, Int.le_refl _, by show (0 : Int) ≤ _; omega⟩
  case round =>
    obtain ⟨k, hk, rfl, rfl, rfl, HK⟩ := hrel
    obtain ⟨E, hE⟩ : ∃ E, E = evsum z1 k := ⟨_, rfl⟩
    rw [← hE]
    have HE : Hid (E = evsum z1 k) := hE
    have hE0 : 0 ≤ E := by rw [hE]; exact HK.out.2.1
    have hE1 : E ≤ 200000 := by rw [hE]; have := HK.out.2.2; have := HL.out.1; omega
    clear hE
    by_cases hlt : k < len1
    · have hd : decide ((k : Int) < (len1 : Int)) = true := by rw [decide_eq_true_eq]; omega
      rcases grid_open (by decide) HG.out with h0 | ⟨b, off, rfl, hbl, hcell⟩
      · omega
      have ck : wr.cell? ⟨b, off + k * 4 + 3, none⟩ = some (.int .i64 (z1 k 3)) := by
        rw [cell_same (grown_block g1 hbl)]
        have := hcell k hlt 3 (by decide)
        rw [show off + k * 4 + 3 = off + (k * 4 + 3) by omega]; exact this
      obtain ⟨v, hv⟩ : ∃ v, v = z1 k 3 := ⟨_, rfl⟩
      rw [← hv] at ck
      have HV : Hid (v = z1 k 3) := hv
      clear hv hcell
      by_cases n1 : v < 0
      · have e1 : decide (v < 0) = true := by simpa using n1
        go_wp2
        go_ret
        exact ⟨rfl, g1⟩
      have e1 : decide (v < 0) = false := by simpa using n1
      by_cases n2 : 1000 < v
      · have e2 : decide (1000 < v) = true := by simpa using n2
        go_wp2
        go_ret
        exact ⟨rfl, g1⟩
      have e2 : decide (1000 < v) = false := by simpa using n2
      have we : IntKind.i64.wrap (E + v) = E + v := by simp [IntKind.wrap, IntKind.signed, IntKind.bits]; omega
      go_wp2
      refine ⟨⟨k + 1, by omega, ?_, by go_num, trivial, fun j hj => ?_, ?_, ?_⟩, by simp [intOf]; omega⟩
      · show Value.int .i64 (E + v) = .int .i64 (evsum z1 k + z1 k 3)
        rw [← HE.out, ← HV.out]
      · by_cases q : j = k
        · rw [q, ← HV.out]; omega
        · exact HK.out.1 j (by omega)
      · show 0 ≤ evsum z1 k + z1 k 3
        rw [← HE.out, ← HV.out]; omega
      · show evsum z1 k + z1 k 3 ≤ _
        have := HK.out.2.2
        rw [← HV.out]; omega
    · obtain rfl : k = len1 := by omega
      have hd : decide ((k : Int) < (k : Int)) = false := by rw [decide_eq_false_iff_not]; omega
      have we0 : IntKind.i64.wrap (E + a2) = E + a2 := by simp [IntKind.wrap, IntKind.signed, IntKind.bits]; omega
      have hcap : wh (E + a2) = E + a2 := by unfold wh mid; rw [Int.min_eq_left (by omega), Int.max_eq_right (by omega)]
      have NW := fun w => new_p (E + a2) a0 w
      obtain ⟨mw, hmw⟩ : ∃ m, m = mwid (E + a2) := ⟨_, rfl⟩
      rw [hcap] at NW
      simp only [← hmw] at NW
      obtain ⟨C, hC⟩ : ∃ C, C = E + a2 := ⟨_, rfl⟩
      have hcap' : wh C = C := by rw [hC]; exact hcap
      have hZ := zero_fine hcap'
      have hz0 : ∀ i, i < k → 0 ≤ z1 i 3 := fun i hi => (HK.out.1 i hi).1
      obtain ⟨p1, p2, p3⟩ := pl_keeps (seed := a0) (mw := mw) hZ ⟨rfl, rfl, Int.le_refl _⟩ hz0 (by rw [← HE.out, hC]; omega) k (Nat.le_refl _)
      obtain ⟨f1, _⟩ := pl_ok (seed := a0) (mw := mw) (z := z1) hZ (show (0 : Int) ≤ (Ps.zero C).f.a from Int.le_refl _) k
      obtain ⟨S, hS⟩ : ∃ S, S = (pl C a0 mw z1 (Ps.zero C) k).1 := ⟨_, rfl⟩
      rw [← hS] at p2 p3 f1
      have PL : Hid (∀ (W : World) A Φ, Pol W A Φ C a0 mw (Ps.zero C) → Grown w W → (∀ j, Φ j → w.heap.size ≤ j) → Calls Try.prog 12 #[.pointer (some ⟨A, 0, none⟩), .slice a1 k cap1] W fun e w' => ∃ p c Φ', e = .returned (.slice p 0 c) ∧ Pol w' A Φ' C a0 mw S ∧ Grown w w') := fun W A Φ h g hb => by
        obtain ⟨b, hb1, hb2⟩ := evs_in1 HG.out g hb (fun j hj => h.lt hj)
        refine (play_q h hZ ⟨Int.le_refl _, by show (0 : Int) ≤ _; omega⟩ a1 k cap1 b z1 hb1 hb2 (by have := HL.out.1; omega)).mono ?_
        rintro e w' ⟨p, l, c, Φ', rfl, hl, _, hp, hs, _⟩
        rw [p1] at hl
        have hl : l = 0 := hl
        subst hl
        exact ⟨p, c, Φ', rfl, by rw [hS]; exact hp, (hs.keeps g hb).1⟩
      have HF : Hid (S.t.tot 3 ≤ E ∧ S.t.cnt 3 ≤ k ∧ Fine C S) := ⟨by rw [HE.out]; exact p2, p3, f1⟩
      have we : IntKind.i64.wrap (E + a2) = C := by rw [we0, hC]
      rw [← hC] at NW
      clear we0 hmw hcap hcap' hZ hz0 p1 p2 p3 f1 hS
      unfold ptr at NW
      have hC1 : Hid (C = E + a2) := hC
      clear hC
      go_wp2_with (first | (go_at_call 7; with_reducible refine (NW _).mono ?_; rintro e w2 ⟨A, Φ, rfl, P2, g2, b2⟩; have gg := grownTrans g1 g2) | (go_at_call 12; refine (PL.out _ A Φ P2 gg (fun j hj => Nat.le_trans g1.2.2 (b2 j hj))).mono ?_; rintro e w3 ⟨p3, c3, Φ3, rfl, P3, g3⟩))
      have L0 : S.t.cnt 0 = 0 := rfl
      go_loopw [12, 13] (fun s i wq => ∃ j : Nat, j ≤ 3 ∧ s = .int .i64 (S.t.cnt j : Nat) ∧ i = .int .i64 j ∧ Hid (Pol wq A Φ3 C a0 mw S ∧ Grown w wq)) (fun _ i _ => 3 - (intOf i).toNat)
      case atStart => exact ⟨0, by omega, rfl, rfl, P3, g3⟩
      case round =>
        clear P3 g3 P2 gg g2 b2 PL NW
        obtain ⟨j, hj, rfl, rfl, HP⟩ := hrel
        have hcn := fun i (hi : i ≤ 3) => HF.out.2.2.wf.tot_le (k := i) (n := 3) hi
        have hb3 := HF.out.2.1
        by_cases hlt3 : j < 3
        · have hd3 : decide ((j : Int) < 3) = true := by rw [decide_eq_true_eq]; omega
          obtain ⟨c0, hc0⟩ : ∃ c0, c0 = S.t.cnt j := ⟨_, rfl⟩
          obtain ⟨l0, hl0⟩ : ∃ l0, l0 = (S.t.rowI j).length := ⟨_, rfl⟩
          have HC0 : Hid (S.t.cnt (j + 1) = c0 + l0) := by
            show S.t.cnt (j + 1) = _
            rw [Ds.cnt_succ, hc0, hl0, rowI_nat]
          have hs : c0 + l0 ≤ 200 := by
            rw [← HC0.out]
            have := (hcn (j + 1) (by omega)).2.2
            have := HL.out.1
            omega
          have wc : IntKind.i64.wrap ((c0 : Int) + (l0 : Int)) = (c0 : Int) + (l0 : Int) := by simp [IntKind.wrap, IntKind.signed, IntKind.bits]; omega
          have RW := row_q HP.out.1 (j : Int)
          rw [← hl0] at RW
          rw [← hc0]
          unfold ptr at RW
          clear hc0 hl0 hcn hb3
          go_wp2_with (go_at_call 10; refine RW.mono ?_; clear RW; rintro e w5 ⟨p5, c5, l5, rfl, hl5, _, g5, _⟩; subst hl5)
          go_roundw
          case rel => exact ⟨j + 1, by omega, by rw [HC0.out]; go_num, by go_num, HP.out.1.grown g5, grownTrans HP.out.2 g5⟩
          case measure => simp [intOf]; omega
        · obtain rfl : j = 3 := by omega
          have WT := weight_q HP.out.1 (by have := HF.out.1; omega)
          have hw1 := HF.out.1
          obtain ⟨T, hT⟩ : ∃ T, T = S.t.tot 3 := ⟨_, rfl⟩
          obtain ⟨N, hN⟩ : ∃ N, N = S.t.cnt 3 := ⟨_, rfl⟩
          rw [← hT] at WT hw1
          rw [← hN] at hb3
          rw [← hN]
          have dn : decide ((N : Int) ≤ (k : Int)) = true := by rw [decide_eq_true_eq]; omega
          have dn' : decide (N ≤ k) = true := by rw [decide_eq_true_eq]; omega
          have dw : decide (T ≤ E) = true := by simpa using hw1
          unfold ptr at WT
          clear hT hN hcn hw1 hb3
          go_wp2_with (go_at_call 11; refine WT.mono ?_; clear WT; rintro e w6 ⟨rfl, g6⟩)
          go_ret
          exact ⟨rfl, grownTrans HP.out.2 g6⟩

/-! ### The row's step -/
set_option maxRecDepth 100000 in
theorem lifted (os : Os) (started : os.Started) (H : Type) (enc : TypeId × Value → H) :
    ReturnsInHanded {} Try.checked os 4 .any (Rows.policyKeepsSpec.pre6 enc Try.prog Try.f4 Rows.policyKeepsRow.domain false) (Rows.policyKeepsSpec.post enc Try.prog Try.f4 false true false false) := by
  refine returnsInHanded_of_change (C := Try.checked) own started (by kernel_rfl) Try.func4
    (ChangeSpec.witness6 (enc := enc) (C := Try.checked) false ⟨#[], #[.int .i64 0, .slice none 0 0, .int .i64 0], []⟩ 8 (by kernel_rfl) (by kernel_rfl) (by kernel_rfl) (by kernel_rfl)) ?_
  intro W base args ds gs before hval0 hW hcnd _
  have hval : ∀ (j : Nat) t v, Try.f4.params[j]? = some t → args[j]? = some v → Value.okWide Try.prog W .any base t v := hval0
  have hW' := hW
  obtain ⟨p, q, hA0, hV, rfl, hfz, hnd⟩ := hW
  have hA : DataW.TrodAll enc Try.prog W 0 (fun _ => true) true Try.f4.params.toList args.toList ds p := hA0
  rw [Try.params4] at hA hval
  obtain ⟨v0, vs0, d0, ds0, p0, q0, hargs, rfl, rfl, h0, r0⟩ := trodAll_cons hA
  obtain ⟨v1, vs1, d1, ds1, p1, q1, rfl, rfl, rfl, h1, r1⟩ := trodAll_cons r0
  obtain ⟨v2, vs2, d2, ds2, p2, q2, rfl, rfl, rfl, h2, r2⟩ := trodAll_cons r1
  obtain ⟨rfl, rfl, rfl⟩ := trodAll_nil r2
  obtain rfl : args = #[v0, v1, v2] := by cases args; simp_all
  obtain ⟨rfl, rfl⟩ := trodVars_none hV
  obtain ⟨a0, rfl, rfl, rfl, w0⟩ := open_int Try.underlying3 (hval 0 3 v0 rfl rfl) h0
  obtain ⟨a1, len1, cap1, rfl⟩ := okWide_slice Try.underlying22 (hval 1 22 v1 rfl rfl)
  have k1 := h1
  have lt1 : ∀ x ∈ p1, x.block < W.heap.size := by obtain ⟨m, hm⟩ := k1; exact DataW.trod_lt m _ _ _ hm
  obtain ⟨z1, w1⟩ := open_structs (n := 4) (k := .i64) Try.underlying22 Try.underlying28 (by kernel_rfl) (by
    intro i hi
    match i, hi with
    | 0, _ => exact ⟨_, rfl, Try.underlying3, by kernel_rfl, rfl⟩
    | 1, _ => exact ⟨_, rfl, Try.underlying3, by kernel_rfl, rfl⟩
    | 2, _ => exact ⟨_, rfl, Try.underlying3, by kernel_rfl, rfl⟩
    | 3, _ => exact ⟨_, rfl, Try.underlying3, by kernel_rfl, rfl⟩) h1
  obtain ⟨a2, rfl, rfl, rfl, w2⟩ := open_int Try.underlying3 (hval 2 3 v2 rfl rfl) h2
  clear hA0 hval0
  refine (walk a0 a1 len1 cap1 z1 a2 W w0 w1 w2).mono fun e W' ⟨he, bel⟩ => ?_
  subst he
  exact ⟨_, rfl, _, _, _, [], _, [], hW', trodAll_mk1 (shut_bool Try.underlying4 _), (trodAll_cons_mk (shut_int Try.underlying3 w0) (trodAll_cons_mk (grown_trod laidOut (by kernel_rfl) (of_decide_eq_true (by kernel_rfl)) k1 bel lt1) (trodAll_cons_mk (shut_int Try.underlying3 w2) trodAll_mk0))), rfl, bel.frame _, fun h => by cases h⟩

theorem over : Rows.policyKeepsRow.holds Try.pinned (OpenSpec.ofChange Rows.policyKeepsSpec) :=
  OpenClaim.holds_of_wide 4 Try.f4 rfl rfl rfl rfl rfl rfl rfl ⟨rfl, rfl, rfl, rfl, rfl⟩ rfl rfl rfl rfl rfl (by kernel_rfl) Try.func4 (by kernel_rfl)
    (of_decide_eq_true (by kernel_rfl)) (by unfold Func.isWrapper; first | (rw [if_pos (by decide +kernel)]; kernel_rfl) | (rw [if_neg (by decide +kernel)]; exact ⟨rfl, rfl⟩))
    (fun os started H enc _ => lifted os started H enc)

/-- The statement. -/
theorem proved : Rows.PolicyKeepsSaid := over
end Go.Proofs.Ytlmcopenbeammaa.policyKeeps

namespace Go.Proofs.Ytlmcopenbeammaa
/-- The given statement. -/
theorem policyKeeps_holds : Rows.PolicyKeepsSaid := policyKeeps.proved
#print axioms policyKeeps_holds
end Go.Proofs.Ytlmcopenbeammaa
