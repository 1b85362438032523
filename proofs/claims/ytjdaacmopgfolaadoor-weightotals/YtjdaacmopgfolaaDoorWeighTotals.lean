/-
  Proved: pantrylaw08.WeighTotals returns true for every slice of numbers: sums, and what cannot be one (P8.3, P8.5). Conditions: errors.errorType holds what the program's text lays (tied by the card); internal/strconv.uint64pow10 may hold any twenty numbers.
-/
import Derived.Test.YtjdaacmopgfolaaDoorRows
import Derived.WalkKit
import Derived.ProofKit
import Derived.OpenShut
import Derived.Test.YtjdaacmopgfolaaDoorWgMore
import Derived.ShutString
import Derived.ChangeOld
import Derived.Below
import Derived.Test.YtjdaacmopgfolaaDoorGenArgs
import Derived.Test.YtjdaacmopgfolaaDoorWgLaid
import Derived.Test.YtjdaacmopgfolaaDoorTie
import Derived.Test.YtjdaacmopgfolaaDoorCards
import Derived.SevenTiedAt
namespace Go.Proofs.YtjdaacmopgfolaaDoor.weighTotals
open Go.ChangeShapes Go.WideShapes Go.ChangeAt Go.RowKit
set_option linter.unusedVariables false

theorem laidOut : laidOutB Tryd.prog = true := by kernel_rfl

/-! ### The walk: the law returns true, and writes nothing that was there -/
set_option maxRecDepth 100000 in set_option maxHeartbeats 4000000 in
theorem walk (a0 : Option Addr) (len0 cap0 : Nat) (z0 : List Int) (w : World) (hl : Laid w) (hs : w.ShapedOpen Tryd.prog) (w0 : IsInts .i64 w a0 len0 cap0 z0) :
    Calls Tryd.prog 4 #[.slice a0 len0 cap0] w fun e w' => e = .returned (.bool true) ∧ Grown w w' := by
  obtain ⟨T, hT⟩ := tab_ex hs
  clear hs
  have HT : Hid (Tab w T) := hT
  clear hT
  have sm := wSmall w hl
  have i0 := ints_in64 w0
  have k0 : Sl w a0 len0 (fun i => z0.getD i 0) := keys_open w0
  clear w0
  obtain ⟨y0, hy0⟩ : ∃ y : Nat → Int, y = fun i => z0.getD i 0 := ⟨_, rfl⟩
  have I0 : Hid (∀ i, i < len0 → In64 (y0 i)) := by rw [hy0]; exact i0
  rw [← hy0] at k0
  clear hy0 i0 z0
  by_cases h0 : 200 < (len0 : Int)
  · clear k0
    go_enter Tryd.func4, Tryd.ntmps4
    go_wp2_with (first | (go_at_call 8; refine sm.mono ?_; rintro e w1 ⟨rfl, g1⟩))
    go_ret
    exact ⟨rfl, g1⟩
  · have K0 : Hid (Sl w a0 len0 y0) := k0
    have HL : Hid (len0 ≤ 200) := by show len0 ≤ 200; omega
    clear k0
    obtain ⟨x, n, p, m, t1⟩ := tot_ex y0 len0
    by_cases e1 : n = 0
    · obtain ⟨rfl, rfl⟩ := t1.zero e1
      subst e1
      have T1 : Hid (Tot y0 len0 x 0 0 0) := t1
      have x0 : (x == x) = true := by simp
      clear t1
      go_enter Tryd.func4, Tryd.ntmps4
      go_wp2_with (first
        | (go_at_call 8; refine sm.mono ?_; rintro e w1 ⟨rfl, g1⟩; clear sm)
        | (at_builtin; refine wpList_append_sl rfl (.tmp 16) (.tmp 17) rfl rfl (vec_empty _ (fun _ => 0)) rfl ((K0.out.grown g1).grown ((Grown.refl _).alloc _ _)) (by have := HL.out; omega) ?_; intro p4 c4 w4 v4 o4 q4; have r4 := append_keeps g1 o4 q4; have g6 := r4.1; have K4 : Hid (Sl w4 p4 len0 y0) := Sl.of_vec (vec_first v4); clear r4 g1 v4 o4 q4)
        | (go_at_call 13; refine (total_nil w4 p4 len0 c4 y0 _ K4.out (by have := HL.out; omega) (Grown.refl _) T1.out rfl).mono ?_; rintro e w5 ⟨rfl, h5⟩)
        | (go_at_call 14; refine (refTotal_any a0 len0 cap0 y0 _ (K0.out.grown (grownTrans g6 h5)) (by have := HL.out; omega) T1.out).mono ?_; rintro e w6 ⟨rfl, h6⟩; have h7 := grownTrans h5 h6; have g7 := grownTrans g6 h7; clear h5 h6)
        | (go_at_call 12; refine (fault_c w4 _ T .nilIface 0 0 0 (hl.grown g7) (HT.out.grown g7) (.inl ⟨rfl, rfl⟩) in64_zero in64_zero in64_zero h7).mono ?_; rintro e w8 ⟨rfl, h8⟩)
        | (go_at_call 15; refine (ints_c p4 a0 len0 c4 cap0 y0 _ (K4.out.grown h8) (K0.out.grown (grownTrans g6 h8)) (by have := HL.out; omega)).mono ?_; rintro e w9 ⟨rfl, h9⟩))
      go_ret
      exact ⟨rfl, grownTrans g6 (grownTrans h8 h9)⟩
    · obtain ⟨k, hk, rfl, hm, hn64⟩ := t1.bad e1
      have T1 : Hid (Tot y0 len0 x n k m) := t1
      have HN : Hid (In64 n ∧ n ≠ 0) := ⟨hn64, e1⟩
      have HM : Hid (m = y0 k ∧ k < len0) := ⟨hm, hk⟩
      have x0 : (x == x) = true := by simp
      obtain ⟨B, off, ha0, _⟩ := K0.out.at hk
      have HC : Hid (∀ W, Grown w W → W.cell? ⟨B, off + k, none⟩ = some (.int .i64 m)) := fun W g => by
        obtain ⟨B', off', e, c⟩ := (K0.out.grown g).at hk
        rw [ha0] at e
        cases e
        rw [hm]; exact c
      subst ha0
      clear t1 hm hn64
      go_enter Tryd.func4, Tryd.ntmps4
      go_wp2_with (first
        | (go_at_call 8; refine sm.mono ?_; rintro e w1 ⟨rfl, g1⟩; clear sm)
        | (at_builtin; refine wpList_append_sl rfl (.tmp 16) (.tmp 17) rfl rfl (vec_empty _ (fun _ => 0)) rfl ((K0.out.grown g1).grown ((Grown.refl _).alloc _ _)) (by have := HL.out; omega) ?_; intro p4 c4 w4 v4 o4 q4; have r4 := append_keeps g1 o4 q4; have g6 := r4.1; have K4 : Hid (Sl w4 p4 len0 y0) := Sl.of_vec (vec_first v4); clear r4 g1 v4 o4 q4)
        | (go_at_call 13; refine (total_bad w4 p4 len0 c4 y0 _ K4.out (by have := HL.out; omega) (Grown.refl _) T1.out HN.out.2).mono ?_; rintro e w5 ⟨b, rfl, f5, h5⟩; have F5 : Hid (FaultIs w5 (.iface 46 (.pointer (some ⟨b, 0, none⟩))) n k m) := f5; clear f5)
        | (go_at_call 14; refine (refTotal_any (some ⟨B, off, none⟩) len0 cap0 y0 _ (K0.out.grown (grownTrans g6 h5)) (by have := HL.out; omega) T1.out).mono ?_; rintro e w6 ⟨rfl, h6⟩; have h7 := grownTrans h5 h6; have g7 := grownTrans g6 h7; have F6 : Hid (FaultIs w6 (.iface 46 (.pointer (some ⟨b, 0, none⟩))) n k m) := F5.out.grown h6; have c6 := HC.out _ g7; clear h5 h6 F5)
        | (go_at_call 12; refine (fault_c w4 _ T (.iface 46 (.pointer (some ⟨b, 0, none⟩))) n k m (hl.grown g7) (HT.out.grown g7) F6.out HN.out.1 (in64_nat k (by have := HM.out.2; have := HL.out; omega)) (by rw [HM.out.1]; exact I0.out k HM.out.2) h7).mono ?_; rintro e w8 ⟨rfl, h8⟩)
        | (go_at_call 15; refine (ints_c p4 (some ⟨B, off, none⟩) len0 c4 cap0 y0 _ (K4.out.grown h8) (K0.out.grown (grownTrans g6 h8)) (by have := HL.out; omega)).mono ?_; rintro e w9 ⟨rfl, h9⟩))
      go_ret
      exact ⟨rfl, grownTrans g6 (grownTrans h8 h9)⟩

/-! ### The row's step -/
set_option maxRecDepth 100000 in
theorem lifted (os : Os) (started : os.Started) (H : Type) (enc : TypeId × Value → H) :
    ReturnsInHanded {} Tryd.checked os 4 .any (fun w args => (Rows.weighTotalsSpec.pre enc Tryd.prog Tryd.f4 [] false w args ∧ laidMetH Tryd.prog [("errors.errorType", Rows.laid_errors_errorType)] w) ∧ sizedMet enc Tryd.prog Tryd.f4 (OpenSpec.ofChange Rows.weighTotalsSpec) false w args) (Rows.weighTotalsSpec.post enc Tryd.prog Tryd.f4 false true false false) := by
  refine returns_shaped (C := Tryd.checked) (X := fun w _ => laidMetH Tryd.prog [("errors.errorType", Rows.laid_errors_errorType)] w) (fun _ _ _ hh h => h.of_heap hh) Tryd.own started (by kernel_rfl) Tryd.func4
    (ChangeSpec.witness_at (enc := enc) (C := Tryd.checked) (os := os) (X := fun w _ => laidMetH Tryd.prog [("errors.errorType", Rows.laid_errors_errorType)] w) false (laidWorld os) #[.slice none 0 0] 8 rfl (by kernel_rfl) (by kernel_rfl) (by kernel_rfl) (by kernel_rfl) (by kernel_rfl) (laidWorld_met os _)) ?_
  intro W base args ds gs before hval0 hW hcnd hL hsh
  have hval : ∀ (j : Nat) t v, Tryd.f4.params[j]? = some t → args[j]? = some v → Value.okWide Tryd.prog W .any base t v := hval0
  have hW' := hW
  obtain ⟨p, q, hA0, hV, rfl, hfz, hnd⟩ := hW
  have hA : DataW.TrodAll enc Tryd.prog W 0 (fun _ => true) true Tryd.f4.params.toList args.toList ds p := hA0
  rw [Tryd.params4] at hA hval
  obtain ⟨v0, vs0, d0, ds0, p0, q0, hargs, rfl, rfl, h0, r0⟩ := trodAll_cons hA
  obtain ⟨rfl, rfl, rfl⟩ := trodAll_nil r0
  obtain rfl : args = #[v0] := by cases args; simp_all
  obtain ⟨rfl, rfl⟩ := trodVars_none hV
  obtain ⟨a0, len0, cap0, rfl⟩ := okWide_slice Tryd.underlying32 (hval 0 32 v0 rfl rfl)
  have k0 := h0
  have lt0 : ∀ x ∈ p0, x.block < W.heap.size := by obtain ⟨m, hm⟩ := k0; exact DataW.trod_lt m _ _ _ hm
  obtain ⟨z0, w0⟩ : ∃ zs, IsInts .i64 W a0 len0 cap0 zs := by
    obtain ⟨fuel, hf⟩ := h0
    rcases open_ints Tryd.underlying32 Tryd.underlying3 (by kernel_rfl) hf with ⟨hcs, _⟩ | ⟨x, l, c, zs, hcs, _, hl, hm, hz, _, hcell, hwz⟩
    · simp [Value.cells] at hcs
      obtain ⟨rfl, rfl, rfl⟩ := hcs
      exact ⟨[], .inl ⟨rfl, rfl, rfl, rfl⟩⟩
    · simp [Value.cells] at hcs
      obtain ⟨rfl, rfl, rfl⟩ := hcs
      exact ⟨zs, .inr ⟨_, rfl, hl, hm, by simpa using hz, hcell, hwz⟩⟩
  clear hA0 hval0
  refine (walk a0 len0 cap0 z0 W (laid_of_met hL) hsh w0).mono fun e W' ⟨he, bel⟩ => ?_
  subst he
  exact ⟨_, rfl, _, _, _, [], _, [], hW', trodAll_mk1 (shut_bool Tryd.underlying4 _), (trodAll_cons_mk (grown_trod laidOut (by kernel_rfl) (of_decide_eq_true (by kernel_rfl)) k0 bel lt0) trodAll_mk0), rfl, bel.frame _, fun h => by cases h⟩

theorem over : Rows.weighTotalsRow.holds Tryd.pinned (OpenSpec.ofChange Rows.weighTotalsSpec) :=
  OpenClaim.holds_of_wide 4 Tryd.f4 rfl rfl rfl rfl rfl rfl rfl ⟨rfl, rfl, rfl, rfl, rfl⟩ rfl rfl rfl rfl rfl (by kernel_rfl) Tryd.func4 (by kernel_rfl)
    (of_decide_eq_true (by kernel_rfl)) (by unfold Func.isWrapper; first | (rw [if_pos (by decide +kernel)]; kernel_rfl) | (rw [if_neg (by decide +kernel)]; exact ⟨rfl, rfl⟩))
    (fun os started H enc _ => lifted os started H enc)

/-- The card. -/
theorem proved : Rows.WeighTotalsCardSaid :=
  Claim7.holds_tied_plain_at .later [] [.handle] true (true, "7c0d3a6685830967f2fe3e3cb369958f5e15f0aaa0081ead27bd5149047de32e") true
    over (fun _ h => by cases h) (by kernel_rfl) (fun _ h => by cases h) weighTotals_row_tie rfl ⟨rfl, rfl⟩ (by kernel_rfl) rfl
    (fun f fn hf hfn => by
      obtain rfl : f = 4 := Option.some.inj ((show Tryd.prog.funcNamed "pantry/pantrylaw08.WeighTotals" = some 4 by kernel_rfl).symm.trans hf) |>.symm
      obtain rfl : fn = Tryd.f4 := (Option.some.inj (Tryd.func4.symm.trans hfn)).symm
      exact ⟨by kernel_rfl, fun j t ht => noStandIn (by kernel_rfl) ht⟩)
    (by kernel_rfl)
end Go.Proofs.YtjdaacmopgfolaaDoor.weighTotals

namespace Go.Proofs.YtjdaacmopgfolaaDoor
/-- The given statement. -/
theorem weighTotals_holds : Rows.WeighTotalsCardSaid := weighTotals.proved
#print axioms weighTotals_holds
end Go.Proofs.YtjdaacmopgfolaaDoor
