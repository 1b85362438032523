/-
  Proved: pantrylaw08.WeighSums returns true for any two slices of numbers: sums add up, whatever is ahead, as long as they are some (P8.3). Condition: errors.errorType holds what the program's text lays (tied by the card).
-/
import Derived.Test.YtjdaacmopgfolaaDoorRows
import Derived.WalkKit
import Derived.ProofKit
import Derived.OpenShut
import Derived.Test.YtjdaacmopgfolaaDoorWgSums
import Derived.ShutString
import Derived.ChangeOld
import Derived.Below
import Derived.Test.YtjdaacmopgfolaaDoorGenArgs
import Derived.Test.YtjdaacmopgfolaaDoorWgLaid
import Derived.Test.YtjdaacmopgfolaaDoorTie
import Derived.Test.YtjdaacmopgfolaaDoorCards
import Derived.SevenTiedAt
namespace Go.Proofs.YtjdaacmopgfolaaDoor.weighSums
open Go.ChangeShapes Go.WideShapes Go.ChangeAt Go.RowKit
set_option linter.unusedVariables false

theorem laidOut : laidOutB Tryd.prog = true := by kernel_rfl

/-! ### The walk: the law returns true, and writes nothing that was there -/
set_option maxRecDepth 100000 in set_option maxHeartbeats 4000000 in
theorem walk (a0 : Option Addr) (len0 cap0 : Nat) (z0 : List Int) (a1 : Option Addr) (len1 cap1 : Nat) (z1 : List Int) (w : World) (hl : Laid w) (hs : w.ShapedOpen Tryd.prog) (w0 : IsInts .i64 w a0 len0 cap0 z0) (w1 : IsInts .i64 w a1 len1 cap1 z1) :
    Calls Tryd.prog 7 #[.slice a0 len0 cap0, .slice a1 len1 cap1] w fun e w' => e = .returned (.bool true) ∧ Grown w w' := by
  clear hs
  have sm := wSmall w hl
  have k0 : Sl w a0 len0 (fun i => z0.getD i 0) := keys_open w0
  have k1 : Sl w a1 len1 (fun i => z1.getD i 0) := keys_open w1
  clear w0 w1
  obtain ⟨y0, hy0⟩ : ∃ y, y = fun i => z0.getD i 0 := ⟨_, rfl⟩
  obtain ⟨y1, hy1⟩ : ∃ y, y = fun i => z1.getD i 0 := ⟨_, rfl⟩
  rw [← hy0] at k0
  rw [← hy1] at k1
  clear hy0 hy1 z0 z1
  by_cases h0 : 100 < (len0 : Int)
  · clear k0 k1
    go_enter Tryd.func7, Tryd.ntmps7
    go_wp2_with (first | (go_at_call 8; refine sm.mono ?_; rintro e w1 ⟨rfl, g1⟩))
    go_ret
    exact ⟨rfl, g1⟩
  · by_cases h1 : 100 < (len1 : Int)
    · clear k0 k1
      go_enter Tryd.func7, Tryd.ntmps7
      go_wp2_with (first | (go_at_call 8; refine sm.mono ?_; rintro e w1 ⟨rfl, g1⟩))
      go_ret
      exact ⟨rfl, g1⟩
    · have K0 : Hid (Sl w a0 len0 y0) := k0
      have K1 : Hid (Sl w a1 len1 y1) := k1
      have HL : Hid (len0 ≤ 100 ∧ len1 ≤ 100) := by refine ⟨?_, ?_⟩ <;> omega
      clear k0 k1
      obtain ⟨x, n1, p1, m1, t1⟩ := tot_ex y0 len0
      obtain ⟨v, n2, p2, m2, t2⟩ := tot_ex y1 len1
      obtain ⟨s, n3, p3, m3, t3⟩ := tot_ex (cat y0 y1 len0) (len0 + len1)
      obtain ⟨r1, r2, r3⟩ := sums_cat t1 t2 t3
      have T1 : Hid (Tot y0 len0 x n1 p1 m1) := t1
      have T2 : Hid (Tot y1 len1 v n2 p2 m2) := t2
      have T3 : Hid (Tot (cat y0 y1 len0) (len0 + len1) s n3 p3 m3) := t3
      clear t1 t2 t3
      by_cases e1 : n1 = 0
      · by_cases e2 : n2 = 0
        · obtain ⟨x0, x1, v0, v1, r4, r5⟩ := r3 e1 e2
          clear r1 r2 r3
          by_cases hx : 4611686018427387903 - v < x
          · obtain ⟨e3, rfl⟩ := r4 hx
            have e3' : n3 ≠ 0 := by omega
            have E1 : Hid (n1 = 0) := e1
            have E2 : Hid (n2 = 0) := e2
            have E3 : Hid (n3 ≠ 0) := e3'
            subst e3
            clear r4 r5 e1 e2 e3'
            go_enter Tryd.func7, Tryd.ntmps7
            go_wp2_with (first
              | (go_at_call 8; refine sm.mono ?_; rintro e w1 ⟨rfl, g1⟩; clear sm)
              | (go_at_call 13; refine (total_nil w a0 len0 cap0 y0 _ (K0.out.grown g1) (by have := HL.out.1; omega) g1 T1.out E1.out).mono ?_; rintro e w2 ⟨rfl, g3⟩; clear g1)
              | (go_at_call 13; refine (total_nil w a1 len1 cap1 y1 _ (K1.out.grown g3) (by have := HL.out.2; omega) g3 T2.out E2.out).mono ?_; rintro e w3 ⟨rfl, g5⟩; clear g3)
              | (at_builtin; refine wpList_append_sl rfl (.tmp 33) (.tmp 34) rfl rfl (vec_empty _ (fun _ => 0)) rfl ((K0.out.grown g5).grown ((Grown.refl _).alloc _ _)) (by have := HL.out.1; omega) ?_; intro p4 c4 w4 v4 o4 q4; have r4 := append_keeps g5 o4 q4; have g6 := r4.1; have V4 : Hid (Vec w4 3 1 p4 len0 c4 (fun j => .int .i64 (y0 j)) ∧ ∀ i, In p4 i → w.heap.size ≤ i) := ⟨vec_first v4, r4.2⟩; clear r4 g5 v4 o4 q4)
              | (at_builtin; refine wpList_append_sl rfl (.tmp 35) (.tmp 36) rfl rfl V4.out.1 rfl (K1.out.grown g6) (by have := HL.out; omega) ?_; intro p5 c5 w5 v5 o5 q5; have g7 : Grown w w5 := o5.grown g6 V4.out.2; have V5 : Hid (Vec w5 3 1 p5 (len0 + len1) c5 (fun j => .int .i64 (cat y0 y1 len0 j))) := v5; clear g6 v5 o5 q5)
              | (go_at_call 13; refine (total_bad w p5 (len0 + len1) c5 (cat y0 y1 len0) _ (Sl.of_vec V5.out) (by have := HL.out; omega) g7 T3.out E3.out).mono ?_; rintro e w6 ⟨b3, rfl, f3, g9⟩; have F3 : Hid (FaultIs w6 (.iface 46 (.pointer (some ⟨b3, 0, none⟩))) 2 p3 m3) := f3; clear f3; clear g7)
              | (go_at_call 18; refine (number_c _ 2 p3 m3 _ (hl.grown g9) F3.out).mono ?_; rintro e w7 ⟨rfl, g10⟩))
            go_ret
            exact ⟨rfl, grownTrans g9 g10⟩
          · obtain ⟨e3, rfl⟩ := r5 hx
            have E1 : Hid (n1 = 0) := e1
            have E2 : Hid (n2 = 0) := e2
            have E3 : Hid (n3 = 0) := e3
            clear r4 r5 e1 e2 e3
            go_enter Tryd.func7, Tryd.ntmps7
            go_wp2_with (first
              | (go_at_call 8; refine sm.mono ?_; rintro e w1 ⟨rfl, g1⟩; clear sm)
              | (go_at_call 13; refine (total_nil w a0 len0 cap0 y0 _ (K0.out.grown g1) (by have := HL.out.1; omega) g1 T1.out E1.out).mono ?_; rintro e w2 ⟨rfl, g3⟩; clear g1)
              | (go_at_call 13; refine (total_nil w a1 len1 cap1 y1 _ (K1.out.grown g3) (by have := HL.out.2; omega) g3 T2.out E2.out).mono ?_; rintro e w3 ⟨rfl, g5⟩; clear g3)
              | (at_builtin; refine wpList_append_sl rfl (.tmp 33) (.tmp 34) rfl rfl (vec_empty _ (fun _ => 0)) rfl ((K0.out.grown g5).grown ((Grown.refl _).alloc _ _)) (by have := HL.out.1; omega) ?_; intro p4 c4 w4 v4 o4 q4; have r4 := append_keeps g5 o4 q4; have g6 := r4.1; have V4 : Hid (Vec w4 3 1 p4 len0 c4 (fun j => .int .i64 (y0 j)) ∧ ∀ i, In p4 i → w.heap.size ≤ i) := ⟨vec_first v4, r4.2⟩; clear r4 g5 v4 o4 q4)
              | (at_builtin; refine wpList_append_sl rfl (.tmp 35) (.tmp 36) rfl rfl V4.out.1 rfl (K1.out.grown g6) (by have := HL.out; omega) ?_; intro p5 c5 w5 v5 o5 q5; have g7 : Grown w w5 := o5.grown g6 V4.out.2; have V5 : Hid (Vec w5 3 1 p5 (len0 + len1) c5 (fun j => .int .i64 (cat y0 y1 len0 j))) := v5; clear g6 v5 o5 q5)
              | (go_at_call 13; refine (total_nil w p5 (len0 + len1) c5 (cat y0 y1 len0) _ (Sl.of_vec V5.out) (by have := HL.out; omega) g7 T3.out E3.out).mono ?_; rintro e w6 ⟨rfl, g9⟩; clear g7))
            go_ret
            exact ⟨rfl, g9⟩
        · obtain ⟨e3, rfl⟩ := r2 e1 e2
          have E1 : Hid (n1 = 0) := e1
          have E2 : Hid (n2 ≠ 0) := e2
          have E3 : Hid (n3 ≠ 0) := e3
          clear r1 r2 r3 e1 e2 e3
          go_enter Tryd.func7, Tryd.ntmps7
          go_wp2_with (first
            | (go_at_call 8; refine sm.mono ?_; rintro e w1 ⟨rfl, g1⟩; clear sm)
            | (go_at_call 13; refine (total_nil w a0 len0 cap0 y0 _ (K0.out.grown g1) (by have := HL.out.1; omega) g1 T1.out E1.out).mono ?_; rintro e w2 ⟨rfl, g3⟩; clear g1)
            | (go_at_call 13; refine (total_bad w a1 len1 cap1 y1 _ (K1.out.grown g3) (by have := HL.out.2; omega) g3 T2.out E2.out).mono ?_; rintro e w3 ⟨b2, rfl, f2, g5⟩; clear f2; clear g3)
            | (at_builtin; refine wpList_append_sl rfl (.tmp 33) (.tmp 34) rfl rfl (vec_empty _ (fun _ => 0)) rfl ((K0.out.grown g5).grown ((Grown.refl _).alloc _ _)) (by have := HL.out.1; omega) ?_; intro p4 c4 w4 v4 o4 q4; have r4 := append_keeps g5 o4 q4; have g6 := r4.1; have V4 : Hid (Vec w4 3 1 p4 len0 c4 (fun j => .int .i64 (y0 j)) ∧ ∀ i, In p4 i → w.heap.size ≤ i) := ⟨vec_first v4, r4.2⟩; clear r4 g5 v4 o4 q4)
            | (at_builtin; refine wpList_append_sl rfl (.tmp 35) (.tmp 36) rfl rfl V4.out.1 rfl (K1.out.grown g6) (by have := HL.out; omega) ?_; intro p5 c5 w5 v5 o5 q5; have g7 : Grown w w5 := o5.grown g6 V4.out.2; have V5 : Hid (Vec w5 3 1 p5 (len0 + len1) c5 (fun j => .int .i64 (cat y0 y1 len0 j))) := v5; clear g6 v5 o5 q5)
            | (go_at_call 13; refine (total_bad w p5 (len0 + len1) c5 (cat y0 y1 len0) _ (Sl.of_vec V5.out) (by have := HL.out; omega) g7 T3.out E3.out).mono ?_; rintro e w6 ⟨b3, rfl, f3, g9⟩; clear f3; clear g7))
          go_ret
          exact ⟨rfl, g9⟩
      · obtain ⟨e3, rfl⟩ := r1 e1
        have E1 : Hid (n1 ≠ 0) := e1
        have E3 : Hid (n3 ≠ 0) := e3
        clear r1 r2 r3 e1 e3
        go_enter Tryd.func7, Tryd.ntmps7
        go_wp2_with (first
          | (go_at_call 8; refine sm.mono ?_; rintro e w1 ⟨rfl, g1⟩; clear sm)
          | (go_at_call 13; refine (total_bad w a0 len0 cap0 y0 _ (K0.out.grown g1) (by have := HL.out.1; omega) g1 T1.out E1.out).mono ?_; rintro e w2 ⟨b1, rfl, f1, g3⟩; clear f1; clear g1)
          | (go_at_call 13; refine (total_any w a1 len1 cap1 y1 _ (K1.out.grown g3) (by have := HL.out.2; omega) g3 T2.out).mono ?_; rintro e w3 ⟨v2, rfl, f2, g5⟩; clear f2; clear g3)
          | (at_builtin; refine wpList_append_sl rfl (.tmp 33) (.tmp 34) rfl rfl (vec_empty _ (fun _ => 0)) rfl ((K0.out.grown g5).grown ((Grown.refl _).alloc _ _)) (by have := HL.out.1; omega) ?_; intro p4 c4 w4 v4 o4 q4; have r4 := append_keeps g5 o4 q4; have g6 := r4.1; have V4 : Hid (Vec w4 3 1 p4 len0 c4 (fun j => .int .i64 (y0 j)) ∧ ∀ i, In p4 i → w.heap.size ≤ i) := ⟨vec_first v4, r4.2⟩; clear r4 g5 v4 o4 q4)
          | (at_builtin; refine wpList_append_sl rfl (.tmp 35) (.tmp 36) rfl rfl V4.out.1 rfl (K1.out.grown g6) (by have := HL.out; omega) ?_; intro p5 c5 w5 v5 o5 q5; have g7 : Grown w w5 := o5.grown g6 V4.out.2; have V5 : Hid (Vec w5 3 1 p5 (len0 + len1) c5 (fun j => .int .i64 (cat y0 y1 len0 j))) := v5; clear g6 v5 o5 q5)
          | (go_at_call 13; refine (total_bad w p5 (len0 + len1) c5 (cat y0 y1 len0) _ (Sl.of_vec V5.out) (by have := HL.out; omega) g7 T3.out E3.out).mono ?_; rintro e w6 ⟨b3, rfl, f3, g9⟩; clear f3; clear g7))
        go_ret
        exact ⟨rfl, g9⟩

/-! ### The row's step -/
set_option maxRecDepth 100000 in
theorem lifted (os : Os) (started : os.Started) (H : Type) (enc : TypeId × Value → H) :
    ReturnsInHanded {} Tryd.checked os 7 .any (fun w args => (Rows.weighSumsSpec.pre enc Tryd.prog Tryd.f7 [] false w args ∧ laidMetH Tryd.prog [("errors.errorType", Rows.laid_errors_errorType)] w) ∧ sizedMet enc Tryd.prog Tryd.f7 (OpenSpec.ofChange Rows.weighSumsSpec) false w args) (Rows.weighSumsSpec.post enc Tryd.prog Tryd.f7 false true false false) := by
  refine returns_shaped (C := Tryd.checked) (X := fun w _ => laidMetH Tryd.prog [("errors.errorType", Rows.laid_errors_errorType)] w) (fun _ _ _ hh h => h.of_heap hh) Tryd.own started (by kernel_rfl) Tryd.func7
    (ChangeSpec.witness_at (enc := enc) (C := Tryd.checked) (os := os) (X := fun w _ => laidMetH Tryd.prog [("errors.errorType", Rows.laid_errors_errorType)] w) false (laidWorld os) #[.slice none 0 0, .slice none 0 0] 8 rfl (by kernel_rfl) (by kernel_rfl) (by kernel_rfl) (by kernel_rfl) (by kernel_rfl) (laidWorld_met os _)) ?_
  intro W base args ds gs before hval0 hW hcnd hL hsh
  have hval : ∀ (j : Nat) t v, Tryd.f7.params[j]? = some t → args[j]? = some v → Value.okWide Tryd.prog W .any base t v := hval0
  have hW' := hW
  obtain ⟨p, q, hA0, hV, rfl, hfz, hnd⟩ := hW
  have hA : DataW.TrodAll enc Tryd.prog W 0 (fun _ => true) true Tryd.f7.params.toList args.toList ds p := hA0
  rw [Tryd.params7] at hA hval
  obtain ⟨v0, vs0, d0, ds0, p0, q0, hargs, rfl, rfl, h0, r0⟩ := trodAll_cons hA
  obtain ⟨v1, vs1, d1, ds1, p1, q1, rfl, rfl, rfl, h1, r1⟩ := trodAll_cons r0
  obtain ⟨rfl, rfl, rfl⟩ := trodAll_nil r1
  obtain rfl : args = #[v0, v1] := by cases args; simp_all
  obtain ⟨rfl, rfl⟩ := trodVars_none hV
  obtain ⟨a0, len0, cap0, rfl⟩ := okWide_slice Tryd.underlying32 (hval 0 32 v0 rfl rfl)
  have k0 := h0
  have lt0 : ∀ x ∈ p0, x.block < W.heap.size := by obtain ⟨m, hm⟩ := k0; exact DataW.trod_lt m _ _ _ hm
  obtain ⟨z0, w0⟩ : ∃ zs, IsInts .i64 W a0 len0 cap0 zs := by
    obtain ⟨fuel, hf⟩ := h0
    rcases open_ints Tryd.underlying32 Tryd.underlying3 (by kernel_rfl) hf with ⟨hcs, _⟩ | ⟨x, l, c, zs, hcs, _, hl, hm, hz, _, hcell, hwz⟩
    · simp [Value.cells] at hcs
      obtain ⟨rfl, rfl, rfl⟩ := hcs
      exact ⟨[], .inl ⟨rfl, rfl, rfl, rfl⟩⟩
    · simp [Value.cells] at hcs
      obtain ⟨rfl, rfl, rfl⟩ := hcs
      exact ⟨zs, .inr ⟨_, rfl, hl, hm, by simpa using hz, hcell, hwz⟩⟩
  obtain ⟨a1, len1, cap1, rfl⟩ := okWide_slice Tryd.underlying32 (hval 1 32 v1 rfl rfl)
  have k1 := h1
  have lt1 : ∀ x ∈ p1, x.block < W.heap.size := by obtain ⟨m, hm⟩ := k1; exact DataW.trod_lt m _ _ _ hm
  obtain ⟨z1, w1⟩ : ∃ zs, IsInts .i64 W a1 len1 cap1 zs := by
    obtain ⟨fuel, hf⟩ := h1
    rcases open_ints Tryd.underlying32 Tryd.underlying3 (by kernel_rfl) hf with ⟨hcs, _⟩ | ⟨x, l, c, zs, hcs, _, hl, hm, hz, _, hcell, hwz⟩
    · simp [Value.cells] at hcs
      obtain ⟨rfl, rfl, rfl⟩ := hcs
      exact ⟨[], .inl ⟨rfl, rfl, rfl, rfl⟩⟩
    · simp [Value.cells] at hcs
      obtain ⟨rfl, rfl, rfl⟩ := hcs
      exact ⟨zs, .inr ⟨_, rfl, hl, hm, by simpa using hz, hcell, hwz⟩⟩
  clear hA0 hval0
  refine (walk a0 len0 cap0 z0 a1 len1 cap1 z1 W (laid_of_met hL) hsh w0 w1).mono fun e W' ⟨he, bel⟩ => ?_
  subst he
  exact ⟨_, rfl, _, _, _, [], _, [], hW', trodAll_mk1 (shut_bool Tryd.underlying4 _), (trodAll_cons_mk (grown_trod laidOut (by kernel_rfl) (of_decide_eq_true (by kernel_rfl)) k0 bel lt0) (trodAll_cons_mk (grown_trod laidOut (by kernel_rfl) (of_decide_eq_true (by kernel_rfl)) k1 bel lt1) trodAll_mk0)), rfl, bel.frame _, fun h => by cases h⟩

theorem over : Rows.weighSumsRow.holds Tryd.pinned (OpenSpec.ofChange Rows.weighSumsSpec) :=
  OpenClaim.holds_of_wide 7 Tryd.f7 rfl rfl rfl rfl rfl rfl rfl ⟨rfl, rfl, rfl, rfl, rfl⟩ rfl rfl rfl rfl rfl (by kernel_rfl) Tryd.func7 (by kernel_rfl)
    (of_decide_eq_true (by kernel_rfl)) (by unfold Func.isWrapper; first | (rw [if_pos (by decide +kernel)]; kernel_rfl) | (rw [if_neg (by decide +kernel)]; exact ⟨rfl, rfl⟩))
    (fun os started H enc _ => lifted os started H enc)

/-- The card. -/
theorem proved : Rows.WeighSumsCardSaid :=
  Claim7.holds_tied_plain_at .later [] [.handle] true (true, "7c0d3a6685830967f2fe3e3cb369958f5e15f0aaa0081ead27bd5149047de32e") true
    over (fun _ h => by cases h) (by kernel_rfl) (fun _ h => by cases h) weighSums_row_tie rfl ⟨rfl, rfl⟩ (by kernel_rfl) rfl
    (fun f fn hf hfn => by
      obtain rfl : f = 7 := Option.some.inj ((show Tryd.prog.funcNamed "pantry/pantrylaw08.WeighSums" = some 7 by kernel_rfl).symm.trans hf) |>.symm
      obtain rfl : fn = Tryd.f7 := (Option.some.inj (Tryd.func7.symm.trans hfn)).symm
      exact ⟨by kernel_rfl, fun j t ht => noStandIn (by kernel_rfl) ht⟩)
    (by kernel_rfl)
end Go.Proofs.YtjdaacmopgfolaaDoor.weighSums

namespace Go.Proofs.YtjdaacmopgfolaaDoor
/-- The given statement. -/
theorem weighSums_holds : Rows.WeighSumsCardSaid := weighSums.proved
#print axioms weighSums_holds
end Go.Proofs.YtjdaacmopgfolaaDoor
