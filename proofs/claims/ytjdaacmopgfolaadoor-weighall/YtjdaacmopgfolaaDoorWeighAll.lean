/-
  Proved: pantrylaw08.WeighAll returns true for every two slices of numbers and every capacity: what may come in of many, and the first that may not (P8.4). Conditions: errors.errorType holds what the program's text lays (tied by the card); internal/strconv.uint64pow10 may hold any twenty numbers.
-/
import Derived.Test.YtjdaacmopgfolaaDoorRows
import Derived.WalkKit
import Derived.ProofKit
import Derived.OpenShut
import Derived.Test.YtjdaacmopgfolaaDoorWgFirst
import Derived.Test.YtjdaacmopgfolaaDoorGenCls
import Derived.ShutString
import Derived.ChangeOld
import Derived.Below
import Derived.Test.YtjdaacmopgfolaaDoorGenArgs
import Derived.Test.YtjdaacmopgfolaaDoorWgLaid
import Derived.Test.YtjdaacmopgfolaaDoorTie
import Derived.Test.YtjdaacmopgfolaaDoorCards
import Derived.SevenTiedAt
namespace Go.Proofs.YtjdaacmopgfolaaDoor.weighAll
open Go.ChangeShapes Go.WideShapes Go.ChangeAt Go.RowKit
set_option linter.unusedVariables false

theorem laidOut : laidOutB Tryd.prog = true := by kernel_rfl

/-! ### The walk: the law returns true, and writes nothing that was there -/
set_option maxRecDepth 100000 in set_option maxHeartbeats 4000000 in
theorem walk (a0 : Option Addr) (len0 cap0 : Nat) (z0 : List Int) (a1 : Option Addr) (len1 cap1 : Nat) (z1 : List Int) (a2 : Int) (w : World) (hl : Laid w) (hs : w.ShapedOpen Tryd.prog) (w0 : IsInts .i64 w a0 len0 cap0 z0) (w1 : IsInts .i64 w a1 len1 cap1 z1) (w2 : (Lit.int .i64 a2).wf = true) :
    Calls Tryd.prog 5 #[.slice a0 len0 cap0, .slice a1 len1 cap1, .int .i64 a2] w fun e w' => e = .returned (.bool true) ∧ Grown w w' := by
  obtain ⟨T, hT⟩ := tab_ex hs
  clear hs
  have HT : Hid (Tab w T) := hT
  clear hT
  have sm := wSmall w hl
  have i0 := ints_in64 w0
  have i1 := ints_in64 w1
  have k0 : Sl w a0 len0 (fun i => z0.getD i 0) := keys_open w0
  have k1 : Sl w a1 len1 (fun i => z1.getD i 0) := keys_open w1
  clear w0 w1 w2
  obtain ⟨y0, hy0⟩ : ∃ y : Nat → Int, y = fun i => z0.getD i 0 := ⟨_, rfl⟩
  obtain ⟨y1, hy1⟩ : ∃ y : Nat → Int, y = fun i => z1.getD i 0 := ⟨_, rfl⟩
  have I0 : Hid (∀ i, i < len0 → In64 (y0 i)) := by rw [hy0]; exact i0
  have I1 : Hid (∀ i, In64 (wat y1 len1 i)) := by
    have e : ∀ i, i < len1 → In64 (y1 i) := by rw [hy1]; exact i1
    exact fun i => wat_in64 e i
  have K0 : Hid (Sl w a0 len0 y0) := by rw [hy0]; exact k0
  have K1 : Hid (Sl w a1 len1 y1) := by rw [hy1]; exact k1
  clear hy0 hy1 i0 i1 z0 z1 k0 k1
  by_cases h0 : 200 < (len0 : Int)
  · go_enter Tryd.func5, Tryd.ntmps5
    go_wp2_with (first | (go_at_call 8; refine sm.mono ?_; rintro e w1 ⟨rfl, g1⟩))
    go_ret
    exact ⟨rfl, g1⟩
  · by_cases h1 : 400 < (len1 : Int)
    · go_enter Tryd.func5, Tryd.ntmps5
      go_wp2_with (first | (go_at_call 8; refine sm.mono ?_; rintro e w1 ⟨rfl, g1⟩))
      go_ret
      exact ⟨rfl, g1⟩
    · have HL : Hid (len0 ≤ 200) := by show len0 ≤ 200; omega
      have x0 : (len0 == len0) = true := by simp
      go_enter Tryd.func5, Tryd.ntmps5
      go_wp2_with (first
        | (go_at_call 8; refine sm.mono ?_; rintro e w1 ⟨rfl, g1⟩; clear sm)
        | (go_at_call 16; refine (all_c a0 a1 len0 cap0 len1 cap1 y0 y1 a2 _ (K0.out.grown g1) (K1.out.grown g1) (by have := HL.out; omega)).mono ?_; rintro e w2 ⟨r, rfl, al, g2⟩; have g3 := grownTrans g1 g2; have HA : Hid (AllIs w2 r len0 y0 (wat y1 len1) a2) := al; clear g1 g2 al))
      have HG : Hid (Grown w w2) := g3
      clear g3
      go_loopw [9, 10, 11, 12] (fun f a m i wr => ∃ (k : Nat) (F A M : Int), k ≤ len0 ∧ f = .int .i64 F ∧ a = .int .i64 A ∧ m = .int .i64 M ∧ i = .int .i64 k ∧ Hid (FirstIs k y0 (wat y1 len1) a2 F A M ∧ Grown w2 wr)) (fun _ _ _ i _ => len0 - (intOf i).toNat)
      case atStart => exact ⟨0, 0, 0, 0, by omega, rfl, rfl, rfl, rfl, FirstIs.zero _ _ _, Grown.refl _⟩
      case round =>
        obtain ⟨k, F, A, M, hkl, rfl, rfl, rfl, rfl, HR⟩ := hrel
        by_cases hlt : k < len0
        · obtain ⟨X, hX⟩ : ∃ X, X = wat y1 len1 k := ⟨_, rfl⟩
          obtain ⟨Y, hY⟩ : ∃ Y, Y = y0 k := ⟨_, rfl⟩
          obtain ⟨N, hN⟩ : ∃ N, N = adm X a2 := ⟨_, rfl⟩
          have cR := refAdmit_c X a2
          rw [← hN] at cR
          have HX : Hid (X = wat y1 len1 k ∧ Y = y0 k ∧ N = adm X a2) := ⟨hX, hY, hN⟩
          obtain ⟨B, v, rfl, cv, fv⟩ := HA.out.at hlt
          obtain ⟨B0, off0, ha0, cy⟩ := (K0.out.grown HG.out).at hlt
          subst ha0
          have CV : Hid (w2.cell? ⟨B, k, none⟩ = some v ∧ FaultIs w2 v N Y X ∧ w2.cell? ⟨B0, off0 + k, none⟩ = some (.int .i64 Y)) := by
            rw [← hX, ← hY, ← hN] at fv
            rw [← hY] at cy
            exact ⟨cv, fv, cy⟩
          have b0 : B < w2.heap.size := cell_lt cv
          have b1 : B0 < w2.heap.size := cell_lt cy
          have HI : Hid (In64 N ∧ In64 Y ∧ In64 X) := ⟨by rw [hN]; exact adm_in64 _ _, by rw [hY]; exact I0.out k hlt, by rw [hX]; exact I1.out k⟩
          obtain ⟨Good, hGood⟩ : ∃ Good : World → Prop, Good = fun W => Grown w2 W := ⟨_, rfl⟩
          have GO : Hid (∀ W, Good W → Grown w2 W) := fun W h => by rw [hGood] at h; exact h
          have GD : Hid (∀ W, Grown w2 W → Good W.drew) := fun W h => by rw [hGood]; exact h.drew
          have k1 : ∀ q : Wor Good, q.w.cell? ⟨B, k, none⟩ = some v := fun q => (World.cell?_of_block (w := w2) (grown_block (GO.out _ q.h) b0)).trans cv
          have k2 : ∀ q : Wor Good, q.w.cell? ⟨B0, off0 + k, none⟩ = some (.int .i64 Y) := fun q => keys_cell CV.out.2.2 b1 (GO.out _ q.h)
          have CF : Hid (∀ q : Wor Good, Calls Tryd.prog 12 #[v, .int .i64 N, .int .i64 Y, .int .i64 X] q.w fun e w' => e = .returned (.bool true) ∧ ∃ q' : Wor Good, w' = q'.w) := fun q =>
            calls_class ((fault_c w2 q.w T v N Y X (hl.grown (grownTrans HG.out (GO.out _ q.h))) (HT.out.grown (grownTrans HG.out (GO.out _ q.h))) (CV.out.2.1.grown (GO.out _ q.h)) HI.out.1 HI.out.2.1 HI.out.2.2 (GO.out _ q.h)).mono fun _ _ ⟨he, hh⟩ => ⟨he, by rw [hGood]; exact hh⟩)
          have hne : Nonempty (Wor Good) := ⟨⟨_, GD.out _ HR.out.2⟩⟩
          have hcase : (F = 0 ∧ N = 0) ∨ (F = 0 ∧ N ≠ 0) ∨ F ≠ 0 := by omega
          clear hGood hX hY hN cv fv cy CV
          by_cases hw1 : k < len1
          · have cw : ∃ B1 off1, a1 = some ⟨B1, off1, none⟩ ∧ wr.cell? ⟨B1, off1 + k, none⟩ = some (.int .i64 X) := by
              obtain ⟨B1, off1, e, c⟩ := (K1.out.grown (grownTrans HG.out HR.out.2)).at hw1
              rw [HX.out.1, wat, if_pos hw1]
              exact ⟨B1, off1, e, c⟩
            obtain ⟨B1, off1, rfl, cw⟩ := cw
            have c0 := cR wr
            clear cR
            go_wp2_with (first | (go_at_call 10; refine c0.mono ?_; rintro e w' ⟨rfl, hw⟩; have hw := hw.symm; subst hw))
            clear c0 cw
            refine wp_region_class (Good := Good) (by kernel_rfl) (by kernel_rfl) (GD.out _ HR.out.2) ?_
            repeat (go_big_quiet_step (first | (go_at_call 12; exact CF.out _)))
            refine wpQuiet_nil ?_
            intro _ hw'
            obtain ⟨q, hw''⟩ := hw'
            subst hw''
            have HGO : Hid (Grown w2 q.w) := GO.out _ q.h
            have cy := k2 q
            clear k1 k2
            rcases hcase with ⟨hF, hN⟩ | ⟨hF, hN⟩ | hF
            · subst hF
              subst hN
              go_wp2
              go_roundw
              case rel => exact ⟨k + 1, _, _, _, by omega, rfl, rfl, rfl, by go_num, HR.out.1.next rfl (by rw [← HX.out.1]; exact HX.out.2.2.symm), HGO.out⟩
              case measure => simp [intOf]; omega
            · subst hF
              go_wp2
              go_roundw
              case rel =>
                refine ⟨k + 1, _, _, _, by omega, rfl, rfl, rfl, by go_num, ?_, HGO.out⟩
                have e := HR.out.1.here rfl (by rw [← HX.out.1, ← HX.out.2.2]; exact hN)
                rw [← HX.out.1, ← HX.out.2.2, ← HX.out.2.1] at e
                exact e
              case measure => simp [intOf]; omega
            · go_wp2
              go_roundw
              case rel => exact ⟨k + 1, _, _, _, by omega, rfl, rfl, rfl, by go_num, HR.out.1.on hF, HGO.out⟩
              case measure => simp [intOf]; omega
          · obtain rfl : X = 0 := by rw [HX.out.1, wat, if_neg hw1]
            have cw : Hid True := trivial
            have c0 := cR wr
            clear cR
            go_wp2_with (first | (go_at_call 10; refine c0.mono ?_; rintro e w' ⟨rfl, hw⟩; have hw := hw.symm; subst hw))
            clear c0 cw
            refine wp_region_class (Good := Good) (by kernel_rfl) (by kernel_rfl) (GD.out _ HR.out.2) ?_
            repeat (go_big_quiet_step (first | (go_at_call 12; exact CF.out _)))
            refine wpQuiet_nil ?_
            intro _ hw'
            obtain ⟨q, hw''⟩ := hw'
            subst hw''
            have HGO : Hid (Grown w2 q.w) := GO.out _ q.h
            have cy := k2 q
            clear k1 k2
            rcases hcase with ⟨hF, hN⟩ | ⟨hF, hN⟩ | hF
            · subst hF
              subst hN
              go_wp2
              go_roundw
              case rel => exact ⟨k + 1, _, _, _, by omega, rfl, rfl, rfl, by go_num, HR.out.1.next rfl (by rw [← HX.out.1]; exact HX.out.2.2.symm), HGO.out⟩
              case measure => simp [intOf]; omega
            · subst hF
              go_wp2
              go_roundw
              case rel =>
                refine ⟨k + 1, _, _, _, by omega, rfl, rfl, rfl, by go_num, ?_, HGO.out⟩
                have e := HR.out.1.here rfl (by rw [← HX.out.1, ← HX.out.2.2]; exact hN)
                rw [← HX.out.1, ← HX.out.2.2, ← HX.out.2.1] at e
                exact e
              case measure => simp [intOf]; omega
            · go_wp2
              go_roundw
              case rel => exact ⟨k + 1, _, _, _, by omega, rfl, rfl, rfl, by go_num, HR.out.1.on hF, HGO.out⟩
              case measure => simp [intOf]; omega
        · obtain rfl : k = len0 := by omega
          have HJ : Hid (In64 F ∧ In64 A ∧ In64 M) := HR.out.1.in64 I0.out I1.out
          go_wp2_with (first
            | (go_at_call 17; refine (first_any r k k y0 (wat y1 len1) a2 _ (HA.out.grown HR.out.2) (by have := HL.out; omega) HR.out.1).mono ?_; rintro e w4 ⟨v, rfl, fv, g4⟩; have g5 := grownTrans HR.out.2 g4; have g6 := grownTrans HG.out g5; have FV : Hid (FaultIs w4 v F A M) := fv; clear g4 fv)
            | (go_at_call 12; refine (fault_c w _ T v F A M (hl.grown g6) (HT.out.grown g6) FV.out HJ.out.1 HJ.out.2.1 HJ.out.2.2 g6).mono ?_; rintro e w8 ⟨rfl, g8⟩))
          go_ret
          exact ⟨rfl, g8⟩

/-! ### The row's step -/
set_option maxRecDepth 100000 in
theorem lifted (os : Os) (started : os.Started) (H : Type) (enc : TypeId × Value → H) :
    ReturnsInHanded {} Tryd.checked os 5 .any (fun w args => (Rows.weighAllSpec.pre enc Tryd.prog Tryd.f5 [] false w args ∧ laidMetH Tryd.prog [("errors.errorType", Rows.laid_errors_errorType)] w) ∧ sizedMet enc Tryd.prog Tryd.f5 (OpenSpec.ofChange Rows.weighAllSpec) false w args) (Rows.weighAllSpec.post enc Tryd.prog Tryd.f5 false true false false) := by
  refine returns_shaped (C := Tryd.checked) (X := fun w _ => laidMetH Tryd.prog [("errors.errorType", Rows.laid_errors_errorType)] w) (fun _ _ _ hh h => h.of_heap hh) Tryd.own started (by kernel_rfl) Tryd.func5
    (ChangeSpec.witness_at (enc := enc) (C := Tryd.checked) (os := os) (X := fun w _ => laidMetH Tryd.prog [("errors.errorType", Rows.laid_errors_errorType)] w) false (laidWorld os) #[.slice none 0 0, .slice none 0 0, .int .i64 0] 8 rfl (by kernel_rfl) (by kernel_rfl) (by kernel_rfl) (by kernel_rfl) (by kernel_rfl) (laidWorld_met os _)) ?_
  intro W base args ds gs before hval0 hW hcnd hL hsh
  have hval : ∀ (j : Nat) t v, Tryd.f5.params[j]? = some t → args[j]? = some v → Value.okWide Tryd.prog W .any base t v := hval0
  have hW' := hW
  obtain ⟨p, q, hA0, hV, rfl, hfz, hnd⟩ := hW
  have hA : DataW.TrodAll enc Tryd.prog W 0 (fun _ => true) true Tryd.f5.params.toList args.toList ds p := hA0
  rw [Tryd.params5] at hA hval
  obtain ⟨v0, vs0, d0, ds0, p0, q0, hargs, rfl, rfl, h0, r0⟩ := trodAll_cons hA
  obtain ⟨v1, vs1, d1, ds1, p1, q1, rfl, rfl, rfl, h1, r1⟩ := trodAll_cons r0
  obtain ⟨v2, vs2, d2, ds2, p2, q2, rfl, rfl, rfl, h2, r2⟩ := trodAll_cons r1
  obtain ⟨rfl, rfl, rfl⟩ := trodAll_nil r2
  obtain rfl : args = #[v0, v1, v2] := by cases args; simp_all
  obtain ⟨rfl, rfl⟩ := trodVars_none hV
  obtain ⟨a0, len0, cap0, rfl⟩ := okWide_slice Tryd.underlying32 (hval 0 32 v0 rfl rfl)
  have k0 := h0
  have lt0 : ∀ x ∈ p0, x.block < W.heap.size := by obtain ⟨m, hm⟩ := k0; exact DataW.trod_lt m _ _ _ hm
  obtain ⟨z0, w0⟩ : ∃ zs, IsInts .i64 W a0 len0 cap0 zs := by
    obtain ⟨fuel, hf⟩ := h0
    rcases open_ints Tryd.underlying32 Tryd.underlying3 (by kernel_rfl) hf with ⟨hcs, _⟩ | ⟨x, l, c, zs, hcs, _, hl, hm, hz, _, hcell, hwz⟩
    · simp [Value.cells] at hcs
      obtain ⟨rfl, rfl, rfl⟩ := hcs
      exact ⟨[], .inl ⟨rfl, rfl, rfl, rfl⟩⟩
    · simp [Value.cells] at hcs
      obtain ⟨rfl, rfl, rfl⟩ := hcs
      exact ⟨zs, .inr ⟨_, rfl, hl, hm, by simpa using hz, hcell, hwz⟩⟩
  obtain ⟨a1, len1, cap1, rfl⟩ := okWide_slice Tryd.underlying32 (hval 1 32 v1 rfl rfl)
  have k1 := h1
  have lt1 : ∀ x ∈ p1, x.block < W.heap.size := by obtain ⟨m, hm⟩ := k1; exact DataW.trod_lt m _ _ _ hm
  obtain ⟨z1, w1⟩ : ∃ zs, IsInts .i64 W a1 len1 cap1 zs := by
    obtain ⟨fuel, hf⟩ := h1
    rcases open_ints Tryd.underlying32 Tryd.underlying3 (by kernel_rfl) hf with ⟨hcs, _⟩ | ⟨x, l, c, zs, hcs, _, hl, hm, hz, _, hcell, hwz⟩
    · simp [Value.cells] at hcs
      obtain ⟨rfl, rfl, rfl⟩ := hcs
      exact ⟨[], .inl ⟨rfl, rfl, rfl, rfl⟩⟩
    · simp [Value.cells] at hcs
      obtain ⟨rfl, rfl, rfl⟩ := hcs
      exact ⟨zs, .inr ⟨_, rfl, hl, hm, by simpa using hz, hcell, hwz⟩⟩
  obtain ⟨a2, rfl, rfl, rfl, w2⟩ := open_int Tryd.underlying3 (hval 2 3 v2 rfl rfl) h2
  clear hA0 hval0
  refine (walk a0 len0 cap0 z0 a1 len1 cap1 z1 a2 W (laid_of_met hL) hsh w0 w1 w2).mono fun e W' ⟨he, bel⟩ => ?_
  subst he
  exact ⟨_, rfl, _, _, _, [], _, [], hW', trodAll_mk1 (shut_bool Tryd.underlying4 _), (trodAll_cons_mk (grown_trod laidOut (by kernel_rfl) (of_decide_eq_true (by kernel_rfl)) k0 bel lt0) (trodAll_cons_mk (grown_trod laidOut (by kernel_rfl) (of_decide_eq_true (by kernel_rfl)) k1 bel lt1) (trodAll_cons_mk (shut_int Tryd.underlying3 w2) trodAll_mk0))), rfl, bel.frame _, fun h => by cases h⟩

theorem over : Rows.weighAllRow.holds Tryd.pinned (OpenSpec.ofChange Rows.weighAllSpec) :=
  OpenClaim.holds_of_wide 5 Tryd.f5 rfl rfl rfl rfl rfl rfl rfl ⟨rfl, rfl, rfl, rfl, rfl⟩ rfl rfl rfl rfl rfl (by kernel_rfl) Tryd.func5 (by kernel_rfl)
    (of_decide_eq_true (by kernel_rfl)) (by unfold Func.isWrapper; first | (rw [if_pos (by decide +kernel)]; kernel_rfl) | (rw [if_neg (by decide +kernel)]; exact ⟨rfl, rfl⟩))
    (fun os started H enc _ => lifted os started H enc)

/-- The card. -/
theorem proved : Rows.WeighAllCardSaid :=
  Claim7.holds_tied_plain_at .later [] [.handle] true (true, "7c0d3a6685830967f2fe3e3cb369958f5e15f0aaa0081ead27bd5149047de32e") true
    over (fun _ h => by cases h) (by kernel_rfl) (fun _ h => by cases h) weighAll_row_tie rfl ⟨rfl, rfl⟩ (by kernel_rfl) rfl
    (fun f fn hf hfn => by
      obtain rfl : f = 5 := Option.some.inj ((show Tryd.prog.funcNamed "pantry/pantrylaw08.WeighAll" = some 5 by kernel_rfl).symm.trans hf) |>.symm
      obtain rfl : fn = Tryd.f5 := (Option.some.inj (Tryd.func5.symm.trans hfn)).symm
      exact ⟨by kernel_rfl, fun j t ht => noStandIn (by kernel_rfl) ht⟩)
    (by kernel_rfl)
end Go.Proofs.YtjdaacmopgfolaaDoor.weighAll

namespace Go.Proofs.YtjdaacmopgfolaaDoor
/-- The given statement. -/
theorem weighAll_holds : Rows.WeighAllCardSaid := weighAll.proved
#print axioms weighAll_holds
end Go.Proofs.YtjdaacmopgfolaaDoor
