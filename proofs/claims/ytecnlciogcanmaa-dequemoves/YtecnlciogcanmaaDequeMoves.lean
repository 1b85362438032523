/-
  Proved: pantrylaw07.DequeMoves returns true for every slice of numbers and every row of moves: what is moved from row to row keeps its weight, and all rows together weigh as much, and hold as many (P7.2, P7.4). No condition.
-/
import Derived.Test.YtecnlciogcanmaaRows
import Derived.WalkKit
import Derived.ProofKit
import Derived.OpenShut
import Derived.Test.YtecnlciogcanmaaDqTot
import Derived.Test.YtecnlciogcanmaaGenCls
import Derived.Deep.CutRange
import Derived.Deep.RegionHeld3
import Derived.ShutString
import Derived.ChangeOld
import Derived.Below
import Derived.Test.YtecnlciogcanmaaGenArgs
namespace Go.Proofs.Ytecnlciogcanmaa.dequeMoves
open Go.ChangeShapes Go.WideShapes Go.ChangeAt Go.RowKit
set_option linter.unusedVariables false

theorem own : ownKnob Try.prog.godebug = none := by kernel_rfl
theorem laidOut : laidOutB Try.prog = true := by kernel_rfl

/-! ### The walk: the law returns true, and writes nothing that was there -/
set_option maxRecDepth 100000 in set_option maxHeartbeats 16000000 in
theorem walk (a0 : Option Addr) (len0 cap0 : Nat) (z0 : List Int) (a1 : Option Addr) (len1 cap1 : Nat) (z1 : Nat → Nat → Int) (w : World) (w0 : IsInts .i64 w a0 len0 cap0 z0) (w1 : IsGrid .i64 2 w a1 len1 cap1 z1) :
    Calls Try.prog 7 #[.slice a0 len0 cap0, .slice a1 len1 cap1] w fun e w' => e = .returned (.bool true) ∧ Grown w w' := by
  have hk := keys_open w0
  have hg := grid_open (by decide) w1
  have hwf : ∀ i, i < len1 → ∀ j, j < 2 → (Lit.int .i64 (z1 i j)).wf = true := fun i hi j hj => by
    rcases w1 with ⟨_, h, _⟩ | ⟨_, _, _, _, h⟩
    · omega
    · exact (h i hi j hj).2
  clear w0 w1
  by_cases hl : len0 ≤ 60 ∧ len1 ≤ 100
  · obtain ⟨hl0, hl1⟩ := hl
    have d0 : decide (60 < (len0 : Int)) = false := by rw [decide_eq_false_iff_not]; omega
    have d1 : decide (100 < (len1 : Int)) = false := by rw [decide_eq_false_iff_not]; omega
    have nw := fun w g => new_i 4 w w g
    unfold ptr at nw
    go_enter Try.func7, Try.ntmps7
    go_wp2_with (first | (go_at_call 8; refine (dSmall_any _).mono ?_; rintro e ws ⟨rfl, hgs⟩) | (go_at_call 9; refine (nw _ (Grown.refl _)).mono ?_; rintro e wx ⟨X, rfl, hx⟩))
    go_loopw [7, 8, 9] (fun sv nv iv wr => ∃ (j : Nat) (t : Ds), j ≤ len0 ∧ sv = .int .i64 (t.tot 4) ∧ nv = .int .i64 (t.cnt 4 : Int) ∧ iv = .int .i64 (j : Int) ∧ t.n = 4 ∧ 0 ≤ t.tot 4 ∧ t.tot 4 ≤ 60 * j ∧ t.cnt 4 ≤ j ∧ Dqi ws wr X t none 0 0 (fun _ => .int .i64 0)) (fun _ _ iv _ => len0 - (intOf iv).toNat)
    case atStart => exact ⟨0, Ds.zero 4, by omega, rfl, rfl, rfl, rfl, by decide, by decide, by decide, hx⟩
    case round =>
      clear hx nw
      obtain ⟨j, t, hj, rfl, rfl, rfl, htn, hs0, hs1, hc1, ht⟩ := hrel
      by_cases hlt : j < len0
      · have hkk := hk
        rcases hkk with h0 | ⟨kb, off, rfl, hkb, hcell⟩
        · omega
        have ck := keys_cell (hcell j hlt) hkb (grownTrans hgs ht.old)
        obtain ⟨key, hkey⟩ : ∃ key, key = z0.getD j 0 := ⟨_, rfl⟩
        rw [← hkey] at ck
        have hd : decide ((j : Int) < (len0 : Int)) = true := by rw [decide_eq_true_eq]; omega
        obtain ⟨l, HLl⟩ : ∃ l, Hid (l = bits .and .i64 (j : Int) 3) := ⟨_, rfl⟩
        have pu := push_i ht l key (j : Int)
        by_cases he : t.pushE l key (j : Int) = 0
        · obtain ⟨r1, r2, r3, r4⟩ := Ds.pushE_zero he
          have a := Ds.tot_push t l.toNat key (j : Int) 4
          rw [if_pos (by omega), if_pos (by omega)] at a
          rw [he, Ds.pushI_zero he] at pu
          obtain ⟨t', ht'⟩ : ∃ t', t' = t.push l.toNat key (j : Int) := ⟨_, rfl⟩
          have htn' : t'.n = 4 := by rw [ht']; exact htn
          rw [← ht'] at pu a
          obtain ⟨S, hS⟩ : ∃ S, S = t.tot 4 := ⟨_, rfl⟩
          obtain ⟨C, hC⟩ : ∃ C, C = t.cnt 4 := ⟨_, rfl⟩
          rw [← hS, ← hC] at a
          rw [← hS] at hs0 hs1 ⊢
          rw [← hC] at hc1 ⊢
          have HT : Hid (t'.n = 4 ∧ t'.tot 4 = S + (j : Int) ∧ t'.cnt 4 = C + 1) := ⟨htn', a.1, a.2⟩
          clear hcell hkey ht' ht htn hk he r1 r2 r3 r4 a htn' hS hC hg hwf
          rw [HLl.out] at pu
          unfold ptr at pu
          go_wp2_with (first | (go_at_call 11; refine pu.mono ?_; rintro e w1 ⟨rfl, h1⟩))
          go_roundw
          case rel => exact ⟨j + 1, t', by omega, by rw [HT.out.2.1], by rw [HT.out.2.2]; go_num, by go_num, HT.out.1, by rw [HT.out.2.1]; omega, by rw [HT.out.2.1]; omega, by rw [HT.out.2.2]; omega, h1⟩
          case measure => simp [intOf]; omega
        · rw [Ds.pushI_not he] at pu
          have he' : (t.pushE l key (j : Int) == 0) = false := by simpa using he
          obtain ⟨E, hE⟩ : ∃ E, E = t.pushE l key (j : Int) := ⟨_, rfl⟩
          rw [← hE] at pu he'
          clear hcell hkey ht hk he hE hg hwf
          rw [HLl.out] at pu
          unfold ptr at pu
          go_wp2_with (first | (go_at_call 11; refine pu.mono ?_; rintro e w1 ⟨rfl, h1⟩))
          go_roundw
          case rel => exact ⟨j + 1, t, by omega, rfl, rfl, by go_num, htn, hs0, by omega, by omega, h1⟩
          case measure => simp [intOf]; omega
      · have hd : decide ((j : Int) < (len0 : Int)) = false := by rw [decide_eq_false_iff_not]; omega
        obtain ⟨S, hS⟩ : ∃ S, S = t.tot 4 := ⟨_, rfl⟩
        obtain ⟨C, hC⟩ : ∃ C, C = t.cnt 4 := ⟨_, rfl⟩
        rw [← hS] at hs0 hs1 ⊢
        rw [← hC] at hc1 ⊢
        have hS1 : S ≤ 3600 := by omega
        have hC1 : C ≤ 60 := by omega
        clear hs1 hc1
        go_wp2_with fail
        go_loopw [10] (fun iv wi => ∃ (q : Nat) (t : Ds), q ≤ len1 ∧ iv = .int .i64 (q : Int) ∧ t.n = 4 ∧ t.tot 4 = S ∧ t.cnt 4 = C ∧ Dqi ws wi X t none 0 0 (fun _ => .int .i64 0)) (fun iv _ => len1 - (intOf iv).toNat)
        case atStart => exact ⟨0, t, by omega, rfl, htn, hS.symm, hC.symm, ht⟩
        case round =>
          clear ht htn t hk hS hC
          obtain ⟨q, t, hq, rfl, htn, htS, htC, ht⟩ := hrel
          have hw := ht.wf
          by_cases hlt : q < len1
          · have hdq : decide ((q : Int) < (len1 : Int)) = true := by rw [decide_eq_true_eq]; omega
            have hgg := hg
            rcases hgg with h0 | ⟨mb, moff, rfl, hmb, hcell⟩
            · omega
            have hwx := hwf q hlt 0 (by omega)
            have HC : Hid (∀ W, Grown ws W → W.cell? ⟨mb, moff + q * 2, none⟩ = some (.int .i64 (z1 q 0)) ∧ W.cell? ⟨mb, moff + q * 2 + 1, none⟩ = some (.int .i64 (z1 q 1))) := fun W g => ⟨keys_cell (hcell q hlt 0 (by omega)) hmb (grownTrans hgs g), keys_cell (hcell q hlt 1 (by omega)) hmb (grownTrans hgs g)⟩
            obtain ⟨x, hx⟩ : ∃ x, x = z1 q 0 := ⟨_, rfl⟩
            obtain ⟨y, hy⟩ : ∃ y, y = z1 q 1 := ⟨_, rfl⟩
            simp only [← hx, ← hy] at HC
            rw [← hx] at hwx
            obtain ⟨b1, b2⟩ := HC.out _ ht.old
            clear hcell hg hx hy hwf
            have of1 := of_i ht hwx
            have mv := fun W (h : Dqi ws W X t none 0 0 (fun _ => .int .i64 0)) => move_i h y hwx
            have of2 := fun W (h : Dqi ws W X (t.moveI x y) none 0 0 (fun _ => .int .i64 0)) => of_i h hwx
            by_cases hE : t.moveE x y = 0
            · have hmv : Hid (∀ W, Dqi ws W X (t.moveI x y) none 0 0 (fun _ => .int .i64 0) → (t.moveI x y).n = t.n ∧ (t.moveI x y).ofL x = y ∧ (t.moveI x y).ofW x = t.ofW x ∧ (((t.moveI x y).rowI y).map (·.1)).getLastD 0 = x ∧ (t.moveI x y).tot t.n = t.tot t.n ∧ (t.moveI x y).cnt t.n = t.cnt t.n) := fun W h => hw.moved hE h.wf
              have bk := fun W (h : Dqi ws W X (t.moveI x y) none 0 0 (fun _ => .int .i64 0)) => back_i h y
              rw [htn, htS, htC] at hmv
              simp only [hE] at mv
              obtain ⟨t', ht'⟩ : ∃ t', t' = t.moveI x y := ⟨_, rfl⟩
              obtain ⟨V, hV⟩ : ∃ V, V = t.ofW x := ⟨_, rfl⟩
              obtain ⟨U, hU⟩ : ∃ U, U = t.ofL x := ⟨_, rfl⟩
              simp only [← ht', ← hV] at mv of2 hmv bk
              rw [← hV, ← hU] at of1
              have of3 : ∀ W, Dqi ws W X t' none 0 0 (fun _ => .int .i64 0) → Calls Try.prog 19 #[ptr X, .int .i64 x] W fun e w' => e = .returned (.tuple #[.int .i64 y, .int .i64 V]) ∧ Dqi ws w' X t' none 0 0 (fun _ => .int .i64 0) := fun W h => by
                have := of2 W h
                rw [(hmv.out W h).2.1, (hmv.out W h).2.2.1] at this
                exact this
              have bk3 : ∀ W, Dqi ws W X t' none 0 0 (fun _ => .int .i64 0) → Calls Try.prog 25 #[ptr X, .int .i64 y] W fun e w' => e = .returned (.int .i64 x) ∧ Dqi ws w' X t' none 0 0 (fun _ => .int .i64 0) := fun W h => by
                have := bk W h
                rw [(hmv.out W h).2.2.2.1] at this
                exact this
              have q1 : (V != V) = false := by simp
              have q2 : (y != y) = false := by simp
              have q3 : (x != x) = false := by simp
              have T0 : Hid True := trivial
              clear of2 bk ht' hV hU hE hw htn htS htC
              unfold ptr at of1 of3 bk3 mv
              go_wp2_with (first | (go_at_call 19; clear T0; refine of1.mono ?_; rintro e w1 ⟨rfl, h1⟩; obtain ⟨b3, b4⟩ := HC.out _ h1.old))
              go_region_held3 (fun w' => w'.cell? ⟨mb, moff + q * 2, none⟩ = some (.int .i64 x) ∧ w'.cell? ⟨mb, moff + q * 2 + 1, none⟩ = some (.int .i64 y)) (first | exact ⟨b7, b8⟩ | exact ⟨b5, b6⟩ | exact ⟨b3, b4⟩ | exact ⟨b1, b2⟩ | go_keep) (first | (go_at_call 15; refine (mv _ (h1.drewN 1)).mono ?_; rintro e w2 ⟨rfl, h2⟩; obtain ⟨b5, b6⟩ := HC.out _ h2.old))
              go_wp2_with (first | (go_at_call 19; refine (of3 _ h2).mono ?_; rintro e w3 ⟨rfl, h3⟩; obtain ⟨b7, b8⟩ := HC.out _ h3.old))
              obtain ⟨Good, hGood⟩ : ∃ Good : World → Prop, Good = fun W => Dqi ws W X t' none 0 0 (fun _ => .int .i64 0) := ⟨_, rfl⟩
              have g0 : Good w3.drew := by rw [hGood]; exact h3.drewN 1
              have HGO : Hid (∀ W, Good W → Dqi ws W X t' none 0 0 (fun _ => .int .i64 0)) := fun W h => by rw [hGood] at h; exact h
              have k1 : ∀ r : Wor Good, r.w.cell? ⟨mb, moff + q * 2, none⟩ = some (.int .i64 x) := fun r => (HC.out _ (HGO.out _ r.h).old).1
              have k2 : ∀ r : Wor Good, r.w.cell? ⟨mb, moff + q * 2 + 1, none⟩ = some (.int .i64 y) := fun r => (HC.out _ (HGO.out _ r.h).old).2
              have BK : Hid (∀ r : Wor Good, Calls Try.prog 25 #[.pointer (some ⟨X, 0, none⟩), .int .i64 y] r.w fun e w' => e = .returned (.int .i64 x) ∧ ∃ r' : Wor Good, w' = r'.w) := fun r => calls_class ((bk3 _ (HGO.out _ r.h)).mono fun _ _ ⟨he, hh⟩ => ⟨he, by rw [hGood]; exact hh⟩)
              have hne : Nonempty (Wor Good) := ⟨⟨_, g0⟩⟩
              clear hGood b1 b2 b3 b4 b5 b6 b7 b8 HC h1 h2 h3 bk3 of1 of3 mv
              refine wp_region_class (Good := Good) (by kernel_rfl) (by kernel_rfl) g0 ?_
              repeat (go_big_quiet_step (first | (go_at_call 25; exact BK.out _)))
              refine wpQuiet_nil ?_
              intro _ hw'
              obtain ⟨r, hw''⟩ := hw'
              subst hw''
              have h4 := HGO.out _ r.h
              obtain ⟨w4, HW4⟩ : ∃ w4, w4 = r.w := ⟨_, rfl⟩
              rw [← HW4] at h4 ⊢
              have hm4 := hmv.out _ h4
              have HT : Hid (t'.n = 4 ∧ t'.tot 4 = S ∧ t'.cnt 4 = C) := ⟨hm4.1, hm4.2.2.2.2.1, hm4.2.2.2.2.2⟩
              clear hm4 hmv k1 k2 BK hne HGO HW4 r g0
              go_wp2_with fail
              go_loopw [16, 17, 18] (fun av mv kv wi => ∃ (k : Nat), k ≤ 4 ∧ av = .int .i64 (t'.tot k) ∧ mv = .int .i64 (t'.cnt k : Int) ∧ kv = .int .i64 (k : Int) ∧ Dqi ws wi X t' none 0 0 (fun _ => .int .i64 0)) (fun _ _ kv _ => 4 - (intOf kv).toNat)
              case atStart => exact ⟨0, by omega, rfl, rfl, rfl, h4⟩
              case round =>
                clear h4
                obtain ⟨k, hk4, rfl, rfl, rfl, h4⟩ := hrel
                have hw' := h4.wf
                obtain ⟨m1, m2, m3⟩ := hw'.tot_le hk4
                have hT := HT.out.2.1
                have hC := HT.out.2.2
                have HW : Hid t'.Wf := hw'
                clear hw'
                by_cases hlt4 : k < 4
                · have hd4 : decide ((k : Int) < 4) = true := by rw [decide_eq_true_eq]; omega
                  have wg := fun W (h : Dqi ws W X t' none 0 0 (fun _ => .int .i64 0)) => weight_i h (k : Int)
                  have ln := fun W (h : Dqi ws W X t' none 0 0 (fun _ => .int .i64 0)) => len_i h (k : Int)
                  have er : t'.rowI (k : Int) = t'.L k := by unfold Ds.rowI; rw [if_pos (by omega)]; rfl
                  rw [er] at wg ln
                  obtain ⟨n1, n2, n3⟩ := HW.out.tot_le (show k + 1 ≤ 4 by omega)
                  have e1 : t'.tot (k + 1) = t'.tot k + sumI ((t'.L k).map (·.2)) := Ds.tot_succ t' k
                  have e2 : t'.cnt (k + 1) = t'.cnt k + (t'.L k).length := Ds.cnt_succ t' k
                  have e3 := HW.out.weight_pos k
                  obtain ⟨A, hA⟩ : ∃ A, A = t'.tot k := ⟨_, rfl⟩
                  obtain ⟨B, hB⟩ : ∃ B, B = t'.cnt k := ⟨_, rfl⟩
                  obtain ⟨wk, hwk⟩ : ∃ wk, wk = sumI ((t'.L k).map (·.2)) := ⟨_, rfl⟩
                  obtain ⟨lk, hlk⟩ : ∃ lk, lk = (t'.L k).length := ⟨_, rfl⟩
                  rw [← hA, ← hwk] at e1
                  rw [← hB, ← hlk] at e2
                  simp only [← hwk] at wg
                  simp only [← hlk] at ln
                  rw [← hwk] at e3
                  rw [← hA] at m1 m2 ⊢
                  rw [← hB] at m3 ⊢
                  have HE : Hid (t'.tot (k + 1) = A + wk ∧ t'.cnt (k + 1) = B + lk) := ⟨e1, e2⟩
                  have b1 : A + wk ≤ 3600 := by omega
                  have b2 : B + lk ≤ 60 := by omega
                  clear e1 e2 hA hB hwk hlk er n1 n2 n3 m2 m3 hT hC HW
                  unfold ptr at wg ln
                  go_wp2_with (first | (go_at_call 24; refine (wg _ h4).mono ?_; rintro e w5 ⟨rfl, h5⟩) | (go_at_call 23; refine (ln _ h5).mono ?_; rintro e w6 ⟨rfl, h6⟩))
                  go_roundw
                  case rel => exact ⟨k + 1, by omega, by rw [HE.out.1], by rw [HE.out.2]; go_num, by go_num, h6⟩
                  case measure => simp [intOf]; omega
                · obtain rfl : k = 4 := by omega
                  have HT2 : Hid (t'.n = 4 ∧ t'.tot 4 = S ∧ t'.cnt 4 = C) := HT.out
                  rw [HT.out.2.1, HT.out.2.2]
                  have q1 : (S != S) = false := by simp
                  have q2 : ((C : Int) != (C : Int)) = false := by simp
                  have hd4 : decide (((4 : Nat) : Int) < 4) = false := by decide
                  clear m1 m2 m3 hT hC HT HW
                  go_wp2_with fail
                  go_roundw
                  case rel => exact ⟨q + 1, t', by omega, by go_num, HT2.out.1, HT2.out.2.1, HT2.out.2.2, h4⟩
                  case measure => simp [intOf]; omega
            · rw [Ds.moveI_not hE] at of2
              simp only [Ds.moveI_not hE] at mv
              have q1 : (t.moveE x y == 0) = false := by simpa using hE
              have q2 : (t.moveE x y != 0) = true := by simpa using hE
              obtain ⟨E, hEe⟩ : ∃ E, E = t.moveE x y := ⟨_, rfl⟩
              obtain ⟨V, hV⟩ : ∃ V, V = t.ofW x := ⟨_, rfl⟩
              obtain ⟨U, hU⟩ : ∃ U, U = t.ofL x := ⟨_, rfl⟩
              simp only [← hEe] at mv q1 q2
              simp only [← hV, ← hU] at of2
              rw [← hV, ← hU] at of1
              have q3 : (V != V) = false := by simp
              have q4 : (U != U) = false := by simp
              have T0 : Hid True := trivial
              obtain ⟨t', HT'⟩ : ∃ t', Hid (t' = t) := ⟨t, rfl⟩
              have HT : Hid (t'.n = 4 ∧ t'.tot 4 = S ∧ t'.cnt 4 = C) := by rw [HT'.out]; exact ⟨htn, htS, htC⟩
              clear hEe hV hU hE hw htn htS htC
              unfold ptr at of1 of2 mv
              go_wp2_with (first | (go_at_call 19; clear T0; refine of1.mono ?_; rintro e w1 ⟨rfl, h1⟩; obtain ⟨b3, b4⟩ := HC.out _ h1.old))
              go_region_held3 (fun w' => w'.cell? ⟨mb, moff + q * 2, none⟩ = some (.int .i64 x) ∧ w'.cell? ⟨mb, moff + q * 2 + 1, none⟩ = some (.int .i64 y)) (first | exact ⟨b7, b8⟩ | exact ⟨b5, b6⟩ | exact ⟨b3, b4⟩ | exact ⟨b1, b2⟩ | go_keep) (first | (go_at_call 15; refine (mv _ (h1.drewN 1)).mono ?_; rintro e w2 ⟨rfl, h2⟩; obtain ⟨b5, b6⟩ := HC.out _ h2.old))
              go_wp2_with (first | (go_at_call 19; refine (of2 _ h2).mono ?_; rintro e w3 ⟨rfl, h3⟩; obtain ⟨b7, b8⟩ := HC.out _ h3.old))
              go_quiet (fail)
              have h4 := h3.drewN nq
              rw [← HT'.out] at h4
              clear mv of1 of2 b1 b2 b3 b4 b5 b6 b7 b8 HC h1 h2 h3
              go_wp2_with fail
              go_loopw [16, 17, 18] (fun av mv kv wi => ∃ (k : Nat), k ≤ 4 ∧ av = .int .i64 (t'.tot k) ∧ mv = .int .i64 (t'.cnt k : Int) ∧ kv = .int .i64 (k : Int) ∧ Dqi ws wi X t' none 0 0 (fun _ => .int .i64 0)) (fun _ _ kv _ => 4 - (intOf kv).toNat)
              case atStart => exact ⟨0, by omega, rfl, rfl, rfl, h4⟩
              case round =>
                clear h4
                obtain ⟨k, hk4, rfl, rfl, rfl, h4⟩ := hrel
                have hw' := h4.wf
                obtain ⟨m1, m2, m3⟩ := hw'.tot_le hk4
                have hT := HT.out.2.1
                have hC := HT.out.2.2
                have HW : Hid t'.Wf := hw'
                clear hw'
                by_cases hlt4 : k < 4
                · have hd4 : decide ((k : Int) < 4) = true := by rw [decide_eq_true_eq]; omega
                  have wg := fun W (h : Dqi ws W X t' none 0 0 (fun _ => .int .i64 0)) => weight_i h (k : Int)
                  have ln := fun W (h : Dqi ws W X t' none 0 0 (fun _ => .int .i64 0)) => len_i h (k : Int)
                  have er : t'.rowI (k : Int) = t'.L k := by unfold Ds.rowI; rw [if_pos (by omega)]; rfl
                  rw [er] at wg ln
                  obtain ⟨n1, n2, n3⟩ := HW.out.tot_le (show k + 1 ≤ 4 by omega)
                  have e1 : t'.tot (k + 1) = t'.tot k + sumI ((t'.L k).map (·.2)) := Ds.tot_succ t' k
                  have e2 : t'.cnt (k + 1) = t'.cnt k + (t'.L k).length := Ds.cnt_succ t' k
                  have e3 := HW.out.weight_pos k
                  obtain ⟨A, hA⟩ : ∃ A, A = t'.tot k := ⟨_, rfl⟩
                  obtain ⟨B, hB⟩ : ∃ B, B = t'.cnt k := ⟨_, rfl⟩
                  obtain ⟨wk, hwk⟩ : ∃ wk, wk = sumI ((t'.L k).map (·.2)) := ⟨_, rfl⟩
                  obtain ⟨lk, hlk⟩ : ∃ lk, lk = (t'.L k).length := ⟨_, rfl⟩
                  rw [← hA, ← hwk] at e1
                  rw [← hB, ← hlk] at e2
                  simp only [← hwk] at wg
                  simp only [← hlk] at ln
                  rw [← hwk] at e3
                  rw [← hA] at m1 m2 ⊢
                  rw [← hB] at m3 ⊢
                  have HE : Hid (t'.tot (k + 1) = A + wk ∧ t'.cnt (k + 1) = B + lk) := ⟨e1, e2⟩
                  have b1 : A + wk ≤ 3600 := by omega
                  have b2 : B + lk ≤ 60 := by omega
                  clear e1 e2 hA hB hwk hlk er n1 n2 n3 m2 m3 hT hC HW
                  unfold ptr at wg ln
                  go_wp2_with (first | (go_at_call 24; refine (wg _ h4).mono ?_; rintro e w5 ⟨rfl, h5⟩) | (go_at_call 23; refine (ln _ h5).mono ?_; rintro e w6 ⟨rfl, h6⟩))
                  go_roundw
                  case rel => exact ⟨k + 1, by omega, by rw [HE.out.1], by rw [HE.out.2]; go_num, by go_num, h6⟩
                  case measure => simp [intOf]; omega
                · obtain rfl : k = 4 := by omega
                  have HT2 : Hid (t'.n = 4 ∧ t'.tot 4 = S ∧ t'.cnt 4 = C) := HT.out
                  rw [HT.out.2.1, HT.out.2.2]
                  have q1 : (S != S) = false := by simp
                  have q2 : ((C : Int) != (C : Int)) = false := by simp
                  have hd4 : decide (((4 : Nat) : Int) < 4) = false := by decide
                  clear m1 m2 m3 hT hC HT HW
                  go_wp2_with fail
                  go_roundw
                  case rel => exact ⟨q + 1, t', by omega, by go_num, HT2.out.1, HT2.out.2.1, HT2.out.2.2, h4⟩
                  case measure => simp [intOf]; omega
          · obtain rfl : q = len1 := by omega
            have hdq : decide ((q : Int) < (q : Int)) = false := by rw [decide_eq_false_iff_not]; omega
            go_wp2_with fail
            go_ret
            exact ⟨rfl, grownTrans hgs ht.old⟩
  · have hl' : (60 < (len0 : Int)) ∨ ((len0 : Int) ≤ 60 ∧ 100 < (len1 : Int)) := by omega
    have nw := fun w g => new_i 4 w w g
    unfold ptr at nw
    clear hl hk hg hwf
    rcases hl' with h | ⟨h, h'⟩
    all_goals
      go_enter Try.func7, Try.ntmps7
      go_wp2_with (first | (go_at_call 8; refine (dSmall_any _).mono ?_; rintro e ws ⟨rfl, hgs⟩) | (go_at_call 9; refine (nw _ (Grown.refl _)).mono ?_; rintro e wx ⟨X, rfl, hx⟩))
      go_ret
      exact ⟨rfl, grownTrans hgs hx.old⟩

/-! ### The row's step -/
set_option maxRecDepth 100000 in
theorem lifted (os : Os) (started : os.Started) (H : Type) (enc : TypeId × Value → H) :
    ReturnsInHanded {} Try.checked os 7 .any (Rows.dequeMovesSpec.pre6 enc Try.prog Try.f7 Rows.dequeMovesRow.domain false) (Rows.dequeMovesSpec.post enc Try.prog Try.f7 false true false false) := by
  refine returnsInHanded_of_change (C := Try.checked) own started (by kernel_rfl) Try.func7
    (ChangeSpec.witness6 (enc := enc) (C := Try.checked) false ⟨#[], #[.slice none 0 0, .slice none 0 0], []⟩ 8 (by kernel_rfl) (by kernel_rfl) (by kernel_rfl) (by kernel_rfl)) ?_
  intro W base args ds gs before hval0 hW hcnd _
  have hval : ∀ (j : Nat) t v, Try.f7.params[j]? = some t → args[j]? = some v → Value.okWide Try.prog W .any base t v := hval0
  have hW' := hW
  obtain ⟨p, q, hA0, hV, rfl, hfz, hnd⟩ := hW
  have hA : DataW.TrodAll enc Try.prog W 0 (fun _ => true) true Try.f7.params.toList args.toList ds p := hA0
  rw [Try.params7] at hA hval
  obtain ⟨v0, vs0, d0, ds0, p0, q0, hargs, rfl, rfl, h0, r0⟩ := trodAll_cons hA
  obtain ⟨v1, vs1, d1, ds1, p1, q1, rfl, rfl, rfl, h1, r1⟩ := trodAll_cons r0
  obtain ⟨rfl, rfl, rfl⟩ := trodAll_nil r1
  obtain rfl : args = #[v0, v1] := by cases args; simp_all
  obtain ⟨rfl, rfl⟩ := trodVars_none hV
  obtain ⟨a0, len0, cap0, rfl⟩ := okWide_slice Try.underlying36 (hval 0 36 v0 rfl rfl)
  have k0 := h0
  have lt0 : ∀ x ∈ p0, x.block < W.heap.size := by obtain ⟨m, hm⟩ := k0; exact DataW.trod_lt m _ _ _ hm
  obtain ⟨z0, w0⟩ : ∃ zs, IsInts .i64 W a0 len0 cap0 zs := by
    obtain ⟨fuel, hf⟩ := h0
    rcases open_ints Try.underlying36 Try.underlying3 (by kernel_rfl) hf with ⟨hcs, _⟩ | ⟨x, l, c, zs, hcs, _, hl, hm, hz, _, hcell, hwz⟩
    · simp [Value.cells] at hcs
      obtain ⟨rfl, rfl, rfl⟩ := hcs
      exact ⟨[], .inl ⟨rfl, rfl, rfl, rfl⟩⟩
    · simp [Value.cells] at hcs
      obtain ⟨rfl, rfl, rfl⟩ := hcs
      exact ⟨zs, .inr ⟨_, rfl, hl, hm, by simpa using hz, hcell, hwz⟩⟩
  obtain ⟨a1, len1, cap1, rfl⟩ := okWide_slice Try.underlying44 (hval 1 44 v1 rfl rfl)
  have k1 := h1
  have lt1 : ∀ x ∈ p1, x.block < W.heap.size := by obtain ⟨m, hm⟩ := k1; exact DataW.trod_lt m _ _ _ hm
  obtain ⟨z1, w1⟩ := open_grid Try.underlying44 Try.underlying45 Try.underlying3 (by kernel_rfl) (by kernel_rfl) h1
  clear hA0 hval0
  refine (walk a0 len0 cap0 z0 a1 len1 cap1 z1 W w0 w1).mono fun e W' ⟨he, bel⟩ => ?_
  subst he
  exact ⟨_, rfl, _, _, _, [], _, [], hW', trodAll_mk1 (shut_bool Try.underlying4 _), (trodAll_cons_mk (grown_trod laidOut (by kernel_rfl) (of_decide_eq_true (by kernel_rfl)) k0 bel lt0) (trodAll_cons_mk (grown_trod laidOut (by kernel_rfl) (of_decide_eq_true (by kernel_rfl)) k1 bel lt1) trodAll_mk0)), rfl, bel.frame _, fun h => by cases h⟩

theorem over : Rows.dequeMovesRow.holds Try.pinned (OpenSpec.ofChange Rows.dequeMovesSpec) :=
  OpenClaim.holds_of_wide 7 Try.f7 rfl rfl rfl rfl rfl rfl rfl ⟨rfl, rfl, rfl, rfl, rfl⟩ rfl rfl rfl rfl rfl (by kernel_rfl) Try.func7 (by kernel_rfl)
    (of_decide_eq_true (by kernel_rfl)) (by unfold Func.isWrapper; first | (rw [if_pos (by decide +kernel)]; kernel_rfl) | (rw [if_neg (by decide +kernel)]; exact ⟨rfl, rfl⟩))
    (fun os started H enc _ => lifted os started H enc)

/-- The statement. -/
theorem proved : Rows.DequeMovesSaid := over
end Go.Proofs.Ytecnlciogcanmaa.dequeMoves

namespace Go.Proofs.Ytecnlciogcanmaa
/-- The given statement. -/
theorem dequeMoves_holds : Rows.DequeMovesSaid := dequeMoves.proved
#print axioms dequeMoves_holds
end Go.Proofs.Ytecnlciogcanmaa
