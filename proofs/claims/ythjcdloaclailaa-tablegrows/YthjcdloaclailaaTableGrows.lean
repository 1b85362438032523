/-
  Proved: pantrylaw15.TableGrows returns true for every seed and every slice of steps: old buckets left go down by one with each Put and Remove, until there are none, and a table grows when it is time (P15.2, P15.6). No condition.
-/
import Derived.Test.YthjcdloaclailaaRows
import Derived.WalkKit
import Derived.ProofKit
import Derived.OpenShut
import Derived.Test.YthjcdloaclailaaTbSmall
import Derived.Test.YthjcdloaclailaaTbRows
import Derived.ShutString
import Derived.ChangeOld
import Derived.Below
import Derived.Test.YthjcdloaclailaaGenArgs
namespace Go.Proofs.Ythjcdloaclailaa.tableGrows
open Go.ChangeShapes Go.WideShapes Go.ChangeAt Go.RowKit
set_option linter.unusedVariables false

theorem own : ownKnob Try.prog.godebug = none := by kernel_rfl
theorem laidOut : laidOutB Try.prog = true := by kernel_rfl

/-! ### The walk: the law returns true, and writes nothing that was there -/
open Go.Proofs.Ythjcdloaclailaa.Us Go.Proofs.Ythjcdloaclailaa.Tb in set_option maxRecDepth 20000 in set_option maxHeartbeats 8000000 in
theorem walk (a0 : Int) (a1 : Option Addr) (len1 cap1 : Nat) (z1 : Nat → Nat → Int) (w : World) (w0 : (Lit.int .i64 a0).wf = true) (w1 : IsGrid .i64 3 w a1 len1 cap1 z1) :
    Calls Try.prog 5 #[.int .i64 a0, .slice a1 len1 cap1] w fun e w' => e = .returned (.bool true) ∧ Grown w w' := by
  have hk1 := grid_open (by decide) w1
  clear w0 w1
  have nw := fun (w1 : World) (g : Grown w w1) => new_e a0 (Apt.none g)
  by_cases hl : 300 < len1
  · clear hk1
    have d1 : decide (300 < (len1 : Int)) = true := by rw [decide_eq_true_eq]; omega
    go_enter Try.func5, Try.ntmps5
    go_wp2_with (first | (go_at_call 9; refine (Tb.small_s _).mono ?_; rintro e ws ⟨rfl, hgs⟩) | (go_at_call 10; refine (nw _ hgs).mono ?_; rintro e wx ⟨t, rfl, hx, _⟩; clear nw hgs; unfold ptr))
    go_ret
    exact ⟨rfl, hx.grown⟩
  · have d1 : decide (300 < (len1 : Int)) = false := by rw [decide_eq_false_iff_not]; omega
    have hlen : len1 ≤ 300 := by omega
    have hkk : ∀ k, k < len1 → ∃ kb off, a1 = some ⟨kb, off, none⟩ ∧ ∀ W, Grown w W → kb < W.heap.size ∧ W.cell? ⟨kb, off + k * 3, none⟩ = some (.int .i64 (z1 k 0)) ∧ W.cell? ⟨kb, off + k * 3 + 1, none⟩ = some (.int .i64 (z1 k 1)) := fun k hlt => by
      rcases hk1 with h | ⟨kb, off, h1, h2, h3⟩
      · omega
      · exact ⟨kb, off, h1, fun W g => ⟨Nat.lt_of_lt_of_le h2 g.2.2, keys_cell (h3 k hlt 0 (by decide)) h2 g, by have := keys_cell (h3 k hlt 1 (by decide)) h2 g; rwa [← Nat.add_assoc] at this⟩⟩
    clear hk1 hl
    go_enter Try.func5, Try.ntmps5
    go_wp2_with (first | (go_at_call 9; refine (Tb.small_s _).mono ?_; rintro e ws ⟨rfl, hgs⟩) | (go_at_call 10; refine (nw _ hgs).mono ?_; rintro e wx ⟨t, rfl, hx, t1, _⟩; clear nw hgs; obtain ⟨X, hX⟩ : ∃ X, Hid (t.X = X) := ⟨_, rfl⟩; rw [hX.out]; have hx : Hid (Apt w wx [obT t]) := hx; have t1 : Hid (t.es = []) := t1; unfold ptr))
    go_loopw [7, 8, 9, 10, 11, 12, 13] (fun i _ _ _ _ _ _ wr => ∃ (k : Nat) (t : Tab), k ≤ len1 ∧ i = .int .i64 (k : Int) ∧ Hid (t.X = X) ∧ Hid (t.es.length ≤ k) ∧ Hid (Apt w wr [obT t])) (fun i _ _ _ _ _ _ _ => len1 - (intOf i).toNat)
    case atStart => exact ⟨0, t, by omega, rfl, hX, by rw [t1.out]; exact Nat.le_refl _, hx⟩
    case round =>
      clear hx t1 hX
      obtain ⟨k, u, hk, rfl, hX, hle, hx⟩ := hrel
      have hs := (hx.out.all 0 _ rfl : Tb.Tb _ u).sh
      obtain ⟨N, hN⟩ : ∃ N, Hid (u.n = N) := ⟨_, rfl⟩
      obtain ⟨L, hL⟩ : ∃ L, Hid (u.l = L) := ⟨_, rfl⟩
      have n8 : 8 ≤ N := by rw [← hN.out]; exact hs.lo
      have n1 : N ≤ 131072 := by rw [← hN.out]; exact hs.hi
      have l1 : L ≤ 131072 := by have := hs.le; rw [hN.out, hL.out] at this; omega
      by_cases hlt : k < len1
      · have hd : decide ((k : Int) < (len1 : Int)) = true := by rw [decide_eq_true_eq]; omega
        have bk := buckets_s hx.out (i := 0) rfl
        have lf := left_s hx.out (i := 0) rfl
        rw [hX.out, hN.out] at bk
        rw [hX.out, hL.out] at lf
        unfold ptr at bk lf
        obtain ⟨kb, off, rfl, ck⟩ := hkk k hlt
        obtain ⟨z, hz⟩ : ∃ z, z = z1 k 0 := ⟨_, rfl⟩
        obtain ⟨y, hy⟩ : ∃ y, y = z1 k 1 := ⟨_, rfl⟩
        rw [← hz, ← hy] at ck
        obtain ⟨lk, ck0, ck1⟩ := ck _ hx.out.grown
        clear hz hy hkk hs
        by_cases e3 : bits .and .i64 z 3 = 3
        · have rm := rem_any hx.out (i := 0) rfl hX.out y (by have := hle.out; omega)
          clear hx
          have h33 : (bits .and .i64 z 3 == 3) = true := by simp [e3]
          clear e3
          go_wp2_with (first
            | (go_at_call 21; refine lf.mono ?_; rintro e w' ⟨rfl, hw⟩; have hw := hw.symm; subst hw; clear lf)
            | (go_at_call 20; refine bk.mono ?_; rintro e w' ⟨rfl, hw⟩; have hw := hw.symm; subst hw; clear bk)
            | (go_at_call 14; refine rm.mono ?_; rintro e w2 ⟨v2, b2, t2, rfl, hX2, h2, hle2, hn2, hl2⟩; clear rm ck ck0 ck1 lk; have bk2 := buckets_s h2.out (i := 0) rfl; have lf2 := left_s h2.out (i := 0) rfl; rw [hX2.out, hn2.out, hN.out] at bk2; rw [hX2.out, hl2.out, hL.out] at lf2; unfold ptr at bk2 lf2)
            | (go_at_call 20; refine bk2.mono ?_; rintro e w' ⟨rfl, hw⟩; have hw := hw.symm; subst hw; clear bk2)
            | (go_at_call 21; refine lf2.mono ?_; rintro e w' ⟨rfl, hw⟩; have hw := hw.symm; subst hw; clear lf2))
          go_roundw
          case rel => exact ⟨k + 1, t2, by omega, by go_num, hX2, by show _ ≤ _; have := hle.out; have := hle2.out; omega, h2⟩
          case measure => simp [intOf]; omega
        · have h33 : (bits .and .i64 z 3 == 3) = false := by simp [e3]
          clear e3
          obtain ⟨M, hM⟩ : ∃ M, Hid (u.es.length = M) := ⟨_, rfl⟩
          have m1 : M ≤ 300 := by have := hle.out; rw [hM.out] at this; omega
          rcases es_or u.es y with hyy | hyn
          · have pt := put_over hx.out (i := 0) rfl hX.out ⟨y, 0, 0, 0⟩ hyy
            clear hx hyy
            go_wp2_with (first
              | (go_at_call 21; refine lf.mono ?_; rintro e w' ⟨rfl, hw⟩; have hw := hw.symm; subst hw; clear lf)
              | (go_at_call 20; refine bk.mono ?_; rintro e w' ⟨rfl, hw⟩; have hw := hw.symm; subst hw; clear bk)
              | (go_at_call 12; refine pt.mono ?_; rintro e w2 ⟨r, t2, rfl, hX2, h2, he2, hn2, hl2, _⟩; clear pt ck ck0 ck1 lk; have h3 : Hid (Apt w (w2.alloc (.cells #[.int .i64 r.k, .int .i64 r.a, .int .i64 r.x, .int .i64 r.n] 30)) [obT t2]) := h2.out.more ((Grown.refl _).alloc _ _); clear h2; have bk2 := buckets_s h3.out (i := 0) rfl; have lf2 := left_s h3.out (i := 0) rfl; rw [hX2.out, hn2.out, hN.out] at bk2; rw [hX2.out, hl2.out, hL.out] at lf2; unfold ptr at bk2 lf2)
              | (go_at_call 20; refine bk2.mono ?_; rintro e w' ⟨rfl, hw⟩; have hw := hw.symm; subst hw; clear bk2)
              | (go_at_call 21; refine lf2.mono ?_; rintro e w' ⟨rfl, hw⟩; have hw := hw.symm; subst hw; clear lf2))
            go_roundw
            case rel => exact ⟨k + 1, t2, by omega, by go_num, hX2, by show _ ≤ _; have := hle.out; rw [he2.out, map_len]; omega, h3⟩
            case measure => simp [intOf]; omega
          · have pt := put_new hx.out (i := 0) rfl hX.out ⟨y, 0, 0, 0⟩ hyn (by rw [hM.out]; omega)
            clear hx hyn
            by_cases hg : L - 1 = 0 ∧ N < M + 1
            · have gN : Hid (nN u.n u.l u.es.length = 2 * N ∧ lN u.n u.l u.es.length = N) := by
                rw [hN.out, hL.out, hM.out]
                unfold nN lN
                rw [if_pos ⟨hg.1, hg.2, by omega⟩, if_pos ⟨hg.1, hg.2, by omega⟩]
                exact ⟨rfl, rfl⟩
              have g1 : max ((L : Int) - 1) 0 = 0 := by omega
              have g2 : decide (((M : Int) + 1) > (N : Int)) = true := by rw [decide_eq_true_eq]; omega
              have g3 : decide (N < M + 1) = true := by rw [decide_eq_true_eq]; omega
              have g4 : decide ((N : Int) < (M : Int) + 1) = true := by rw [decide_eq_true_eq]; omega
              clear hg
              go_wp2_with (first
                | (go_at_call 21; refine lf.mono ?_; rintro e w' ⟨rfl, hw⟩; have hw := hw.symm; subst hw; clear lf)
                | (go_at_call 20; refine bk.mono ?_; rintro e w' ⟨rfl, hw⟩; have hw := hw.symm; subst hw; clear bk)
                | (go_at_call 12; refine pt.mono ?_; rintro e w2 ⟨t2, rfl, hX2, h2, he2, hn2, hl2⟩; clear pt ck ck0 ck1 lk; have h3 : Hid (Apt w (w2.alloc (.cells #[.int .i64 0, .int .i64 0, .int .i64 0, .int .i64 0] 30)) [obT t2]) := h2.out.more ((Grown.refl _).alloc _ _); clear h2; have bk2 := buckets_s h3.out (i := 0) rfl; have lf2 := left_s h3.out (i := 0) rfl; have ln2 := len_e h3.out (i := 0) rfl hX2.out; rw [hX2.out, hn2.out, gN.out.1] at bk2; rw [hX2.out, hl2.out, gN.out.2] at lf2; rw [he2.out, List.length_append, hM.out] at ln2; unfold ptr at bk2 lf2)
                | (go_at_call 18; refine ln2.mono ?_; rintro e w' ⟨rfl, hw⟩; have hw := hw.symm; subst hw; clear ln2)
                | (go_at_call 20; refine bk2.mono ?_; rintro e w' ⟨rfl, hw⟩; have hw := hw.symm; subst hw; clear bk2)
                | (go_at_call 21; refine lf2.mono ?_; rintro e w' ⟨rfl, hw⟩; have hw := hw.symm; subst hw; clear lf2))
              go_roundw
              case rel => exact ⟨k + 1, t2, by omega, by go_num, hX2, by show _ ≤ _; have := hle.out; rw [he2.out, List.length_append]; simp; omega, h3⟩
              case measure => simp [intOf]; omega
            · have gN : Hid (nN u.n u.l u.es.length = N ∧ lN u.n u.l u.es.length = L - 1) := by
                rw [hN.out, hL.out, hM.out]
                unfold nN lN
                rw [if_neg (by omega), if_neg (by omega)]
                exact ⟨rfl, rfl⟩
              by_cases hz : L - 1 = 0
              · have g1 : max ((L : Int) - 1) 0 = 0 := by omega
                have g2 : decide (((M : Int) + 1) > (N : Int)) = false := by rw [decide_eq_false_iff_not]; omega
                have g3 : decide (N < M + 1) = false := by rw [decide_eq_false_iff_not]; omega
                have g4 : decide ((N : Int) < (M : Int) + 1) = false := by rw [decide_eq_false_iff_not]; omega
                clear hg hz
                go_wp2_with (first
                  | (go_at_call 21; refine lf.mono ?_; rintro e w' ⟨rfl, hw⟩; have hw := hw.symm; subst hw; clear lf)
                  | (go_at_call 20; refine bk.mono ?_; rintro e w' ⟨rfl, hw⟩; have hw := hw.symm; subst hw; clear bk)
                  | (go_at_call 12; refine pt.mono ?_; rintro e w2 ⟨t2, rfl, hX2, h2, he2, hn2, hl2⟩; clear pt ck ck0 ck1 lk; have h3 : Hid (Apt w (w2.alloc (.cells #[.int .i64 0, .int .i64 0, .int .i64 0, .int .i64 0] 30)) [obT t2]) := h2.out.more ((Grown.refl _).alloc _ _); clear h2; have bk2 := buckets_s h3.out (i := 0) rfl; have lf2 := left_s h3.out (i := 0) rfl; have ln2 := len_e h3.out (i := 0) rfl hX2.out; rw [hX2.out, hn2.out, gN.out.1] at bk2; rw [hX2.out, hl2.out, gN.out.2] at lf2; rw [he2.out, List.length_append, hM.out] at ln2; unfold ptr at bk2 lf2)
                  | (go_at_call 18; refine ln2.mono ?_; rintro e w' ⟨rfl, hw⟩; have hw := hw.symm; subst hw; clear ln2)
                  | (go_at_call 20; refine bk2.mono ?_; rintro e w' ⟨rfl, hw⟩; have hw := hw.symm; subst hw; clear bk2)
                  | (go_at_call 21; refine lf2.mono ?_; rintro e w' ⟨rfl, hw⟩; have hw := hw.symm; subst hw; clear lf2))
                go_roundw
                case rel => exact ⟨k + 1, t2, by omega, by go_num, hX2, by show _ ≤ _; have := hle.out; rw [he2.out, List.length_append]; simp; omega, h3⟩
                case measure => simp [intOf]; omega
              · have g1 : (max ((L : Int) - 1) 0 == 0) = false := by simp; omega
                clear hg hz
                go_wp2_with (first
                  | (go_at_call 21; refine lf.mono ?_; rintro e w' ⟨rfl, hw⟩; have hw := hw.symm; subst hw; clear lf)
                  | (go_at_call 20; refine bk.mono ?_; rintro e w' ⟨rfl, hw⟩; have hw := hw.symm; subst hw; clear bk)
                  | (go_at_call 12; refine pt.mono ?_; rintro e w2 ⟨t2, rfl, hX2, h2, he2, hn2, hl2⟩; clear pt ck ck0 ck1 lk; have h3 : Hid (Apt w (w2.alloc (.cells #[.int .i64 0, .int .i64 0, .int .i64 0, .int .i64 0] 30)) [obT t2]) := h2.out.more ((Grown.refl _).alloc _ _); clear h2; have bk2 := buckets_s h3.out (i := 0) rfl; have lf2 := left_s h3.out (i := 0) rfl; rw [hX2.out, hn2.out, gN.out.1] at bk2; rw [hX2.out, hl2.out, gN.out.2] at lf2; unfold ptr at bk2 lf2)
                  | (go_at_call 18; refine ln2.mono ?_; rintro e w' ⟨rfl, hw⟩; have hw := hw.symm; subst hw; clear ln2)
                  | (go_at_call 20; refine bk2.mono ?_; rintro e w' ⟨rfl, hw⟩; have hw := hw.symm; subst hw; clear bk2)
                  | (go_at_call 21; refine lf2.mono ?_; rintro e w' ⟨rfl, hw⟩; have hw := hw.symm; subst hw; clear lf2))
                go_roundw
                case rel => exact ⟨k + 1, t2, by omega, by go_num, hX2, by show _ ≤ _; have := hle.out; rw [he2.out, List.length_append]; simp; omega, h3⟩
                case measure => simp [intOf]; omega
      · obtain rfl : k = len1 := by omega
        have hd : decide ((k : Int) < (k : Int)) = false := by rw [decide_eq_false_iff_not]; omega
        have bk := buckets_s hx.out (i := 0) rfl
        rw [hX.out, hN.out] at bk
        unfold ptr at bk
        have g8 : decide (8 ≤ N) = true := decide_eq_true n8
        have g9 : decide ((N : Int) ≥ 8) = true := by rw [decide_eq_true_eq]; omega
        have g10 : decide (8 ≤ (N : Int)) = true := by rw [decide_eq_true_eq]; omega
        clear hs hkk
        go_wp2_with (go_at_call 20; refine bk.mono ?_; rintro e w' ⟨rfl, hw⟩; have hw := hw.symm; subst hw; clear bk)
        go_ret
        exact ⟨rfl, hx.out.grown⟩

/-! ### The row's step -/
set_option maxRecDepth 100000 in
theorem lifted (os : Os) (started : os.Started) (H : Type) (enc : TypeId × Value → H) :
    ReturnsInHanded {} Try.checked os 5 .any (Rows.tableGrowsSpec.pre6 enc Try.prog Try.f5 Rows.tableGrowsRow.domain false) (Rows.tableGrowsSpec.post enc Try.prog Try.f5 false true false false) := by
  refine returnsInHanded_of_change (C := Try.checked) own started (by kernel_rfl) Try.func5
    (ChangeSpec.witness6 (enc := enc) (C := Try.checked) false ⟨#[], #[.int .i64 0, .slice none 0 0], []⟩ 8 (by kernel_rfl) (by kernel_rfl) (by kernel_rfl) (by kernel_rfl)) ?_
  intro W base args ds gs before hval0 hW hcnd _
  have hval : ∀ (j : Nat) t v, Try.f5.params[j]? = some t → args[j]? = some v → Value.okWide Try.prog W .any base t v := hval0
  have hW' := hW
  obtain ⟨p, q, hA0, hV, rfl, hfz, hnd⟩ := hW
  have hA : DataW.TrodAll enc Try.prog W 0 (fun _ => true) true Try.f5.params.toList args.toList ds p := hA0
  rw [Try.params5] at hA hval
  obtain ⟨v0, vs0, d0, ds0, p0, q0, hargs, rfl, rfl, h0, r0⟩ := trodAll_cons hA
  obtain ⟨v1, vs1, d1, ds1, p1, q1, rfl, rfl, rfl, h1, r1⟩ := trodAll_cons r0
  obtain ⟨rfl, rfl, rfl⟩ := trodAll_nil r1
  obtain rfl : args = #[v0, v1] := by cases args; simp_all
  obtain ⟨rfl, rfl⟩ := trodVars_none hV
  obtain ⟨a0, rfl, rfl, rfl, w0⟩ := open_int Try.underlying3 (hval 0 3 v0 rfl rfl) h0
  obtain ⟨a1, len1, cap1, rfl⟩ := okWide_slice Try.underlying22 (hval 1 22 v1 rfl rfl)
  have k1 := h1
  have lt1 : ∀ x ∈ p1, x.block < W.heap.size := by obtain ⟨m, hm⟩ := k1; exact DataW.trod_lt m _ _ _ hm
  obtain ⟨z1, w1⟩ := open_grid Try.underlying22 Try.underlying28 Try.underlying3 (by kernel_rfl) (by kernel_rfl) h1
  clear hA0 hval0
  refine (walk a0 a1 len1 cap1 z1 W w0 w1).mono fun e W' ⟨he, bel⟩ => ?_
  subst he
  exact ⟨_, rfl, _, _, _, [], _, [], hW', trodAll_mk1 (shut_bool Try.underlying4 _), (trodAll_cons_mk (shut_int Try.underlying3 w0) (trodAll_cons_mk (grown_trod laidOut (by kernel_rfl) (of_decide_eq_true (by kernel_rfl)) k1 bel lt1) trodAll_mk0)), rfl, bel.frame _, fun h => by cases h⟩

theorem over : Rows.tableGrowsRow.holds Try.pinned (OpenSpec.ofChange Rows.tableGrowsSpec) :=
  OpenClaim.holds_of_wide 5 Try.f5 rfl rfl rfl rfl rfl rfl rfl ⟨rfl, rfl, rfl, rfl, rfl⟩ rfl rfl rfl rfl rfl (by kernel_rfl) Try.func5 (by kernel_rfl)
    (of_decide_eq_true (by kernel_rfl)) (by unfold Func.isWrapper; first | (rw [if_pos (by decide +kernel)]; kernel_rfl) | (rw [if_neg (by decide +kernel)]; exact ⟨rfl, rfl⟩))
    (fun os started H enc _ => lifted os started H enc)

/-- The statement. -/
theorem proved : Rows.TableGrowsSaid := over
end Go.Proofs.Ythjcdloaclailaa.tableGrows

namespace Go.Proofs.Ythjcdloaclailaa
/-- The given statement. -/
theorem tableGrows_holds : Rows.TableGrowsSaid := tableGrows.proved
#print axioms tableGrows_holds
end Go.Proofs.Ythjcdloaclailaa
