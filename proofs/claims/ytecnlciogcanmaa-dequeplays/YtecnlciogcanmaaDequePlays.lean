/-
  Proved: pantrylaw07.DequePlays returns true for every number of rows and every row of steps: lists do, call by call, what the document's own do (P7.1 to P7.3). No condition.
-/
import Derived.Test.YtecnlciogcanmaaRows
import Derived.WalkKit
import Derived.ProofKit
import Derived.OpenShut
import Derived.Test.YtecnlciogcanmaaDqPlay
import Derived.Test.YtecnlciogcanmaaGenArgs
import Derived.BigQuiet
import Derived.Deep.CutBlock
import Derived.Deep.RegionHeld3
import Derived.ShutString
import Derived.ChangeOld
import Derived.Below
import Derived.Test.YtecnlciogcanmaaGenArgs
namespace Go.Proofs.Ytecnlciogcanmaa.dequePlays
open Go.ChangeShapes Go.WideShapes Go.ChangeAt Go.RowKit
set_option linter.unusedVariables false

theorem own : ownKnob Try.prog.godebug = none := by kernel_rfl
theorem laidOut : laidOutB Try.prog = true := by kernel_rfl

/-! ### The walk: the law returns true, and writes nothing that was there -/
set_option maxRecDepth 100000 in set_option maxHeartbeats 16000000 in
theorem walk (a0 : Int) (a1 : Option Addr) (len1 cap1 : Nat) (z1 : Nat → Nat → Int) (w : World) (w0 : (Lit.int .i64 a0).wf = true) (w1 : IsGrid .i64 4 w a1 len1 cap1 z1) :
    Calls Try.prog 3 #[.int .i64 a0, .slice a1 len1 cap1] w fun e w' => e = .returned (.bool true) ∧ Grown w w' := by
  have hk1 := grid_open (by decide) w1
  have hwf : ∀ i, i < len1 → ∀ j, j < 4 → (Lit.int .i64 (z1 i j)).wf = true := fun i hi j hj => by
    rcases w1 with ⟨_, h, _⟩ | ⟨_, _, _, _, h⟩
    · omega
    · exact (h i hi j hj).2
  clear w0 w1
  have nw := fun w => new_d a0 w
  have rnw := fun (w : World) (X : Nat) (F : Nat → Prop) (t : Ds) (h : Dq w X F t) (W : World) (g : Grown W w) (hF : ∀ k, F k → W.heap.size ≤ k) => rnew_d a0 h g hF
  unfold ptr at nw rnw
  by_cases hl : len1 ≤ 150
  · have d1 : decide (150 < (len1 : Int)) = false := by rw [decide_eq_false_iff_not]; omega
    go_enter Try.func3, Try.ntmps3
    go_wp2_with (first | (go_at_call 8; refine (dSmall_any _).mono ?_; rintro e ws ⟨rfl, hgs⟩) | (go_at_call 9; refine (nw _).mono ?_; rintro e wa ⟨X, FX, rfl, hx, gx, hFX⟩) | (go_at_call 10; refine (rnw _ _ _ _ hx _ gx hFX).mono ?_; rintro e wb ⟨R, rfl, hxy⟩))
    clear nw rnw hx gx hFX
    obtain ⟨N, HN⟩ : ∃ N, Hid (N = rowsI a0) := ⟨_, rfl⟩
    rw [← HN.out] at hxy
    go_loopw [8] (fun iv wr => ∃ (i : Nat) (t : Ds), i ≤ len1 ∧ iv = .int .i64 (i : Int) ∧ t.Short N i ∧ Duo ws wr X R t t []) (fun iv _ => len1 - (intOf iv).toNat)
    case atStart => exact ⟨0, _, by omega, rfl, Ds.zero_short _ _, hxy⟩
    case round =>
      clear hxy
      obtain ⟨i, t, hi, rfl, hsh, ht⟩ := hrel
      by_cases hlt : i < len1
      · have hkk := hk1
        rcases hkk with h0 | ⟨kb, off, rfl, hkb, hcell⟩
        · omega
        have HC : Hid (∀ W, Grown ws W → ∀ j, j < 4 → W.cell? ⟨kb, off + (i * 4 + j), none⟩ = some (.int .i64 (z1 i j))) := fun W g j hj => keys_cell (hcell i hlt j hj) hkb (grownTrans hgs g)
        have ck0 : wr.cell? ⟨kb, off + i * 4, none⟩ = some (.int .i64 (z1 i 0)) := HC.out _ ht.old 0 (by omega)
        have ck1 : wr.cell? ⟨kb, off + i * 4 + 1, none⟩ = some (.int .i64 (z1 i 1)) := HC.out _ ht.old 1 (by omega)
        have ck2 : wr.cell? ⟨kb, off + i * 4 + 2, none⟩ = some (.int .i64 (z1 i 2)) := HC.out _ ht.old 2 (by omega)
        have ck3 : wr.cell? ⟨kb, off + i * 4 + 3, none⟩ = some (.int .i64 (z1 i 3)) := HC.out _ ht.old 3 (by omega)
        have hw2 := hwf i hlt 2 (by omega)
        obtain ⟨x0, hx0⟩ : ∃ x, x = z1 i 0 := ⟨_, rfl⟩
        obtain ⟨x1, hx1⟩ : ∃ x, x = z1 i 1 := ⟨_, rfl⟩
        obtain ⟨x2, hx2⟩ : ∃ x, x = z1 i 2 := ⟨_, rfl⟩
        obtain ⟨x3, hx3⟩ : ∃ x, x = z1 i 3 := ⟨_, rfl⟩
        rw [← hx0] at ck0
        rw [← hx1] at ck1
        rw [← hx2] at ck2 hw2
        rw [← hx3] at ck3
        have hd : decide ((i : Int) < (len1 : Int)) = true := by rw [decide_eq_true_eq]; omega
        have hb := ht.four (x0 := x0) (x1 := x1) (x2 := x2) (x3 := x3)
        have HWl : Hid (t.Wf ∧ ∀ i, (t.L i).length ≤ 65536) := ⟨ht.wf, fun j => by have := hsh.2 j; omega⟩
        clear hx0 hx1 hx2 hx3 hcell hk1 HC hwf ht
        go_upto_block 2 with fail
        obtain ⟨y, hy⟩ : ∃ y, y = bits .and .i64 x0 3 := ⟨_, rfl⟩
        simp only [← hy]
        have HB : Hid (∀ W t u, Duo ws W X R t u [four wr.heap.size x0 x1 x2 x3] → W.cell? ⟨wr.heap.size, 1, none⟩ = some (.int .i64 x1) ∧ W.cell? ⟨wr.heap.size, 2, none⟩ = some (.int .i64 x2) ∧ W.cell? ⟨wr.heap.size, 3, none⟩ = some (.int .i64 x3) ∧ wr.heap.size < W.heap.size) := fun W t u h => h.four_at (x0 := x0) (by simp)
        obtain ⟨Wb, hWb⟩ : ∃ Wb, wr.alloc (.cells #[.int .i64 x0, .int .i64 x1, .int .i64 x2, .int .i64 x3] 28) = Wb := ⟨_, rfl⟩
        rw [hWb] at hb ⊢
        clear hy hWb ck0 ck1 ck2 ck3
        go_cut [10] from 32 to 136 (fun sv wc => sv = .bool true ∧ ∃ t', t'.Short N (i + 1) ∧ Duo ws wc X R t' t' [four wr.heap.size x0 x1 x2 x3])
        case first =>
          obtain ⟨b1, b2, b3, l1⟩ := HB.out _ _ _ hb
          by_cases hy0 : (y == 0) = true
          · have pt := fun W (h : Duo ws W X R t t [four wr.heap.size x0 x1 x2 x3]) => push_d h x1 x2 x3
            have rpt := fun W (h : Duo ws W X R (t.pushI x1 x2 x3) t [four wr.heap.size x0 x1 x2 x3]) => rpush_d h HWl.out.1 HWl.out.2 x1 x2 x3
            have HN' : Hid ((t.pushI x1 x2 x3).Short N (i + 1)) := Ds.pushI_short hsh x1 x2 x3
            obtain ⟨t1, ht1⟩ : ∃ t1, t1 = t.pushI x1 x2 x3 := ⟨_, rfl⟩
            obtain ⟨E, hE⟩ : ∃ E, E = t.pushE x1 x2 x3 := ⟨_, rfl⟩
            simp only [← ht1, ← hE] at pt rpt
            rw [← ht1] at HN'
            have qE : (E == E) = true := by simp
            have H0 : Hid (Duo ws Wb X R t t [four wr.heap.size x0 x1 x2 x3]) := hb
            unfold ptr at pt rpt
            clear ht1 hE hb
            go_wp2_with fail
            go_region_held3 (fun w' => w'.cell? ⟨wr.heap.size, 1, none⟩ = some (.int .i64 x1) ∧ w'.cell? ⟨wr.heap.size, 2, none⟩ = some (.int .i64 x2) ∧ w'.cell? ⟨wr.heap.size, 3, none⟩ = some (.int .i64 x3)) (first | exact ⟨b7, b8, b9⟩ | exact ⟨b4, b5, b6⟩ | exact ⟨b1, b2, b3⟩ | go_keep) (first | (go_at_call 11; refine (pt _ (H0.out.drewN 1)).mono ?_; rintro e w1 ⟨rfl, h1⟩; obtain ⟨b4, b5, b6, l4⟩ := HB.out _ _ _ h1) | (go_at_call 12; refine (rpt _ h1).mono ?_; rintro e w2 ⟨rfl, h2⟩; obtain ⟨b7, b8, b9, l7⟩ := HB.out _ _ _ h2))
            all_goals
              go_wp2_with fail
              go_meet
              exact ⟨rfl, t1, HN'.out, h2⟩
          · have hy0' : (y == 0) = false := by simpa using hy0
            by_cases hy1 : (y == 1) = true
            · have pt := fun W (h : Duo ws W X R t t [four wr.heap.size x0 x1 x2 x3]) => unlink_d h hw2
              have rpt := fun W (h : Duo ws W X R (t.unlinkI x2) t [four wr.heap.size x0 x1 x2 x3]) => runlink_d h HWl.out.1 HWl.out.2 x2
              have HN' : Hid ((t.unlinkI x2).Short N (i + 1)) := Ds.unlinkI_short hsh x2
              obtain ⟨t1, ht1⟩ : ∃ t1, t1 = t.unlinkI x2 := ⟨_, rfl⟩
              obtain ⟨E, hE⟩ : ∃ E, E = t.unlinkE x2 := ⟨_, rfl⟩
              simp only [← ht1, ← hE] at pt rpt
              rw [← ht1] at HN'
              have qE : (E == E) = true := by simp
              have H0 : Hid (Duo ws Wb X R t t [four wr.heap.size x0 x1 x2 x3]) := hb
              unfold ptr at pt rpt
              clear ht1 hE hb
              go_wp2_with fail
              go_region_held3 (fun w' => w'.cell? ⟨wr.heap.size, 1, none⟩ = some (.int .i64 x1) ∧ w'.cell? ⟨wr.heap.size, 2, none⟩ = some (.int .i64 x2) ∧ w'.cell? ⟨wr.heap.size, 3, none⟩ = some (.int .i64 x3)) (first | exact ⟨b7, b8, b9⟩ | exact ⟨b4, b5, b6⟩ | exact ⟨b1, b2, b3⟩ | go_keep) (first | (go_at_call 13; refine (pt _ (H0.out.drewN 1)).mono ?_; rintro e w1 ⟨rfl, h1⟩; obtain ⟨b4, b5, b6, l4⟩ := HB.out _ _ _ h1) | (go_at_call 14; refine (rpt _ h1).mono ?_; rintro e w2 ⟨rfl, h2⟩; obtain ⟨b7, b8, b9, l7⟩ := HB.out _ _ _ h2))
              all_goals
                go_wp2_with fail
                go_meet
                exact ⟨rfl, t1, HN'.out, h2⟩
            · have hy1' : (y == 1) = false := by simpa using hy1
              by_cases hy2 : (y == 2) = true
              · have pt := fun W (h : Duo ws W X R t t [four wr.heap.size x0 x1 x2 x3]) => move_d h x1 hw2
                have rpt := fun W (h : Duo ws W X R (t.moveI x2 x1) t [four wr.heap.size x0 x1 x2 x3]) => rmove_d h HWl.out.1 HWl.out.2 x2 x1
                have HN' : Hid ((t.moveI x2 x1).Short N (i + 1)) := Ds.moveI_short hsh x2 x1
                obtain ⟨t1, ht1⟩ : ∃ t1, t1 = t.moveI x2 x1 := ⟨_, rfl⟩
                obtain ⟨E, hE⟩ : ∃ E, E = t.moveE x2 x1 := ⟨_, rfl⟩
                simp only [← ht1, ← hE] at pt rpt
                rw [← ht1] at HN'
                have qE : (E == E) = true := by simp
                have H0 : Hid (Duo ws Wb X R t t [four wr.heap.size x0 x1 x2 x3]) := hb
                unfold ptr at pt rpt
                clear ht1 hE hb
                go_wp2_with fail
                go_region_held3 (fun w' => w'.cell? ⟨wr.heap.size, 1, none⟩ = some (.int .i64 x1) ∧ w'.cell? ⟨wr.heap.size, 2, none⟩ = some (.int .i64 x2) ∧ w'.cell? ⟨wr.heap.size, 3, none⟩ = some (.int .i64 x3)) (first | exact ⟨b7, b8, b9⟩ | exact ⟨b4, b5, b6⟩ | exact ⟨b1, b2, b3⟩ | go_keep) (first | (go_at_call 15; refine (pt _ (H0.out.drewN 1)).mono ?_; rintro e w1 ⟨rfl, h1⟩; obtain ⟨b4, b5, b6, l4⟩ := HB.out _ _ _ h1) | (go_at_call 16; refine (rpt _ h1).mono ?_; rintro e w2 ⟨rfl, h2⟩; obtain ⟨b7, b8, b9, l7⟩ := HB.out _ _ _ h2))
                all_goals
                  go_wp2_with fail
                  go_meet
                  exact ⟨rfl, t1, HN'.out, h2⟩
              · have hy2' : (y == 2) = false := by simpa using hy2
                by_cases hy3 : (y == 3) = true
                · have pt := fun W (h : Duo ws W X R t t [four wr.heap.size x0 x1 x2 x3]) => reweigh_d h x3 hw2
                  have rpt := fun W (h : Duo ws W X R (t.reweighI x2 x3) t [four wr.heap.size x0 x1 x2 x3]) => rreweigh_d h HWl.out.1 HWl.out.2 x2 x3
                  have HN' : Hid ((t.reweighI x2 x3).Short N (i + 1)) := Ds.reweighI_short hsh x2 x3
                  obtain ⟨t1, ht1⟩ : ∃ t1, t1 = t.reweighI x2 x3 := ⟨_, rfl⟩
                  obtain ⟨E, hE⟩ : ∃ E, E = t.reweighE x2 x3 := ⟨_, rfl⟩
                  simp only [← ht1, ← hE] at pt rpt
                  rw [← ht1] at HN'
                  have qE : (E == E) = true := by simp
                  have H0 : Hid (Duo ws Wb X R t t [four wr.heap.size x0 x1 x2 x3]) := hb
                  unfold ptr at pt rpt
                  clear ht1 hE hb
                  go_wp2_with fail
                  go_region_held3 (fun w' => w'.cell? ⟨wr.heap.size, 1, none⟩ = some (.int .i64 x1) ∧ w'.cell? ⟨wr.heap.size, 2, none⟩ = some (.int .i64 x2) ∧ w'.cell? ⟨wr.heap.size, 3, none⟩ = some (.int .i64 x3)) (first | exact ⟨b7, b8, b9⟩ | exact ⟨b4, b5, b6⟩ | exact ⟨b1, b2, b3⟩ | go_keep) (first | (go_at_call 17; refine (pt _ (H0.out.drewN 1)).mono ?_; rintro e w1 ⟨rfl, h1⟩; obtain ⟨b4, b5, b6, l4⟩ := HB.out _ _ _ h1) | (go_at_call 18; refine (rpt _ h1).mono ?_; rintro e w2 ⟨rfl, h2⟩; obtain ⟨b7, b8, b9, l7⟩ := HB.out _ _ _ h2))
                  all_goals
                    go_wp2_with fail
                    go_meet
                    exact ⟨rfl, t1, HN'.out, h2⟩
                · have hy3' : (y == 3) = false := by simpa using hy3
                  go_wp2_with fail
                  go_meet
                  exact ⟨rfl, t, hsh.more (by omega), hb⟩
        case rest =>
          obtain ⟨hs10, t', hsh', hc⟩ := hcut
          subst hs10
          clear hb hsh HWl t
          obtain ⟨b1, b2, b3, l1⟩ := HB.out _ _ _ hc
          have HWl : Hid (t'.Wf ∧ ∀ i, (t'.L i).length ≤ 65536) := ⟨hc.wf, fun j => by have := hsh'.2 j; omega⟩
          have ox := of_d hc hw2
          have oy := fun W (h : Duo ws W X R t' t' [four wr.heap.size x0 x1 x2 x3]) => rof_d h HWl.out.1 HWl.out.2 x2
          have ag := fun W (h : Duo ws W X R t' t' [four wr.heap.size x0 x1 x2 x3]) => agree_d h hsh' (by omega)
          obtain ⟨A, hA⟩ : ∃ A, A = t'.ofL x2 := ⟨_, rfl⟩
          obtain ⟨B, hB⟩ : ∃ B, B = t'.ofW x2 := ⟨_, rfl⟩
          rw [← hA, ← hB] at ox oy
          have qA : (A != A) = false := by simp
          have qB : (B != B) = false := by simp
          have HSh : Hid (t'.Short N (i + 1)) := hsh'
          clear hA hB hsh' hw2
          unfold ptr at ox oy ag
          go_wp2_with (first | (go_at_call 19; refine ox.mono ?_; rintro e w1 ⟨rfl, h1⟩; obtain ⟨b4, b5, b6, l4⟩ := HB.out _ _ _ h1) | (go_at_call 20; refine (oy _ h1).mono ?_; rintro e w2 ⟨rfl, h2⟩) | (go_at_call 21; refine (ag _ h2).mono ?_; rintro e w3 ⟨rfl, h3⟩))
          go_roundw
          case rel => exact ⟨i + 1, t', by omega, by go_num, HSh.out, h3.less (fun V hV => absurd hV List.not_mem_nil)⟩
          case measure => simp [intOf]; omega
      · obtain rfl : i = len1 := by omega
        have hd : decide ((i : Int) < (i : Int)) = false := by rw [decide_eq_false_iff_not]; omega
        have ro := duo_row ht 0 1 (by omega)
        have ln := fun W vs (h : Duo ws W X R t t vs) => len_d h 0
        have hL : (t.rowI 0).length ≤ 150 := by have := hsh.row 0; omega
        obtain ⟨L, hLe⟩ : ∃ L, L = (t.rowI 0).length := ⟨_, rfl⟩
        rw [← hLe] at ro ln hL
        rw [show (1 : Int).toNat = 1 from rfl] at ro
        clear hsh ht hk1 hwf
        have hc : L = 0 ∨ 1 ≤ L := by omega
        rcases hc with h0 | h0
        · have e1 : min L 1 = 0 := by omega
          rw [e1] at ro
          rw [h0] at ln
          have ln' : ∀ W vs, Duo ws W X R t t vs → Calls Try.prog 23 #[ptr X, .int .i64 0] W fun e w' => e = .returned (.int .i64 0) ∧ Duo ws w' X R t t vs := ln
          clear ln h0 e1 hLe hL
          unfold ptr at ro ln'
          go_wp2_with (first | (go_at_call 22; refine ro.mono ?_; rintro e w1 ⟨p, c, rfl, h1⟩) | (go_at_call 23; refine (ln' _ _ h1).mono ?_; rintro e w2 ⟨rfl, h2⟩))
          go_ret
          exact ⟨rfl, grownTrans hgs h2.old⟩
        · have e1 : min L 1 = 1 := by omega
          rw [e1] at ro
          have h0I : (1 : Int) ≤ (L : Int) := by omega
          clear e1 hLe
          unfold ptr at ro ln
          go_wp2_with (first | (go_at_call 22; refine ro.mono ?_; rintro e w1 ⟨p, c, rfl, h1⟩) | (go_at_call 23; refine (ln _ _ h1).mono ?_; rintro e w2 ⟨rfl, h2⟩))
          all_goals
            go_ret
            first
              | exact ⟨rfl, grownTrans hgs h2.old⟩
              | (have hone : ((1 : Int) == (L : Int)) = true := by rw [beq_iff_eq]; omega
                 refine ⟨?_, grownTrans hgs h2.old⟩
                 show Ending.returned (Value.bool ((1 : Int) == (L : Int))) = _
                 rw [hone])
  · have d1 : decide (150 < (len1 : Int)) = true := by rw [decide_eq_true_eq]; omega
    clear hl hk1 hwf
    go_enter Try.func3, Try.ntmps3
    go_wp2_with (first | (go_at_call 8; refine (dSmall_any _).mono ?_; rintro e ws ⟨rfl, hgs⟩) | (go_at_call 9; refine (nw _).mono ?_; rintro e wa ⟨X, FX, rfl, hx, gx, hFX⟩) | (go_at_call 10; refine (rnw _ _ _ _ hx _ gx hFX).mono ?_; rintro e wb ⟨R, rfl, hxy⟩))
    go_ret
    exact ⟨rfl, grownTrans hgs hxy.old⟩

/-! ### The row's step -/
set_option maxRecDepth 100000 in
theorem lifted (os : Os) (started : os.Started) (H : Type) (enc : TypeId × Value → H) :
    ReturnsInHanded {} Try.checked os 3 .any (Rows.dequePlaysSpec.pre6 enc Try.prog Try.f3 Rows.dequePlaysRow.domain false) (Rows.dequePlaysSpec.post enc Try.prog Try.f3 false true false false) := by
  refine returnsInHanded_of_change (C := Try.checked) own started (by kernel_rfl) Try.func3
    (ChangeSpec.witness6 (enc := enc) (C := Try.checked) false ⟨#[], #[.int .i64 0, .slice none 0 0], []⟩ 8 (by kernel_rfl) (by kernel_rfl) (by kernel_rfl) (by kernel_rfl)) ?_
  intro W base args ds gs before hval0 hW hcnd _
  have hval : ∀ (j : Nat) t v, Try.f3.params[j]? = some t → args[j]? = some v → Value.okWide Try.prog W .any base t v := hval0
  have hW' := hW
  obtain ⟨p, q, hA0, hV, rfl, hfz, hnd⟩ := hW
  have hA : DataW.TrodAll enc Try.prog W 0 (fun _ => true) true Try.f3.params.toList args.toList ds p := hA0
  rw [Try.params3] at hA hval
  obtain ⟨v0, vs0, d0, ds0, p0, q0, hargs, rfl, rfl, h0, r0⟩ := trodAll_cons hA
  obtain ⟨v1, vs1, d1, ds1, p1, q1, rfl, rfl, rfl, h1, r1⟩ := trodAll_cons r0
  obtain ⟨rfl, rfl, rfl⟩ := trodAll_nil r1
  obtain rfl : args = #[v0, v1] := by cases args; simp_all
  obtain ⟨rfl, rfl⟩ := trodVars_none hV
  obtain ⟨a0, rfl, rfl, rfl, w0⟩ := open_int Try.underlying3 (hval 0 3 v0 rfl rfl) h0
  obtain ⟨a1, len1, cap1, rfl⟩ := okWide_slice Try.underlying22 (hval 1 22 v1 rfl rfl)
  have k1 := h1
  have lt1 : ∀ x ∈ p1, x.block < W.heap.size := by obtain ⟨m, hm⟩ := k1; exact DataW.trod_lt m _ _ _ hm
  obtain ⟨z1, w1⟩ := open_grid Try.underlying22 Try.underlying28 Try.underlying3 (by kernel_rfl) (by kernel_rfl) h1
  clear hA0 hval0
  refine (walk a0 a1 len1 cap1 z1 W w0 w1).mono fun e W' ⟨he, bel⟩ => ?_
  subst he
  exact ⟨_, rfl, _, _, _, [], _, [], hW', trodAll_mk1 (shut_bool Try.underlying4 _), (trodAll_cons_mk (shut_int Try.underlying3 w0) (trodAll_cons_mk (grown_trod laidOut (by kernel_rfl) (of_decide_eq_true (by kernel_rfl)) k1 bel lt1) trodAll_mk0)), rfl, bel.frame _, fun h => by cases h⟩

theorem over : Rows.dequePlaysRow.holds Try.pinned (OpenSpec.ofChange Rows.dequePlaysSpec) :=
  OpenClaim.holds_of_wide 3 Try.f3 rfl rfl rfl rfl rfl rfl rfl ⟨rfl, rfl, rfl, rfl, rfl⟩ rfl rfl rfl rfl rfl (by kernel_rfl) Try.func3 (by kernel_rfl)
    (of_decide_eq_true (by kernel_rfl)) (by unfold Func.isWrapper; first | (rw [if_pos (by decide +kernel)]; kernel_rfl) | (rw [if_neg (by decide +kernel)]; exact ⟨rfl, rfl⟩))
    (fun os started H enc _ => lifted os started H enc)

/-- The statement. -/
theorem proved : Rows.DequePlaysSaid := over
end Go.Proofs.Ytecnlciogcanmaa.dequePlays

namespace Go.Proofs.Ytecnlciogcanmaa
/-- The given statement. -/
theorem dequePlays_holds : Rows.DequePlaysSaid := dequePlays.proved
#print axioms dequePlays_holds
end Go.Proofs.Ytecnlciogcanmaa
