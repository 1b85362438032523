/-
  Proved: pantrylaw07.DequeSums returns true for every row of steps: weights and lengths are those of what All tells, and each number is in the row that Of tells, and in no row twice (P7.4). No condition.
-/
import Derived.Test.YtecnlciogcanmaaRows
import Derived.WalkKit
import Derived.ProofKit
import Derived.OpenShut
import Derived.Test.YtecnlciogcanmaaDqSteps
import Derived.Test.YtecnlciogcanmaaGenArgs
import Derived.BigQuiet
import Derived.Deep.CutBlock
import Derived.ShutString
import Derived.ChangeOld
import Derived.Below
import Derived.Test.YtecnlciogcanmaaGenArgs
namespace Go.Proofs.Ytecnlciogcanmaa.dequeSums
open Go.ChangeShapes Go.WideShapes Go.ChangeAt Go.RowKit
set_option linter.unusedVariables false

theorem own : ownKnob Try.prog.godebug = none := by kernel_rfl
theorem laidOut : laidOutB Try.prog = true := by kernel_rfl

/-! ### The walk: the law returns true, and writes nothing that was there -/
set_option maxRecDepth 100000 in set_option maxHeartbeats 16000000 in
theorem walk (a0 : Option Addr) (len0 cap0 : Nat) (z0 : Nat → Nat → Int) (w : World) (w0 : IsGrid .i64 4 w a0 len0 cap0 z0) :
    Calls Try.prog 4 #[.slice a0 len0 cap0] w fun e w' => e = .returned (.bool true) ∧ Grown w w' := by
  have hk1 := grid_open (by decide) w0
  have hwf : ∀ i, i < len0 → ∀ j, j < 4 → (Lit.int .i64 (z0 i j)).wf = true := fun i hi j hj => by
    rcases w0 with ⟨_, h, _⟩ | ⟨_, _, _, _, h⟩
    · omega
    · exact (h i hi j hj).2
  clear w0
  by_cases hl : len0 ≤ 150
  · have d1 : decide (150 < (len0 : Int)) = false := by rw [decide_eq_false_iff_not]; omega
    have nw := fun w g => new_s 3 w w g
    unfold ptr at nw
    go_enter Try.func4, Try.ntmps4
    go_wp2_with (first | (go_at_call 8; refine (dSmall_any _).mono ?_; rintro e ws ⟨rfl, hgs⟩) | (go_at_call 9; refine (nw _ (Grown.refl _)).mono ?_; rintro e wx ⟨X, rfl, hx⟩))
    clear nw
    go_loopw [5] (fun iv wr => ∃ (i : Nat) (t : Ds), i ≤ len0 ∧ iv = .int .i64 (i : Int) ∧ t.Short 3 i ∧ Dqs ws wr X t []) (fun iv _ => len0 - (intOf iv).toNat)
    case atStart => exact ⟨0, _, by omega, rfl, Ds.zero_short _ _, hx⟩
    case round =>
      clear hx
      obtain ⟨i, t, hi, rfl, hsh, ht⟩ := hrel
      by_cases hlt : i < len0
      · have hkk := hk1
        rcases hkk with h0 | ⟨kb, off, rfl, hkb, hcell⟩
        · omega
        have HC : Hid (∀ W, Grown ws W → ∀ j, j < 4 → W.cell? ⟨kb, off + (i * 4 + j), none⟩ = some (.int .i64 (z0 i j))) := fun W g j hj => keys_cell (hcell i hlt j hj) hkb (grownTrans hgs g)
        have ck0 : wr.cell? ⟨kb, off + i * 4, none⟩ = some (.int .i64 (z0 i 0)) := HC.out _ ht.old 0 (by omega)
        have ck1 : wr.cell? ⟨kb, off + i * 4 + 1, none⟩ = some (.int .i64 (z0 i 1)) := HC.out _ ht.old 1 (by omega)
        have ck2 : wr.cell? ⟨kb, off + i * 4 + 2, none⟩ = some (.int .i64 (z0 i 2)) := HC.out _ ht.old 2 (by omega)
        have ck3 : wr.cell? ⟨kb, off + i * 4 + 3, none⟩ = some (.int .i64 (z0 i 3)) := HC.out _ ht.old 3 (by omega)
        have hw2 := hwf i hlt 2 (by omega)
        obtain ⟨x0, hx0⟩ : ∃ x, x = z0 i 0 := ⟨_, rfl⟩
        obtain ⟨x1, hx1⟩ : ∃ x, x = z0 i 1 := ⟨_, rfl⟩
        obtain ⟨x2, hx2⟩ : ∃ x, x = z0 i 2 := ⟨_, rfl⟩
        obtain ⟨x3, hx3⟩ : ∃ x, x = z0 i 3 := ⟨_, rfl⟩
        rw [← hx0] at ck0
        rw [← hx1] at ck1
        rw [← hx2] at ck2 hw2
        rw [← hx3] at ck3
        have hd : decide ((i : Int) < (len0 : Int)) = true := by rw [decide_eq_true_eq]; omega
        have hb := ht.grown ((Grown.refl wr).alloc #[.int .i64 x0, .int .i64 x1, .int .i64 x2, .int .i64 x3] 28)
        clear hx0 hx1 hx2 hx3 hcell hk1 HC hwf ht
        go_upto_block 2 with fail
        obtain ⟨y, hy⟩ : ∃ y, y = bits .and .i64 x0 3 := ⟨_, rfl⟩
        simp only [← hy]
        clear hy ck0 ck1 ck2 ck3
        go_cut [] from 28 to 127 (fun wc => ∃ t', t'.Short 3 (i + 1) ∧ Dqs ws wc X t' [])
        case first =>
          by_cases hy0 : (y == 0) = true
          · have pt := push_s hb x1 x2 x3
            have HN := Ds.pushI_short hsh x1 x2 x3
            have HN' : Hid ((t.pushI x1 x2 x3).Short 3 (i + 1)) := HN
            obtain ⟨t1, ht1⟩ : ∃ t1, t1 = t.pushI x1 x2 x3 := ⟨_, rfl⟩
            rw [← ht1] at pt HN'
            unfold ptr at pt
            clear ht1 hb HN
            go_wp2_with (first | (go_at_call 11; refine pt.mono ?_; rintro e w1 ⟨rfl, h1⟩))
            go_meet
            exact ⟨t1, HN'.out, h1⟩
          · have hy0' : (y == 0) = false := by simpa using hy0
            by_cases hy1 : (y == 1) = true
            · have pt := unlink_s hb hw2
              have HN' : Hid ((t.unlinkI x2).Short 3 (i + 1)) := Ds.unlinkI_short hsh x2
              obtain ⟨t1, ht1⟩ : ∃ t1, t1 = t.unlinkI x2 := ⟨_, rfl⟩
              rw [← ht1] at pt HN'
              unfold ptr at pt
              clear ht1 hb
              go_wp2_with (first | (go_at_call 13; refine pt.mono ?_; rintro e w1 ⟨rfl, h1⟩))
              go_meet
              exact ⟨t1, HN'.out, h1⟩
            · have hy1' : (y == 1) = false := by simpa using hy1
              by_cases hy2 : (y == 2) = true
              · have pt := move_s hb x1 hw2
                have HN' : Hid ((t.moveI x2 x1).Short 3 (i + 1)) := Ds.moveI_short hsh x2 x1
                obtain ⟨t1, ht1⟩ : ∃ t1, t1 = t.moveI x2 x1 := ⟨_, rfl⟩
                rw [← ht1] at pt HN'
                unfold ptr at pt
                clear ht1 hb
                go_wp2_with (first | (go_at_call 15; refine pt.mono ?_; rintro e w1 ⟨rfl, h1⟩))
                go_meet
                exact ⟨t1, HN'.out, h1⟩
              · have hy2' : (y == 2) = false := by simpa using hy2
                by_cases hy3 : (y == 3) = true
                · have pt := reweigh_s hb x3 hw2
                  have HN' : Hid ((t.reweighI x2 x3).Short 3 (i + 1)) := Ds.reweighI_short hsh x2 x3
                  obtain ⟨t1, ht1⟩ : ∃ t1, t1 = t.reweighI x2 x3 := ⟨_, rfl⟩
                  rw [← ht1] at pt HN'
                  unfold ptr at pt
                  clear ht1 hb
                  go_wp2_with (first | (go_at_call 17; refine pt.mono ?_; rintro e w1 ⟨rfl, h1⟩))
                  go_meet
                  exact ⟨t1, HN'.out, h1⟩
                · have hy3' : (y == 3) = false := by simpa using hy3
                  go_wp2_with fail
                  go_meet
                  exact ⟨t, hsh.more (by omega), hb⟩
        case rest =>
          obtain ⟨t', hsh', hc⟩ := hcut
          clear hb hsh hw2 t
          go_wp2_with fail
          go_loopw [7] (fun kv wk => ∃ k : Nat, k ≤ 3 ∧ kv = .int .i64 (k : Int) ∧ Dqs ws wk X t' []) (fun kv _ => 3 - (intOf kv).toNat)
          case atStart => exact ⟨0, by omega, rfl, hc⟩
          case round =>
            clear hc
            obtain ⟨k, hk3, rfl, hc⟩ := hrel
            by_cases hk : k < 3
            · have hdk : decide ((k : Int) < 3) = true := by rw [decide_eq_true_eq]; omega
              have hw := hc.wf
              have er : t'.rowI (k : Int) = t'.L k := by unfold Ds.rowI; rw [if_pos (by omega)]; rfl
              have hlen := hsh'.2 k
              have ro := row_s hc (k : Int) 1000 (by omega) (by rw [er]; show (t'.L k).length ≤ 1000; omega)
              have wg := fun W vs (h : Dqs ws W X t' vs) => weight_s h (k : Int)
              have ln := fun W vs (h : Dqs ws W X t' vs) => len_s h (k : Int)
              rw [er] at ro wg ln
              have hof := fun id w (h : (id, w) ∈ t'.L k) => hw.of_mem h
              have hels := hw.els k
              have hdup := hw.dup k
              obtain ⟨D, HD⟩ : ∃ D, Hid (D = t'.L k) := ⟨_, rfl⟩
              rw [← HD.out] at ro wg ln hof hels hdup hlen
              obtain ⟨L, HL⟩ : ∃ L, Hid (L = D.length) := ⟨_, rfl⟩
              rw [← HL.out] at ro ln hlen
              have HOF : Hid (∀ id w, (id, w) ∈ D → t'.ofL id = (k : Int) ∧ t'.ofW id = w) := hof
              have HEL : Hid (∀ p ∈ D, 1 ≤ p.1 ∧ p.1 ≤ 65536 ∧ 0 ≤ p.2 ∧ p.2 ≤ 2147483648) := hels
              have HDU : Hid ((D.map (·.1)).Nodup) := hdup
              clear er hof hels hdup hw hc HD
              unfold ptr at ro
              go_wp2_with (first | (go_at_call 22; refine ro.mono ?_; rintro e w1 ⟨p, c, rfl, h1⟩))
              go_loopw [9, 10] (fun nv jv wj => ∃ j : Nat, j ≤ L ∧ nv = .int .i64 (sumI ((D.take j).map (·.2))) ∧ jv = .int .i64 (j : Int) ∧ Dqs ws wj X t' [ids p L c D]) (fun _ jv _ => L - (intOf jv).toNat)
              case atStart => exact ⟨0, by omega, rfl, rfl, h1⟩
              case round =>
                clear h1 ro
                obtain ⟨j, hj, rfl, rfl, h1⟩ := hrel
                by_cases hjL : j < L
                · have hdj : decide ((j : Int) < (L : Int)) = true := by rw [decide_eq_true_eq]; omega
                  obtain ⟨⟨x, v⟩, r, hr⟩ : ∃ pq r, D.drop j = pq :: r := by
                    cases hcc : D.drop j with
                    | nil => have := congrArg List.length hcc; simp at this; have := HL.out; omega
                    | cons a b => exact ⟨a, b, rfl⟩
                  have hmem : (x, v) ∈ D := List.mem_of_mem_drop (by rw [hr]; simp)
                  have hxv := HEL.out _ hmem
                  obtain ⟨o1, o2⟩ := HOF.out _ _ hmem
                  have of1 := of_s h1 (wf_small ⟨hxv.1, hxv.2.1⟩)
                  rw [o1, o2] at of1
                  obtain ⟨A, hpA, hAl, hcA, hLc⟩ := h1.nth (p := p) (n := L) (c := c) (D := D) (by simp) (by omega)
                  subst hpA
                  have c1 : wr.cell? ⟨A, j, none⟩ = some (.int .i64 x) := (hcA j hjL).trans (by rw [idsC_at hr])
                  have e3 := take_next hr
                  have b1 := sum_take_bound (fun p hp => ⟨(HEL.out p hp).2.2.1, (HEL.out p hp).2.2.2⟩) j (show D.length ≤ 65536 by rw [← HL.out]; omega)
                  have HC4 : Hid (∀ W, Dqs ws W X t' [ids (some ⟨A, 0, none⟩) L c D] → (∀ q, q < L → W.cell? ⟨A, q, none⟩ = some (idsC D q)) ∧ A < W.heap.size ∧ W.cell? ⟨A, j, none⟩ = some (.int .i64 x)) := fun W h => by
                    obtain ⟨A', hA', g1, g2, _⟩ := h.nth (p := some ⟨A, 0, none⟩) (n := L) (c := c) (D := D) (by simp) (by omega)
                    cases hA'
                    exact ⟨g2, g1, (g2 j hjL).trans (by rw [idsC_at hr])⟩
                  have HX : Hid (x = (D.map (·.1)).getD j 0) := by
                    have := idsC_at hr
                    unfold idsC at this
                    simp only [Value.int.injEq, true_and] at this
                    exact this.symm
                  obtain ⟨Sv, hSv⟩ : ∃ Sv, Sv = sumI ((D.take j).map (·.2)) := ⟨_, rfl⟩
                  rw [← hSv] at e3 b1 ⊢
                  have HS : Hid (sumI ((D.take (j + 1)).map (·.2)) = Sv + v) := e3
                  have hv1 : 0 ≤ v ∧ v ≤ 2147483648 := ⟨hxv.2.2.1, hxv.2.2.2⟩
                  have qk : ((k : Int) != (k : Int)) = false := by simp
                  clear hcA e3 hmem hxv o1 o2 hr hSv h1
                  unfold ptr at of1
                  go_wp2_with (first | (go_at_call 19; refine of1.mono ?_; rintro e w2 ⟨rfl, h2⟩))
                  clear of1
                  go_loopw [13] (fun gv wg => ∃ g : Nat, g ≤ j ∧ gv = .int .i64 (g : Int) ∧ Dqs ws wg X t' [ids (some ⟨A, 0, none⟩) L c D]) (fun gv _ => j - (intOf gv).toNat)
                  case atStart => exact ⟨0, by omega, rfl, h2⟩
                  case round =>
                    clear h2 c1
                    obtain ⟨g, hg, rfl, h2⟩ := hrel
                    by_cases hgj : g < j
                    · have hdg : decide ((g : Int) < (j : Int)) = true := by rw [decide_eq_true_eq]; omega
                      obtain ⟨g1, g2, g3⟩ := HC4.out _ h2
                      have hgL : g < L := by omega
                      have c2 : wr.cell? ⟨A, g, none⟩ = some (.int .i64 ((D.map (·.1)).getD g 0)) := g1 g hgL
                      have hne := ids_ne HDU.out hgj (by rw [← HL.out]; exact hjL)
                      rw [← HX.out] at hne
                      obtain ⟨u, hu⟩ : ∃ u, u = (D.map (·.1)).getD g 0 := ⟨_, rfl⟩
                      rw [← hu] at c2 hne
                      have hux : (u == x) = false := by simpa using hne
                      clear g1 hu hne
                      go_wp2_with fail
                      go_quiet (fail)
                      go_wp2_with fail
                      go_roundw
                      case rel => exact ⟨g + 1, by omega, by go_num, h2.drewN _⟩
                      case measure => simp [intOf]; omega
                    · obtain rfl : g = j := by omega
                      have hdg : decide ((g : Int) < (g : Int)) = false := by rw [decide_eq_false_iff_not]; omega
                      go_wp2_with fail
                      go_roundw
                      case rel => exact ⟨g + 1, by omega, by rw [HS.out], by go_num, h2⟩
                      case measure => simp [intOf]; omega
                · obtain rfl : j = L := by omega
                  have hdj : decide ((j : Int) < (j : Int)) = false := by rw [decide_eq_false_iff_not]; omega
                  have e4 : D.take j = D := by rw [HL.out, List.take_length]
                  rw [e4]
                  obtain ⟨Sv, hSv⟩ : ∃ Sv, Sv = sumI (D.map (·.2)) := ⟨_, rfl⟩
                  rw [← hSv] at wg ⊢
                  have q1 : (Sv != Sv) = false := by simp
                  have q2 : ((j : Int) != (j : Int)) = false := by simp
                  clear hSv e4
                  unfold ptr at wg ln
                  go_wp2_with (first | (go_at_call 24; refine (wg _ _ h1).mono ?_; rintro e w2 ⟨rfl, h2⟩) | (go_at_call 23; refine (ln _ _ h2).mono ?_; rintro e w3 ⟨rfl, h3⟩))
                  go_roundw
                  case rel => exact ⟨k + 1, by omega, by go_num, h3.less (fun V hV => absurd hV List.not_mem_nil)⟩
                  case measure => simp [intOf]; omega
            · obtain rfl : k = 3 := by omega
              have hdk : decide (((3 : Nat) : Int) < 3) = false := by decide
              go_wp2_with fail
              go_roundw
              case rel => exact ⟨i + 1, t', by omega, by go_num, hsh', hc⟩
              case measure => simp [intOf]; omega
      · obtain rfl : i = len0 := by omega
        have hd : decide ((i : Int) < (i : Int)) = false := by rw [decide_eq_false_iff_not]; omega
        go_wp2_with fail
        go_ret
        exact ⟨rfl, grownTrans hgs ht.old⟩
  · have d1 : decide (150 < (len0 : Int)) = true := by rw [decide_eq_true_eq]; omega
    have nw := fun w g => new_s 3 w w g
    unfold ptr at nw
    clear hl hk1 hwf
    go_enter Try.func4, Try.ntmps4
    go_wp2_with (first | (go_at_call 8; refine (dSmall_any _).mono ?_; rintro e ws ⟨rfl, hgs⟩) | (go_at_call 9; refine (nw _ (Grown.refl _)).mono ?_; rintro e wx ⟨X, rfl, hx⟩))
    go_ret
    exact ⟨rfl, grownTrans hgs hx.old⟩

/-! ### The row's step -/
set_option maxRecDepth 100000 in
theorem lifted (os : Os) (started : os.Started) (H : Type) (enc : TypeId × Value → H) :
    ReturnsInHanded {} Try.checked os 4 .any (Rows.dequeSumsSpec.pre6 enc Try.prog Try.f4 Rows.dequeSumsRow.domain false) (Rows.dequeSumsSpec.post enc Try.prog Try.f4 false true false false) := by
  refine returnsInHanded_of_change (C := Try.checked) own started (by kernel_rfl) Try.func4
    (ChangeSpec.witness6 (enc := enc) (C := Try.checked) false ⟨#[], #[.slice none 0 0], []⟩ 8 (by kernel_rfl) (by kernel_rfl) (by kernel_rfl) (by kernel_rfl)) ?_
  intro W base args ds gs before hval0 hW hcnd _
  have hval : ∀ (j : Nat) t v, Try.f4.params[j]? = some t → args[j]? = some v → Value.okWide Try.prog W .any base t v := hval0
  have hW' := hW
  obtain ⟨p, q, hA0, hV, rfl, hfz, hnd⟩ := hW
  have hA : DataW.TrodAll enc Try.prog W 0 (fun _ => true) true Try.f4.params.toList args.toList ds p := hA0
  rw [Try.params4] at hA hval
  obtain ⟨v0, vs0, d0, ds0, p0, q0, hargs, rfl, rfl, h0, r0⟩ := trodAll_cons hA
  obtain ⟨rfl, rfl, rfl⟩ := trodAll_nil r0
  obtain rfl : args = #[v0] := by cases args; simp_all
  obtain ⟨rfl, rfl⟩ := trodVars_none hV
  obtain ⟨a0, len0, cap0, rfl⟩ := okWide_slice Try.underlying22 (hval 0 22 v0 rfl rfl)
  have k0 := h0
  have lt0 : ∀ x ∈ p0, x.block < W.heap.size := by obtain ⟨m, hm⟩ := k0; exact DataW.trod_lt m _ _ _ hm
  obtain ⟨z0, w0⟩ := open_grid Try.underlying22 Try.underlying28 Try.underlying3 (by kernel_rfl) (by kernel_rfl) h0
  clear hA0 hval0
  refine (walk a0 len0 cap0 z0 W w0).mono fun e W' ⟨he, bel⟩ => ?_
  subst he
  exact ⟨_, rfl, _, _, _, [], _, [], hW', trodAll_mk1 (shut_bool Try.underlying4 _), (trodAll_cons_mk (grown_trod laidOut (by kernel_rfl) (of_decide_eq_true (by kernel_rfl)) k0 bel lt0) trodAll_mk0), rfl, bel.frame _, fun h => by cases h⟩

theorem over : Rows.dequeSumsRow.holds Try.pinned (OpenSpec.ofChange Rows.dequeSumsSpec) :=
  OpenClaim.holds_of_wide 4 Try.f4 rfl rfl rfl rfl rfl rfl rfl ⟨rfl, rfl, rfl, rfl, rfl⟩ rfl rfl rfl rfl rfl (by kernel_rfl) Try.func4 (by kernel_rfl)
    (of_decide_eq_true (by kernel_rfl)) (by unfold Func.isWrapper; first | (rw [if_pos (by decide +kernel)]; kernel_rfl) | (rw [if_neg (by decide +kernel)]; exact ⟨rfl, rfl⟩))
    (fun os started H enc _ => lifted os started H enc)

/-- The statement. -/
theorem proved : Rows.DequeSumsSaid := over
end Go.Proofs.Ytecnlciogcanmaa.dequeSums

namespace Go.Proofs.Ytecnlciogcanmaa
/-- The given statement. -/
theorem dequeSums_holds : Rows.DequeSumsSaid := dequeSums.proved
#print axioms dequeSums_holds
end Go.Proofs.Ytecnlciogcanmaa
