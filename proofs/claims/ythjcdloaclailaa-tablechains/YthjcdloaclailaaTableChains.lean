/-
  Proved: pantrylaw15.TableChains returns true for every seed and every slice of keys: when no old buckets are left each key is in the chain of its place, and in no other one (P15.3). No condition.
-/
import Derived.Test.YthjcdloaclailaaRows
import Derived.WalkKit
import Derived.ProofKit
import Derived.OpenShut
import Derived.Test.YthjcdloaclailaaTbSmall
import Derived.Test.YthjcdloaclailaaTbChn
import Derived.ShutString
import Derived.ChangeOld
import Derived.Below
namespace Go.Proofs.Ythjcdloaclailaa.tableChains
open Go.ChangeShapes Go.WideShapes Go.ChangeAt Go.RowKit
open Go.ChangeMaps (open_string shut_string)
set_option linter.unusedVariables false

theorem own : ownKnob Try.prog.godebug = none := by kernel_rfl
theorem laidOut : laidOutB Try.prog = true := by kernel_rfl

/-- WHAT THE WALK IS TOLD OF A SLICE OF INTEGERS THAT CAME IN: it is nil; or it leads to a row of 'cap' cells, the numbers 'zs' (the first 'len' are its elements, the rest its spare room), each fitting its kind. -/
def IsRow (k : IntKind) (w : World) (a : Option Addr) (len cap : Nat) (zs : List Int) : Prop :=
  (a = none ∧ len = 0 ∧ cap = 0 ∧ zs = []) ∨
  ∃ x, a = some x ∧ len ≤ cap ∧ cap ≤ maxLen ∧ zs.length = cap ∧ (∀ i, i < zs.length → w.cell? (x.add i) = some (.int k (zs.getD i 0))) ∧ ∀ n ∈ zs, (Lit.int k n).wf = true

/-! ### STEP 1: THE WALK: the Go text returns true, AND WRITES NOTHING THAT WAS THERE: 'Below w.heap.size w w'' (Derived/Below.lean: '.refl', '.alloc', '.drew', '.setCell' at a new block, '.trans'). Open each 'IsRow' by 'rcases' AHEAD of 'go_enter'; part every test ahead of the walk. -/
open Go.Proofs.Ythjcdloaclailaa.Us Go.Proofs.Ythjcdloaclailaa.Tb in set_option maxRecDepth 20000 in set_option maxHeartbeats 8000000 in
theorem walk (a0 : Int) (a1 : Option Addr) (len1 cap1 : Nat) (z1 : List Int) (w : World) (w0 : (Lit.int .i64 a0).wf = true) (w1 : IsRow .i64 w a1 len1 cap1 z1) :
    Calls Try.prog 7 #[.int .i64 a0, .slice a1 len1 cap1] w fun e w' => e = .returned (.bool true) ∧ Grown w w' := by
  have hk1 := keys_open w1
  clear w0 w1
  have nw := fun (w1 : World) (g : Grown w w1) => new_e a0 (Apt.none g)
  by_cases hl : 150 < len1
  · clear hk1
    have d1 : decide (150 < (len1 : Int)) = true := by rw [decide_eq_true_eq]; omega
    go_enter Try.func7, Try.ntmps7
    go_wp2_with (first | (go_at_call 9; refine (Tb.small_s _).mono ?_; rintro e ws ⟨rfl, hgs⟩) | (go_at_call 10; refine (nw _ hgs).mono ?_; rintro e wx ⟨t, rfl, hx, _⟩; clear nw hgs; unfold ptr))
    go_ret
    exact ⟨rfl, hx.grown⟩
  · have d1 : decide (150 < (len1 : Int)) = false := by rw [decide_eq_false_iff_not]; omega
    have hlen : len1 ≤ 150 := by omega
    have hkk : ∀ k, k < len1 → ∃ kb off, a1 = some ⟨kb, off, none⟩ ∧ ∀ W, Grown w W → W.cell? ⟨kb, off + k, none⟩ = some (.int .i64 (z1.getD k 0)) := fun k hlt => by
      rcases hk1 with h | ⟨kb, off, h1, h2, h3⟩
      · omega
      · exact ⟨kb, off, h1, fun W g => keys_cell (h3 k hlt) h2 g⟩
    clear hk1 hl
    go_enter Try.func7, Try.ntmps7
    go_wp2_with (first | (go_at_call 9; refine (Tb.small_s _).mono ?_; rintro e ws ⟨rfl, hgs⟩) | (go_at_call 10; refine (nw _ hgs).mono ?_; rintro e wx ⟨t, rfl, hx, t1⟩; clear nw hgs; obtain ⟨X, hX⟩ : ∃ X, Hid (t.X = X) := ⟨_, rfl⟩; rw [hX.out]; have hx : Hid (Apt w wx [obT t]) := hx; have t1 : Hid _ := t1; unfold ptr))
    have hin : Hid (t.es.length ≤ 0 ∧ t.n ≤ 8 + 2 * 0 ∧ t.s = a0) := ⟨by rw [t1.out.1]; exact Nat.le_refl _, by rw [t1.out.2.1]; omega, t1.out.2.2.2⟩
    clear t1
    go_loopw [7] (fun i wr => ∃ (k : Nat) (u : Tab), k ≤ len1 ∧ i = .int .i64 (k : Int) ∧ Hid (u.X = X) ∧ Hid (u.es.length ≤ k ∧ u.n ≤ 8 + 2 * k ∧ u.s = a0) ∧ Hid (Apt w wr [obT u])) (fun i _ => len1 - (intOf i).toNat)
    case atStart => exact ⟨0, t, by omega, rfl, hX, hin, hx⟩
    case round =>
      clear hx hin hX
      obtain ⟨k, u, hk, rfl, hX, hu, hx⟩ := hrel
      by_cases hlt : k < len1
      · have hd : decide ((k : Int) < (len1 : Int)) = true := by rw [decide_eq_true_eq]; omega
        obtain ⟨kb, off, rfl, ck⟩ := hkk k hlt
        obtain ⟨y, hy⟩ : ∃ y, y = z1.getD k 0 := ⟨_, rfl⟩
        rw [← hy] at ck
        have ck1 := ck _ hx.out.grown
        have pt := put_any hx.out (i := 0) rfl hX.out ⟨y, 0, 0, 0⟩ (by have := hu.out.1; omega)
        clear hy hkk ck hx
        go_wp2_with (go_at_call 12; refine pt.mono ?_; rintro e w2 ⟨v2, b2, t2, rfl, hX2, h2, hu2⟩; clear pt ck1)
        go_roundw
        case rel => exact ⟨k + 1, t2, by omega, by go_num, hX2, ⟨by have := hu.out.1; have := hu2.out.1; omega, by have := hu.out; have := hu2.out.2.1; omega, by rw [hu2.out.2.2]; exact hu.out.2.2⟩, h2⟩
        case measure => simp [intOf]; omega
      · obtain rfl : k = len1 := by omega
        have hd : decide ((k : Int) < (k : Int)) = false := by rw [decide_eq_false_iff_not]; omega
        have hin : Hid (u.es.length ≤ 150 ∧ u.n ≤ 308 ∧ u.s = a0 ∧ u.l + 0 ≤ 1000) := ⟨by have := hu.out.1; omega, by have := hu.out.2.1; omega, hu.out.2.2, by have := (hx.out.all 0 _ rfl : Tb.Tb _ u).sh.le; have := hu.out.2.1; omega⟩
        clear hu hkk
        go_wp2
        go_loopw [8] (fun i wr => ∃ (k : Nat) (t : Tab), i = .int .i64 (k : Int) ∧ Hid (t.X = X) ∧ Hid (t.es.length ≤ 150 ∧ t.n ≤ 308 ∧ t.s = a0 ∧ t.l + k ≤ 1000) ∧ Hid (Apt w wr [obT t])) (fun i _ => 1001 - (intOf i).toNat)
        case atStart => exact ⟨0, u, rfl, hX, hin, hx⟩
        case round =>
          clear hx hin hX
          obtain ⟨i, v, rfl, hX, hv, hx⟩ := hrel
          obtain ⟨L, hL⟩ : ∃ L, Hid (v.l = L) := ⟨_, rfl⟩
          have hi : i ≤ 1000 := by have := hv.out.2.2.2; omega
          have hd2 : decide ((i : Int) < 2000) = true := by rw [decide_eq_true_eq]; omega
          have lf := left_s hx.out (i := 0) rfl
          rw [hX.out, hL.out] at lf
          unfold ptr at lf
          by_cases h0 : 0 < L
          · have g1 : decide (0 < L) = true := decide_eq_true h0
            have g2 : decide ((L : Int) > 0) = true := by rw [decide_eq_true_eq]; omega
            have rm := rem_some hx.out (i := 0) rfl hX.out (-9223372036854775808) (by have := hv.out.1; omega)
            clear hx
            go_wp2_with (first
              | (go_at_call 21; refine lf.mono ?_; rintro e w' ⟨rfl, hw⟩; have hw := hw.symm; subst hw; clear lf)
              | (go_at_call 14; refine rm.mono ?_; rintro e w2 ⟨v2, b2, t2, rfl, hX2, h2, hu2⟩; clear rm))
            go_roundw
            case rel => exact ⟨i + 1, t2, by go_num, hX2, ⟨by have := hv.out.1; have := hu2.out.1; omega, by rw [hu2.out.2.1]; exact hv.out.2.1, by rw [hu2.out.2.2.2]; exact hv.out.2.2.1, by have := hu2.out.2.2.1; have := hv.out.2.2.2; rw [hL.out] at *; omega⟩, h2⟩
            case measure => simp [intOf]; omega
          · obtain rfl : L = 0 := by omega
            have g1 : decide ((0 : Int) > 0) = false := by decide
            go_wp2_with (go_at_call 21; refine lf.mono ?_; rintro e w' ⟨rfl, hw⟩; have hw := hw.symm; subst hw; clear lf)
            obtain ⟨N, hN⟩ : ∃ N, Hid (v.n = N) := ⟨_, rfl⟩
            have hN1 : N ≤ 308 := by rw [← hN.out]; exact hv.out.2.1
            go_loopw [9, 10, 11, 12, 13, 14] (fun nv bv _ _ _ _ wr => ∃ (b : Nat), b ≤ N ∧ bv = .int .i64 (b : Int) ∧ nv = .int .i64 (sumC v b : Int) ∧ Hid (Apt w wr [obT v])) (fun _ b _ _ _ _ _ => N - (intOf b).toNat)
            case atStart => exact ⟨0, by omega, rfl, rfl, hx⟩
            case round =>
              clear hx
              obtain ⟨b, hb, rfl, rfl, hx⟩ := hrel
              have hs : Hid (Shape v) := (hx.out.all 0 _ rfl : Tb.Tb _ v).sh
              have hnd : Hid ((v.D.map (·.1)).Nodup) := (hx.out.all 0 _ rfl : Tb.Tb _ v).mem.nd
              have bk := buckets_s hx.out (i := 0) rfl
              rw [hX.out, hN.out] at bk
              unfold ptr at bk
              by_cases hbn : b < N
              · have hd3 : decide ((b : Int) < (N : Int)) = true := by rw [decide_eq_true_eq]; omega
                have ch := chain_e hx.out (i := 0) rfl hX.out (by have := hv.out.1; omega) (b : Int)
                rw [kAt_zero hs.out hL.out (by rw [hN.out]; exact hbn)] at ch
                obtain ⟨q, hq⟩ : ∃ q, Hid (q = kz (v.c b)) := ⟨_, rfl⟩
                rw [← hq.out] at ch
                have hql : Hid (q.length ≤ 150 ∧ sumC v b + q.length = sumC v (b + 1) ∧ sumC v (b + 1) ≤ 1000000) := by
                  refine ⟨?_, by rw [sumC_succ, hq.out], ?_⟩
                  · have := chain_le hs.out (j := b) (by rw [hN.out]; exact hbn)
                    rw [es_len] at this
                    have := hv.out.1
                    rw [hq.out]; simp [kz]; omega
                  · have := flat_le hs.out hnd.out (b + 1) (by rw [hN.out]; exact hbn)
                    rw [es_len] at this
                    have := hv.out.1
                    unfold sumC; omega
                obtain ⟨S, hS⟩ : ∃ S, Hid (S = sumC v b) := ⟨_, rfl⟩
                have hS1 : S ≤ 1000000 := by rw [hS.out]; have := hql.out; omega
                obtain ⟨Q, hQ⟩ : ∃ Q, Hid (Q = q.length) := ⟨_, rfl⟩
                have hQ1 : Q ≤ 150 := by rw [hQ.out]; exact hql.out.1
                rw [← hQ.out] at ch
                rw [← hS.out]
                clear hx
                go_wp2_with (first
                  | (go_at_call 20; refine bk.mono ?_; rintro e w' ⟨rfl, hw⟩; have hw := hw.symm; subst hw; clear bk)
                  | (go_at_call 24; refine ch.mono ?_; rintro e w2 ⟨p2, c2, rfl, h2⟩; clear ch; have h2 : Hid (Apt w w2 [obT v, obV p2 c2 q]) := h2))
                go_loopw [12, 13, 14] (fun iv _ _ wr => ∃ (j : Nat), j ≤ Q ∧ iv = .int .i64 (j : Int) ∧ Hid (Apt w wr [obT v, obV p2 c2 q])) (fun i _ _ _ => Q - (intOf i).toNat)
                case atStart => exact ⟨0, by omega, rfl, h2⟩
                case round =>
                  clear h2
                  obtain ⟨j, hj, rfl, h3⟩ := hrel
                  by_cases hjq : j < Q
                  · have hd4 : decide ((j : Int) < (Q : Int)) = true := by rw [decide_eq_true_eq]; omega
                    obtain ⟨B, rfl, lB, cB, _, _⟩ := Vec.opens (h3.out.all 1 _ rfl) (by rw [← hQ.out]; omega)
                    have hjl : j < q.length := by rw [← hQ.out]; exact hjq
                    have hmem : q.getD j 0 ∈ kz (v.c b) := by
                      rw [← hq.out, List.getD_eq_getElem?_getD, List.getElem?_eq_getElem hjl]
                      exact List.getElem_mem hjl
                    obtain ⟨x, hxc, hxk⟩ := kz_mem hmem
                    obtain ⟨kp, kes⟩ := key_place hs.out hL.out (by rw [hN.out]; exact hbn) hxc
                    have ck : wr.cell? ⟨B, j, none⟩ = some (.int .i64 x.2.k) := by
                      rw [hxk]
                      exact cB j (by omega)
                    have cK : Hid (∀ W, Apt w W [obT v, obV (some ⟨B, 0, none⟩) c2 q] → W.cell? ⟨B, j, none⟩ = some (.int .i64 x.2.k)) := fun W h => by
                      obtain ⟨B', e, _, c, _, _⟩ := Vec.opens (h.all 1 _ rfl) (by rw [← hQ.out]; omega)
                      cases e
                      rw [hxk]
                      exact c j (by omega)
                    have gt := get_some h3.out (i := 0) rfl hX.out kes
                    have ix := index_nat a0 x.2.k N (by omega)
                    rw [show ub a0 x.2.k % N = b by rw [← hv.out.2.2.1, ← hN.out]; exact kp] at ix
                    have hbb : ((b : Int) != (b : Int)) = false := by simp
                    clear hmem hxc hxk kp kes cB h3 hjl
                    obtain ⟨r, hr⟩ : ∃ r, r = x.2 := ⟨_, rfl⟩
                    rw [← hr] at ck gt ix cK
                    clear hr
                    have mx := fun W => mix_any a0 r.k W
                    obtain ⟨H, hH⟩ : ∃ H, H = mixB a0 r.k := ⟨_, rfl⟩
                    rw [← hH] at ix mx
                    clear hH
                    go_wp2_with (first
                      | (go_at_call 16; refine gt.mono ?_; rintro e w4 ⟨rfl, h4⟩; clear gt ck lB; have h5 : Hid (Apt w (w4.alloc (.cells #[.int .i64 r.k, .int .i64 r.a, .int .i64 r.x, .int .i64 r.n] 30)) [obT v, obV (some ⟨B, 0, none⟩) c2 q]) := h4.out.more ((Grown.refl _).alloc _ _); clear h4; have ck : (w4.alloc (.cells #[.int .i64 r.k, .int .i64 r.a, .int .i64 r.x, .int .i64 r.n] 30)).cell? ⟨B, j, none⟩ = some (.int .i64 r.k) := cK.out _ h5.out; have bk2 := buckets_s h5.out (i := 0) rfl; rw [hX.out, hN.out] at bk2; unfold ptr at bk2)
                      | (go_at_call 30; refine (mx _).mono ?_; rintro e w' ⟨rfl, hw⟩; have hw := hw.symm; subst hw)
                      | (go_at_call 20; refine bk2.mono ?_; rintro e w' ⟨rfl, hw⟩; have hw := hw.symm; subst hw; clear bk2)
                      | (go_at_call 29; refine (index_any _ _ _ _ (by omega)).mono ?_; rintro e w' ⟨rfl, hw⟩; have hw := hw.symm; subst hw))
                    go_roundw
                    case rel => exact ⟨j + 1, by omega, by go_num, h5⟩
                    case measure => simp [intOf]; omega
                  · obtain rfl : j = Q := by omega
                    have hd4 : decide ((j : Int) < (j : Int)) = false := by rw [decide_eq_false_iff_not]; omega
                    go_wp2
                    go_roundw
                    case rel => exact ⟨b + 1, by omega, by go_num, by have := hql.out.2.1; rw [← hS.out, ← hQ.out] at this; rw [← this]; go_num, h3.out.front⟩
                    case measure => simp [intOf]; omega
              · obtain rfl : b = N := by omega
                have hd3 : decide ((b : Int) < (b : Int)) = false := by rw [decide_eq_false_iff_not]; omega
                have hsm := sumC_all hs.out hnd.out
                rw [hN.out] at hsm
                rw [hsm]
                obtain ⟨S, hS⟩ : ∃ S, Hid (S = v.es.length) := ⟨_, rfl⟩
                rw [← hS.out]
                have ln := len_e hx.out (i := 0) rfl hX.out
                rw [← hS.out] at ln
                have lf := left_s hx.out (i := 0) rfl
                rw [hX.out, hL.out] at lf
                unfold ptr at lf
                have hSS : ((S : Int) == (S : Int)) = true := by simp
                clear hsm
                go_wp2_with (first
                  | (go_at_call 20; refine bk.mono ?_; rintro e w' ⟨rfl, hw⟩; have hw := hw.symm; subst hw; clear bk)
                  | (go_at_call 18; refine ln.mono ?_; rintro e w' ⟨rfl, hw⟩; have hw := hw.symm; subst hw; clear ln)
                  | (go_at_call 21; refine lf.mono ?_; rintro e w' ⟨rfl, hw⟩; have hw := hw.symm; subst hw; clear lf))
                go_ret
                exact ⟨rfl, hx.out.grown⟩

/-! ### THE ROW's STEP: WRITTEN OUT: LEAVE IT -/
set_option maxRecDepth 100000 in
theorem lifted (os : Os) (started : os.Started) (H : Type) (enc : TypeId × Value → H) :
    ReturnsInHanded {} Try.checked os 7 .any (Rows.tableChainsSpec.pre6 enc Try.prog Try.f7 Rows.tableChainsRow.domain false) (Rows.tableChainsSpec.post enc Try.prog Try.f7 false true false false) := by
  refine returnsInHanded_of_change (C := Try.checked) own started (by kernel_rfl) Try.func7
    (ChangeSpec.witness6 (enc := enc) (C := Try.checked) false ⟨#[], #[.int .i64 0, .slice none 0 0], []⟩ 8 (by kernel_rfl) (by kernel_rfl) (by kernel_rfl) (by kernel_rfl)) ?_
  intro W base args ds gs before hval0 hW hcnd _
  have hval : ∀ (j : Nat) t v, Try.f7.params[j]? = some t → args[j]? = some v → Value.okWide Try.prog W .any base t v := hval0
  have hW' := hW
  obtain ⟨p, q, hA0, hV, rfl, hfz, hnd⟩ := hW
  have hA : DataW.TrodAll enc Try.prog W 0 (fun _ => true) true Try.f7.params.toList args.toList ds p := hA0
  rw [Try.params7] at hA hval
  obtain ⟨v0, vs0, d0, ds0, p0, q0, hargs, rfl, rfl, h0, r0⟩ := trodAll_cons hA
  obtain ⟨v1, vs1, d1, ds1, p1, q1, rfl, rfl, rfl, h1, r1⟩ := trodAll_cons r0
  obtain ⟨rfl, rfl, rfl⟩ := trodAll_nil r1
  obtain rfl : args = #[v0, v1] := by cases args; simp_all
  obtain ⟨rfl, rfl⟩ := trodVars_none hV
  obtain ⟨a0, rfl, rfl, rfl, w0⟩ := open_int Try.underlying3 (hval 0 3 v0 rfl rfl) h0
  obtain ⟨a1, len1, cap1, rfl⟩ := okWide_slice Try.underlying39 (hval 1 39 v1 rfl rfl)
  have k1 := h1
  have lt1 : ∀ x ∈ p1, x.block < W.heap.size := by obtain ⟨m, hm⟩ := k1; exact DataW.trod_lt m _ _ _ hm
  obtain ⟨z1, w1⟩ : ∃ zs, IsRow .i64 W a1 len1 cap1 zs := by
    obtain ⟨fuel, hf⟩ := h1
    rcases open_ints Try.underlying39 Try.underlying3 (by kernel_rfl) hf with ⟨hcs, _⟩ | ⟨x, l, c, zs, hcs, _, hl, hm, hz, _, hcell, hwz⟩
    · simp [Value.cells] at hcs
      obtain ⟨rfl, rfl, rfl⟩ := hcs
      exact ⟨[], .inl ⟨rfl, rfl, rfl, rfl⟩⟩
    · simp [Value.cells] at hcs
      obtain ⟨rfl, rfl, rfl⟩ := hcs
      exact ⟨zs, .inr ⟨_, rfl, hl, hm, by simpa using hz, hcell, hwz⟩⟩
  clear hA0 hval0
  refine (walk a0 a1 len1 cap1 z1 W w0 w1).mono fun e W' ⟨he, bel⟩ => ?_
  subst he
  exact ⟨_, rfl, _, _, _, [], _, [], hW', trodAll_mk1 (shut_bool Try.underlying4 _), (trodAll_cons_mk (shut_int Try.underlying3 w0) (trodAll_cons_mk (grown_trod laidOut (by kernel_rfl) (of_decide_eq_true (by kernel_rfl)) k1 bel lt1) trodAll_mk0)), rfl, bel.frame _, fun h => by cases h⟩

theorem over : Rows.tableChainsRow.holds Try.pinned (OpenSpec.ofChange Rows.tableChainsSpec) :=
  OpenClaim.holds_of_wide 7 Try.f7 rfl rfl rfl rfl rfl rfl rfl ⟨rfl, rfl, rfl, rfl, rfl⟩ rfl rfl rfl rfl rfl (by kernel_rfl) Try.func7 (by kernel_rfl)
    (of_decide_eq_true (by kernel_rfl)) (by unfold Func.isWrapper; first | (rw [if_pos (by decide +kernel)]; kernel_rfl) | (rw [if_neg (by decide +kernel)]; exact ⟨rfl, rfl⟩))
    (fun os started H enc _ => lifted os started H enc)

/-- ████ THE STATEMENT ████ -/
theorem proved : Rows.TableChainsSaid := over
end Go.Proofs.Ythjcdloaclailaa.tableChains

namespace Go.Proofs.Ythjcdloaclailaa
/-- The given statement. -/
theorem tableChains_holds : Rows.TableChainsSaid := tableChains.proved
#print axioms tableChains_holds
end Go.Proofs.Ythjcdloaclailaa
