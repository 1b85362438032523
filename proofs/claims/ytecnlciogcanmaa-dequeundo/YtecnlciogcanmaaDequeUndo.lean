/-
  Proved: pantrylaw07.DequeUndo returns true for every slice of numbers, every number and every weight: what is pushed and unlinked leaves all as it was, and what is moved round a row comes where it was (P7.5). No condition.
-/
import Derived.Test.YtecnlciogcanmaaRows
import Derived.WalkKit
import Derived.ProofKit
import Derived.OpenShut
import Derived.Test.YtecnlciogcanmaaDqMany
import Derived.Deep.CutRange
import Derived.Deep.RegionHeld3
import Derived.ShutString
import Derived.ChangeOld
import Derived.Below
namespace Go.Proofs.Ytecnlciogcanmaa.dequeUndo
open Go.ChangeShapes Go.WideShapes Go.ChangeAt Go.RowKit
open Go.ChangeMaps (open_string shut_string)
set_option linter.unusedVariables false

theorem own : ownKnob Try.prog.godebug = none := by kernel_rfl
theorem laidOut : laidOutB Try.prog = true := by kernel_rfl

/-- WHAT THE WALK IS TOLD OF A SLICE OF INTEGERS THAT CAME IN: it is nil; or it leads to a row of 'cap' cells, the numbers 'zs' (the first 'len' are its elements, the rest its spare room), each fitting its kind. -/
def IsRow (k : IntKind) (w : World) (a : Option Addr) (len cap : Nat) (zs : List Int) : Prop :=
  (a = none ∧ len = 0 ∧ cap = 0 ∧ zs = []) ∨
  ∃ x, a = some x ∧ len ≤ cap ∧ cap ≤ maxLen ∧ zs.length = cap ∧ (∀ i, i < zs.length → w.cell? (x.add i) = some (.int k (zs.getD i 0))) ∧ ∀ n ∈ zs, (Lit.int k n).wf = true

/-! ### STEP 1: THE WALK: the Go text returns true, AND WRITES NOTHING THAT WAS THERE: 'Below w.heap.size w w'' (Derived/Below.lean: '.refl', '.alloc', '.drew', '.setCell' at a new block, '.trans'). Open each 'IsRow' by 'rcases' AHEAD of 'go_enter'; part every test ahead of the walk. -/
set_option maxRecDepth 100000 in set_option maxHeartbeats 16000000 in
theorem walk (a0 : Option Addr) (len0 cap0 : Nat) (z0 : List Int) (a1 : Int) (a2 : Int) (w : World) (w0 : IsRow .i64 w a0 len0 cap0 z0) (w1 : (Lit.int .i64 a1).wf = true) (w2 : (Lit.int .i64 a2).wf = true) :
    Calls Try.prog 5 #[.slice a0 len0 cap0, .int .i64 a1, .int .i64 a2] w fun e w' => e = .returned (.bool true) ∧ Grown w w' := by
  have hk := keys_open w0
  clear w0
  by_cases hl : len0 ≤ 100
  · have d3 : decide (100 < (len0 : Int)) = false := by rw [decide_eq_false_iff_not]; omega
    have nw := fun w g => new_s 2 w w g
    unfold ptr at nw
    go_enter Try.func5, Try.ntmps5
    go_wp2_with (first | (go_at_call 8; refine (dSmall_any _).mono ?_; rintro e ws ⟨rfl, hgs⟩) | (go_at_call 9; refine (nw _ (Grown.refl _)).mono ?_; rintro e wx ⟨X, rfl, hx⟩))
    go_loopw [9] (fun iv wr => ∃ (j : Nat) (t : Ds), j ≤ len0 ∧ iv = .int .i64 (j : Int) ∧ t.n = 2 ∧ (t.L 0).length ≤ j ∧ (t.L 1).length ≤ j ∧ 0 ≤ sumI ((t.L 0).map (·.2)) ∧ sumI ((t.L 0).map (·.2)) ≤ 100 * j ∧ Dqs ws wr X t []) (fun iv _ => len0 - (intOf iv).toNat)
    case atStart => exact ⟨0, Ds.zero 2, by omega, rfl, rfl, by simp [Ds.zero], by simp [Ds.zero], by decide, by decide, hx⟩
    case round =>
      clear hx nw
      obtain ⟨j, t, hj, rfl, htn, hL0, hL1, hs0, hs1, ht⟩ := hrel
      by_cases hlt : j < len0
      · have hkk := hk
        rcases hkk with h0 | ⟨kb, off, rfl, hkb, hcell⟩
        · omega
        have CK : Hid (∀ W, Grown ws W → W.cell? ⟨kb, off + j, none⟩ = some (.int .i64 (z0.getD j 0))) := fun W g => keys_cell (hcell j hlt) hkb (grownTrans hgs g)
        obtain ⟨key, hkey⟩ : ∃ key, key = z0.getD j 0 := ⟨_, rfl⟩
        simp only [← hkey] at CK
        have ck := CK.out _ ht.old
        have hd : decide ((j : Int) < (len0 : Int)) = true := by rw [decide_eq_true_eq]; omega
        obtain ⟨l, HLl⟩ : ∃ l, Hid (l = bits .and .i64 key 1) := ⟨_, rfl⟩
        have pu := fun W (h : Dqs ws W X t []) => push_s h l key (j : Int)
        have HT : Hid ((t.pushI l key (j : Int)).n = 2 ∧ ((t.pushI l key (j : Int)).L 0).length ≤ j + 1 ∧ ((t.pushI l key (j : Int)).L 1).length ≤ j + 1 ∧ 0 ≤ sumI (((t.pushI l key (j : Int)).L 0).map (·.2)) ∧ sumI (((t.pushI l key (j : Int)).L 0).map (·.2)) ≤ 100 * ((j : Int) + 1)) := by
          unfold Ds.pushI
          split
          · have hr : ∀ i, ((t.push l.toNat key (j : Int)).L i).length ≤ (t.L i).length + 1 ∧ (sumI (((t.push l.toNat key (j : Int)).L i).map (·.2)) = sumI ((t.L i).map (·.2)) + (j : Int) ∨ sumI (((t.push l.toNat key (j : Int)).L i).map (·.2)) = sumI ((t.L i).map (·.2))) := fun i => by
              rw [Ds.push_row]
              split
              · rw [List.map_append, sumI_append]; simp [sumI]
              · simp
            have h0 := hr 0
            have h1 := hr 1
            exact ⟨htn, by omega, by omega, by omega, by omega⟩
          · exact ⟨htn, by omega, by omega, by omega, by omega⟩
        obtain ⟨t', ht'⟩ : ∃ t', t' = t.pushI l key (j : Int) := ⟨_, rfl⟩
        obtain ⟨E, hE⟩ : ∃ E, E = t.pushE l key (j : Int) := ⟨_, rfl⟩
        simp only [← ht', ← hE] at pu
        rw [← ht'] at HT
        have H0 : Hid (Dqs ws wr X t []) := ht
        clear hcell hkey ht hk htn hL0 hL1 hs0 hs1 ht' hE
        rw [HLl.out] at pu
        unfold ptr at pu
        go_wp2_with fail
        go_region_held3 (fun w' => w'.cell? ⟨kb, off + j, none⟩ = some (.int .i64 key)) (first | exact ck1 | exact ck | go_keep) (first | (go_at_call 11; refine (pu _ (H0.out.drewN 1)).mono ?_; rintro e w1 ⟨rfl, h1⟩; have ck1 := CK.out _ h1.old))
        all_goals
          go_wp2_with fail
          go_roundw
          case rel => exact ⟨j + 1, t', by omega, by go_num, HT.out.1, HT.out.2.1, HT.out.2.2.1, HT.out.2.2.2.1, by have := HT.out.2.2.2.2; omega, h1⟩
          case measure => simp [intOf]; omega
      · have hd : decide ((j : Int) < (len0 : Int)) = false := by rw [decide_eq_false_iff_not]; omega
        have hw := ht.wf
        have hr0 : t.rowI 0 = t.L 0 := rfl
        have hr1 : t.rowI 1 = t.L 1 := rfl
        have r0 := fun W vs (h : Dqs ws W X t vs) => row_s h 0 1000 (by omega) (by rw [hr0]; show (t.L 0).length ≤ 1000; omega)
        have r1 := fun W vs (h : Dqs ws W X t vs) => row_s h 1 1000 (by omega) (by rw [hr1]; show (t.L 1).length ≤ 1000; omega)
        have wg := fun W vs (h : Dqs ws W X t vs) => weight_s h 0
        have pu := fun W vs (h : Dqs ws W X t vs) => push_s h 0 a1 a2
        rw [hr0] at r0 wg
        rw [hr1] at r1
        have hund := fun (he : t.pushE 0 a1 a2 = 0) => hw.undo (l := 0) (id := a1) (wt := a2) he
        rw [show ((0 : Nat) : Int) = 0 from rfl, hr0] at hund
        obtain ⟨A0, HA⟩ : ∃ A0, Hid (A0 = t.L 0) := ⟨_, rfl⟩
        obtain ⟨B0, HB⟩ : ∃ B0, Hid (B0 = t.L 1) := ⟨_, rfl⟩
        rw [← HA.out] at r0 wg hund hL0 hs0 hs1
        rw [← HB.out] at r1 hL1
        obtain ⟨N, HN⟩ : ∃ N, Hid (N = A0.length) := ⟨_, rfl⟩
        obtain ⟨NB, HNB⟩ : ∃ NB, Hid (NB = B0.length) := ⟨_, rfl⟩
        obtain ⟨Wt, HWt⟩ : ∃ Wt, Hid (Wt = sumI (A0.map (·.2))) := ⟨_, rfl⟩
        rw [← HN.out] at r0 hL0
        rw [← HNB.out] at r1 hL1
        rw [← HWt.out] at wg hund hs0 hs1
        have HTn : Hid (t.n = 2) := htn
        have hN1 : N ≤ 100 := by omega
        have hNB1 : NB ≤ 100 := by omega
        have hW1 : Wt ≤ 10000 := by omega
        have T0 : Hid True := trivial
        clear hr0 hr1 htn hL0 hL1 hs1 hw
        by_cases he : t.pushE 0 a1 a2 = 0
        · obtain ⟨_, g2, g3, _⟩ := Ds.pushE_zero he
          have hund2 := hund he
          rw [he] at pu
          obtain ⟨t1, ht1⟩ : ∃ t1, t1 = t.pushI 0 a1 a2 := ⟨_, rfl⟩
          rw [← ht1] at hund2
          simp only [← ht1] at pu
          have bk := fun W vs (h : Dqs ws W X t1 vs) => back_s h 0
          have wg1 := fun W vs (h : Dqs ws W X t1 vs) => weight_s h 0
          have u1 := fun W vs (h : Dqs ws W X t1 vs) => unlink_s h (wf_small g2)
          have u2 := fun W vs (h : Dqs ws W X t vs) => unlink_s h (wf_small g2)
          have bk2 : ∀ W vs, Dqs ws W X t1 vs → Calls Try.prog 25 #[ptr X, .int .i64 0] W fun e w' => e = .returned (.int .i64 a1) ∧ Dqs ws w' X t1 vs := fun W vs h => by
            have := bk W vs h
            rw [(hund2 h.wf).1] at this
            exact this
          have wg2 : ∀ W vs, Dqs ws W X t1 vs → Calls Try.prog 24 #[ptr X, .int .i64 0] W fun e w' => e = .returned (.int .i64 (Wt + a2)) ∧ Dqs ws w' X t1 vs := fun W vs h => by
            have := wg1 W vs h
            rw [(hund2 h.wf).2.1] at this
            exact this
          have u12 : ∀ W vs, Dqs ws W X t1 vs → Calls Try.prog 13 #[ptr X, .int .i64 a1] W fun e w' => e = .returned (.int .i64 0) ∧ Dqs ws w' X t vs := fun W vs h => by
            have := u1 W vs h
            rw [(hund2 h.wf).2.2.1, (hund2 h.wf).2.2.2.1] at this
            exact this
          have u22 : ∀ W vs, Dqs ws W X t1 vs → Hid (∀ W' , Dqs ws W' X t vs → Calls Try.prog 13 #[ptr X, .int .i64 a1] W' fun e w' => e = .returned (.int .i64 3) ∧ Dqs ws w' X t vs) := fun W vs h W' h' => by
            have := u2 W' vs h'
            rw [(hund2 h.wf).2.2.2.2.1, (hund2 h.wf).2.2.2.2.2] at this
            exact this
          have q1 : (a1 != a1) = false := by simp
          have q2 : ((Wt + a2) != (Wt + a2)) = false := by simp
          have T1 : Hid True := trivial
          have T2 : Hid True := trivial
          have T3 : Hid True := trivial
          clear hund hund2 bk wg1 u1 u2 ht1 he
          unfold ptr at r0 r1 wg pu bk2 wg2 u12 u22
          go_wp2_with (first | (go_at_call 22; clear T0; refine (r0 _ _ ht).mono ?_; rintro e w1 ⟨pa, ca, rfl, h1⟩) | (go_at_call 22; refine (r1 _ _ h1).mono ?_; rintro e w2 ⟨pb, cb, rfl, h2⟩) | (go_at_call 24; clear T1; refine (wg _ _ h2).mono ?_; rintro e w3 ⟨rfl, h3⟩) | (go_at_call 11; refine (pu _ _ h3).mono ?_; rintro e w4 ⟨rfl, h4⟩) | (go_at_call 25; refine (bk2 _ _ h4).mono ?_; rintro e w5 ⟨rfl, h5⟩) | (go_at_call 24; refine (wg2 _ _ h5).mono ?_; rintro e w6 ⟨rfl, h6⟩) | (go_at_call 13; clear T3; refine (u12 _ _ h6).mono ?_; rintro e w7 ⟨rfl, h7⟩) | (go_at_call 13; refine ((u22 _ _ h6).out _ h7).mono ?_; rintro e w8 ⟨rfl, h8⟩))
          have hfin := h8
          clear h1 h2 h3 h4 h5 h6 h7 h8 r0 r1 wg pu bk2 wg2 u12 u22 ht
          go_wp2_with fail
          go_loopw [13] (fun iv wi => ∃ (k : Nat) (t' : Ds), k ≤ N ∧ iv = .int .i64 (k : Int) ∧ t'.L 0 = A0.drop k ++ A0.take k ∧ t'.L 1 = B0 ∧ t'.n = 2 ∧ Dqs ws wi X t' [ids pb NB cb B0, ids pa N ca A0]) (fun iv _ => N - (intOf iv).toNat)
          case atStart => exact ⟨0, t, by omega, rfl, by rw [← HA.out]; simp, HB.out.symm, HTn.out, hfin⟩
          case round =>
            clear hfin
            obtain ⟨k, t', hkN, rfl, hD, hD1, htn', ht'⟩ := hrel
            have hw' := ht'.wf
            by_cases hlt : k < N
            · have hdk : decide ((k : Int) < (N : Int)) = true := by rw [decide_eq_true_eq]; omega
              obtain ⟨⟨x, v⟩, r, hr⟩ : ∃ pq r, A0.drop k = pq :: r := by
                cases hc : A0.drop k with
                | nil => have := congrArg List.length hc; simp at this; have := HN.out; omega
                | cons a b => exact ⟨a, b, rfl⟩
              rw [hr] at hD
              obtain ⟨m1, m2, m3, m4⟩ := hw'.turn (i := 0) hD
              rw [show ((0 : Nat) : Int) = 0 from rfl] at m1 m2 m3 m4
              have hx : 1 ≤ x ∧ x ≤ 65536 := by
                have := hw'.els 0 (x, v) (by rw [hD]; simp)
                exact ⟨this.1, this.2.1⟩
              have fr := fun W (h : Dqs ws W X t' [ids pb NB cb B0, ids pa N ca A0]) => front_s h 0
              have mv := fun W (h : Dqs ws W X t' [ids pb NB cb B0, ids pa N ca A0]) => move_s h 0 (wf_small hx)
              have e1 : ((t'.rowI 0).map (·.1)).headD 0 = x := by rw [show t'.rowI 0 = t'.L 0 from rfl, hD]; rfl
              rw [e1] at fr
              rw [m1] at mv
              have HT : Hid ((t'.moveI x 0).L 0 = A0.drop (k + 1) ++ A0.take (k + 1) ∧ (t'.moveI x 0).L 1 = B0 ∧ (t'.moveI x 0).n = 2) := by
                refine ⟨?_, (m3 1 (by omega)).trans hD1, m4.trans htn'⟩
                have hk1 : A0[k]? = some (x, v) := by
                  have := congrArg List.head? hr
                  simpa using this
                have e2 : A0.drop (k + 1) = r := by rw [← List.drop_drop, hr]; rfl
                have e3 : A0.take (k + 1) = A0.take k ++ [(x, v)] := by rw [List.take_add_one, hk1]; rfl
                rw [m2, e2, e3]; exact List.append_assoc r _ _
              obtain ⟨t2, ht2⟩ : ∃ t2, t2 = t'.moveI x 0 := ⟨_, rfl⟩
              simp only [← ht2] at mv
              rw [← ht2] at HT
              obtain ⟨A, hpA, hAl, hcA, hNc⟩ := ht'.nth (p := pa) (n := N) (c := ca) (D := A0) (by simp) (by omega)
              subst hpA
              have HC : Hid (∀ W s, Dqs ws W X s [ids pb NB cb B0, ids (some ⟨A, 0, none⟩) N ca A0] → W.cell? ⟨A, k, none⟩ = some (.int .i64 x) ∧ A < W.heap.size) := fun W s h => by
                obtain ⟨A', hA', h1, h2, _⟩ := h.nth (p := some ⟨A, 0, none⟩) (n := N) (c := ca) (D := A0) (by simp) (by omega)
                cases hA'
                exact ⟨(h2 k hlt).trans (by rw [idsC_at hr]), h1⟩
              obtain ⟨c1, _⟩ := HC.out _ _ ht'
              have hxx : (x != x) = false := by simp
              have H0 : Hid (Dqs ws wr X t' [ids pb NB cb B0, ids (some ⟨A, 0, none⟩) N ca A0]) := ht'
              clear e1 m1 m2 m3 m4 hr hD hD1 htn' hcA ht2 ht' hw'
              unfold ptr at fr mv
              go_wp2_with fail
              go_region_held3 (fun w' => w'.cell? ⟨A, k, none⟩ = some (.int .i64 x)) (first | exact b3 | exact b1 | exact c1 | go_keep) (first | (go_at_call 26; refine (fr _ (H0.out.drewN 1)).mono ?_; rintro e w1 ⟨rfl, h1⟩; obtain ⟨b1, l1⟩ := HC.out _ _ h1) | (go_at_call 15; refine (mv _ h1).mono ?_; rintro e w2 ⟨rfl, h2⟩; obtain ⟨b3, l3⟩ := HC.out _ _ h2))
              all_goals
                go_wp2_with fail
                go_roundw
                case rel => exact ⟨k + 1, t2, by omega, by go_num, HT.out.1, HT.out.2.1, HT.out.2.2, h2⟩
                case measure => simp [intOf]; omega
            · obtain rfl : k = N := by omega
              have hdk : decide ((k : Int) < (k : Int)) = false := by rw [decide_eq_false_iff_not]; omega
              have hD0 : t'.rowI 0 = A0 := by
                show t'.L 0 = A0
                rw [hD, HN.out, List.drop_length, List.take_length]; rfl
              have hD1' : t'.rowI 1 = B0 := hD1
              have r0 := fun W vs (h : Dqs ws W X t' vs) => row_s h 0 1000 (by omega) (by rw [hD0, ← HN.out]; show k ≤ 1000; omega)
              have r1 := fun W vs (h : Dqs ws W X t' vs) => row_s h 1 1000 (by omega) (by rw [hD1', ← HNB.out]; show NB ≤ 1000; omega)
              have wg := fun W vs (h : Dqs ws W X t' vs) => weight_s h 0
              simp only [hD0, ← HN.out, ← HWt.out] at r0 wg
              simp only [hD1', ← HNB.out] at r1
              have hww : (Wt == Wt) = true := by simp
              have T0 : Hid True := trivial
              have T1 : Hid True := trivial
              clear hD hD1 hD0 hD1' hw'
              unfold ptr at r0 r1 wg
              go_wp2_with (first | (go_at_call 22; clear T0; refine (r0 _ _ ht').mono ?_; rintro e w1 ⟨p1, c1, rfl, h1⟩) | (go_at_call 27; clear T1; refine (ints_s h1 (p := p1) (q := pa) (n := k) (c := c1) (d := ca) (D := A0) (by simp) (by simp) (by omega)).mono ?_; rintro e w2 ⟨rfl, h2⟩) | (go_at_call 22; refine (r1 _ _ h2).mono ?_; rintro e w3 ⟨p3, c3, rfl, h3⟩) | (go_at_call 27; refine (ints_s h3 (p := p3) (q := pb) (n := NB) (c := c3) (d := cb) (D := B0) (by simp) (by simp) (by omega)).mono ?_; rintro e w4 ⟨rfl, h4⟩) | (go_at_call 24; refine (wg _ _ h4).mono ?_; rintro e w5 ⟨rfl, h5⟩))
              go_ret
              exact ⟨rfl, grownTrans hgs h5.old⟩
        · have he' : (t.pushE 0 a1 a2 == 0) = false := by simpa using he
          rw [Ds.pushI_not he] at pu
          obtain ⟨E, hE⟩ : ∃ E, E = t.pushE 0 a1 a2 := ⟨_, rfl⟩
          simp only [← hE] at pu he'
          clear hund hE he
          unfold ptr at r0 r1 wg pu
          go_wp2_with (first | (go_at_call 22; clear T0; refine (r0 _ _ ht).mono ?_; rintro e w1 ⟨pa, ca, rfl, h1⟩) | (go_at_call 22; refine (r1 _ _ h1).mono ?_; rintro e w2 ⟨pb, cb, rfl, h2⟩) | (go_at_call 24; refine (wg _ _ h2).mono ?_; rintro e w3 ⟨rfl, h3⟩) | (go_at_call 11; refine (pu _ _ h3).mono ?_; rintro e w4 ⟨rfl, h4⟩))
          have hfin := h4
          clear h1 h2 h3 h4 r0 r1 wg pu ht
          go_wp2_with fail
          go_loopw [13] (fun iv wi => ∃ (k : Nat) (t' : Ds), k ≤ N ∧ iv = .int .i64 (k : Int) ∧ t'.L 0 = A0.drop k ++ A0.take k ∧ t'.L 1 = B0 ∧ t'.n = 2 ∧ Dqs ws wi X t' [ids pb NB cb B0, ids pa N ca A0]) (fun iv _ => N - (intOf iv).toNat)
          case atStart => exact ⟨0, t, by omega, rfl, by rw [← HA.out]; simp, HB.out.symm, HTn.out, hfin⟩
          case round =>
            clear hfin
            obtain ⟨k, t', hkN, rfl, hD, hD1, htn', ht'⟩ := hrel
            have hw' := ht'.wf
            by_cases hlt : k < N
            · have hdk : decide ((k : Int) < (N : Int)) = true := by rw [decide_eq_true_eq]; omega
              obtain ⟨⟨x, v⟩, r, hr⟩ : ∃ pq r, A0.drop k = pq :: r := by
                cases hc : A0.drop k with
                | nil => have := congrArg List.length hc; simp at this; have := HN.out; omega
                | cons a b => exact ⟨a, b, rfl⟩
              rw [hr] at hD
              obtain ⟨m1, m2, m3, m4⟩ := hw'.turn (i := 0) hD
              rw [show ((0 : Nat) : Int) = 0 from rfl] at m1 m2 m3 m4
              have hx : 1 ≤ x ∧ x ≤ 65536 := by
                have := hw'.els 0 (x, v) (by rw [hD]; simp)
                exact ⟨this.1, this.2.1⟩
              have fr := fun W (h : Dqs ws W X t' [ids pb NB cb B0, ids pa N ca A0]) => front_s h 0
              have mv := fun W (h : Dqs ws W X t' [ids pb NB cb B0, ids pa N ca A0]) => move_s h 0 (wf_small hx)
              have e1 : ((t'.rowI 0).map (·.1)).headD 0 = x := by rw [show t'.rowI 0 = t'.L 0 from rfl, hD]; rfl
              rw [e1] at fr
              rw [m1] at mv
              have HT : Hid ((t'.moveI x 0).L 0 = A0.drop (k + 1) ++ A0.take (k + 1) ∧ (t'.moveI x 0).L 1 = B0 ∧ (t'.moveI x 0).n = 2) := by
                refine ⟨?_, (m3 1 (by omega)).trans hD1, m4.trans htn'⟩
                have hk1 : A0[k]? = some (x, v) := by
                  have := congrArg List.head? hr
                  simpa using this
                have e2 : A0.drop (k + 1) = r := by rw [← List.drop_drop, hr]; rfl
                have e3 : A0.take (k + 1) = A0.take k ++ [(x, v)] := by rw [List.take_add_one, hk1]; rfl
                rw [m2, e2, e3]; exact List.append_assoc r _ _
              obtain ⟨t2, ht2⟩ : ∃ t2, t2 = t'.moveI x 0 := ⟨_, rfl⟩
              simp only [← ht2] at mv
              rw [← ht2] at HT
              obtain ⟨A, hpA, hAl, hcA, hNc⟩ := ht'.nth (p := pa) (n := N) (c := ca) (D := A0) (by simp) (by omega)
              subst hpA
              have HC : Hid (∀ W s, Dqs ws W X s [ids pb NB cb B0, ids (some ⟨A, 0, none⟩) N ca A0] → W.cell? ⟨A, k, none⟩ = some (.int .i64 x) ∧ A < W.heap.size) := fun W s h => by
                obtain ⟨A', hA', h1, h2, _⟩ := h.nth (p := some ⟨A, 0, none⟩) (n := N) (c := ca) (D := A0) (by simp) (by omega)
                cases hA'
                exact ⟨(h2 k hlt).trans (by rw [idsC_at hr]), h1⟩
              obtain ⟨c1, _⟩ := HC.out _ _ ht'
              have hxx : (x != x) = false := by simp
              have H0 : Hid (Dqs ws wr X t' [ids pb NB cb B0, ids (some ⟨A, 0, none⟩) N ca A0]) := ht'
              clear e1 m1 m2 m3 m4 hr hD hD1 htn' hcA ht2 ht' hw'
              unfold ptr at fr mv
              go_wp2_with fail
              go_region_held3 (fun w' => w'.cell? ⟨A, k, none⟩ = some (.int .i64 x)) (first | exact b3 | exact b1 | exact c1 | go_keep) (first | (go_at_call 26; refine (fr _ (H0.out.drewN 1)).mono ?_; rintro e w1 ⟨rfl, h1⟩; obtain ⟨b1, l1⟩ := HC.out _ _ h1) | (go_at_call 15; refine (mv _ h1).mono ?_; rintro e w2 ⟨rfl, h2⟩; obtain ⟨b3, l3⟩ := HC.out _ _ h2))
              all_goals
                go_wp2_with fail
                go_roundw
                case rel => exact ⟨k + 1, t2, by omega, by go_num, HT.out.1, HT.out.2.1, HT.out.2.2, h2⟩
                case measure => simp [intOf]; omega
            · obtain rfl : k = N := by omega
              have hdk : decide ((k : Int) < (k : Int)) = false := by rw [decide_eq_false_iff_not]; omega
              have hD0 : t'.rowI 0 = A0 := by
                show t'.L 0 = A0
                rw [hD, HN.out, List.drop_length, List.take_length]; rfl
              have hD1' : t'.rowI 1 = B0 := hD1
              have r0 := fun W vs (h : Dqs ws W X t' vs) => row_s h 0 1000 (by omega) (by rw [hD0, ← HN.out]; show k ≤ 1000; omega)
              have r1 := fun W vs (h : Dqs ws W X t' vs) => row_s h 1 1000 (by omega) (by rw [hD1', ← HNB.out]; show NB ≤ 1000; omega)
              have wg := fun W vs (h : Dqs ws W X t' vs) => weight_s h 0
              simp only [hD0, ← HN.out, ← HWt.out] at r0 wg
              simp only [hD1', ← HNB.out] at r1
              have hww : (Wt == Wt) = true := by simp
              have T0 : Hid True := trivial
              have T1 : Hid True := trivial
              clear hD hD1 hD0 hD1' hw'
              unfold ptr at r0 r1 wg
              go_wp2_with (first | (go_at_call 22; clear T0; refine (r0 _ _ ht').mono ?_; rintro e w1 ⟨p1, c1, rfl, h1⟩) | (go_at_call 27; clear T1; refine (ints_s h1 (p := p1) (q := pa) (n := k) (c := c1) (d := ca) (D := A0) (by simp) (by simp) (by omega)).mono ?_; rintro e w2 ⟨rfl, h2⟩) | (go_at_call 22; refine (r1 _ _ h2).mono ?_; rintro e w3 ⟨p3, c3, rfl, h3⟩) | (go_at_call 27; refine (ints_s h3 (p := p3) (q := pb) (n := NB) (c := c3) (d := cb) (D := B0) (by simp) (by simp) (by omega)).mono ?_; rintro e w4 ⟨rfl, h4⟩) | (go_at_call 24; refine (wg _ _ h4).mono ?_; rintro e w5 ⟨rfl, h5⟩))
              go_ret
              exact ⟨rfl, grownTrans hgs h5.old⟩
  · have d3 : decide (100 < (len0 : Int)) = true := by rw [decide_eq_true_eq]; omega
    have nw := fun w g => new_s 2 w w g
    unfold ptr at nw
    clear hl hk
    go_enter Try.func5, Try.ntmps5
    go_wp2_with (first | (go_at_call 8; refine (dSmall_any _).mono ?_; rintro e ws ⟨rfl, hgs⟩) | (go_at_call 9; refine (nw _ (Grown.refl _)).mono ?_; rintro e wx ⟨X, rfl, hx⟩))
    go_ret
    exact ⟨rfl, grownTrans hgs hx.old⟩

/-! ### THE ROW's STEP: WRITTEN OUT: LEAVE IT -/
set_option maxRecDepth 100000 in
theorem lifted (os : Os) (started : os.Started) (H : Type) (enc : TypeId × Value → H) :
    ReturnsInHanded {} Try.checked os 5 .any (Rows.dequeUndoSpec.pre6 enc Try.prog Try.f5 Rows.dequeUndoRow.domain false) (Rows.dequeUndoSpec.post enc Try.prog Try.f5 false true false false) := by
  refine returnsInHanded_of_change (C := Try.checked) own started (by kernel_rfl) Try.func5
    (ChangeSpec.witness6 (enc := enc) (C := Try.checked) false ⟨#[], #[.slice none 0 0, .int .i64 0, .int .i64 0], []⟩ 8 (by kernel_rfl) (by kernel_rfl) (by kernel_rfl) (by kernel_rfl)) ?_
  intro W base args ds gs before hval0 hW hcnd _
  have hval : ∀ (j : Nat) t v, Try.f5.params[j]? = some t → args[j]? = some v → Value.okWide Try.prog W .any base t v := hval0
  have hW' := hW
  obtain ⟨p, q, hA0, hV, rfl, hfz, hnd⟩ := hW
  have hA : DataW.TrodAll enc Try.prog W 0 (fun _ => true) true Try.f5.params.toList args.toList ds p := hA0
  rw [Try.params5] at hA hval
  obtain ⟨v0, vs0, d0, ds0, p0, q0, hargs, rfl, rfl, h0, r0⟩ := trodAll_cons hA
  obtain ⟨v1, vs1, d1, ds1, p1, q1, rfl, rfl, rfl, h1, r1⟩ := trodAll_cons r0
  obtain ⟨v2, vs2, d2, ds2, p2, q2, rfl, rfl, rfl, h2, r2⟩ := trodAll_cons r1
  obtain ⟨rfl, rfl, rfl⟩ := trodAll_nil r2
  obtain rfl : args = #[v0, v1, v2] := by cases args; simp_all
  obtain ⟨rfl, rfl⟩ := trodVars_none hV
  obtain ⟨a0, len0, cap0, rfl⟩ := okWide_slice Try.underlying36 (hval 0 36 v0 rfl rfl)
  have k0 := h0
  have lt0 : ∀ x ∈ p0, x.block < W.heap.size := by obtain ⟨m, hm⟩ := k0; exact DataW.trod_lt m _ _ _ hm
  obtain ⟨z0, w0⟩ : ∃ zs, IsRow .i64 W a0 len0 cap0 zs := by
    obtain ⟨fuel, hf⟩ := h0
    rcases open_ints Try.underlying36 Try.underlying3 (by kernel_rfl) hf with ⟨hcs, _⟩ | ⟨x, l, c, zs, hcs, _, hl, hm, hz, _, hcell, hwz⟩
    · simp [Value.cells] at hcs
      obtain ⟨rfl, rfl, rfl⟩ := hcs
      exact ⟨[], .inl ⟨rfl, rfl, rfl, rfl⟩⟩
    · simp [Value.cells] at hcs
      obtain ⟨rfl, rfl, rfl⟩ := hcs
      exact ⟨zs, .inr ⟨_, rfl, hl, hm, by simpa using hz, hcell, hwz⟩⟩
  obtain ⟨a1, rfl, rfl, rfl, w1⟩ := open_int Try.underlying3 (hval 1 3 v1 rfl rfl) h1
  obtain ⟨a2, rfl, rfl, rfl, w2⟩ := open_int Try.underlying3 (hval 2 3 v2 rfl rfl) h2
  clear hA0 hval0
  refine (walk a0 len0 cap0 z0 a1 a2 W w0 w1 w2).mono fun e W' ⟨he, bel⟩ => ?_
  subst he
  exact ⟨_, rfl, _, _, _, [], _, [], hW', trodAll_mk1 (shut_bool Try.underlying4 _), (trodAll_cons_mk (grown_trod laidOut (by kernel_rfl) (of_decide_eq_true (by kernel_rfl)) k0 bel lt0) (trodAll_cons_mk (shut_int Try.underlying3 w1) (trodAll_cons_mk (shut_int Try.underlying3 w2) trodAll_mk0))), rfl, bel.frame _, fun h => by cases h⟩

theorem over : Rows.dequeUndoRow.holds Try.pinned (OpenSpec.ofChange Rows.dequeUndoSpec) :=
  OpenClaim.holds_of_wide 5 Try.f5 rfl rfl rfl rfl rfl rfl rfl ⟨rfl, rfl, rfl, rfl, rfl⟩ rfl rfl rfl rfl rfl (by kernel_rfl) Try.func5 (by kernel_rfl)
    (of_decide_eq_true (by kernel_rfl)) (by unfold Func.isWrapper; first | (rw [if_pos (by decide +kernel)]; kernel_rfl) | (rw [if_neg (by decide +kernel)]; exact ⟨rfl, rfl⟩))
    (fun os started H enc _ => lifted os started H enc)

/-- ████ THE STATEMENT ████ -/
theorem proved : Rows.DequeUndoSaid := over
end Go.Proofs.Ytecnlciogcanmaa.dequeUndo

namespace Go.Proofs.Ytecnlciogcanmaa
/-- The given statement. -/
theorem dequeUndo_holds : Rows.DequeUndoSaid := dequeUndo.proved
#print axioms dequeUndo_holds
end Go.Proofs.Ytecnlciogcanmaa
