/-
  Proved: pantrylaw06.ArenaPlays returns true for every number and every row of steps: an arena does, call by call, what the document's own does (P6.1 to P6.3). No condition.
-/
import Derived.Test.YtkjnpgpgcikhgaaRows
import Derived.WalkKit
import Derived.ProofKit
import Derived.OpenShut
import Derived.Test.YtkjnpgpgcikhgaaArPlay
import Derived.BigQuiet
import Derived.Deep.CutBlock
import Derived.Deep.RegionHeld3
import Derived.ShutString
import Derived.ChangeOld
import Derived.Below
import Derived.Test.YtkjnpgpgcikhgaaGenArgs
namespace Go.Proofs.Ytkjnpgpgcikhgaa.arenaPlays
open Go.ChangeShapes Go.WideShapes Go.ChangeAt Go.RowKit
set_option linter.unusedVariables false

theorem own : ownKnob Try.prog.godebug = none := by kernel_rfl
theorem laidOut : laidOutB Try.prog = true := by kernel_rfl

/-! ### The walk: the law returns true, and writes nothing that was there -/
set_option maxRecDepth 20000 in set_option maxHeartbeats 16000000 in
theorem walk (a0 : Int) (a1 : Option Addr) (len1 cap1 : Nat) (z1 : Nat → Nat → Int) (w : World) (w0 : (Lit.int .i64 a0).wf = true) (w1 : IsGrid .i64 4 w a1 len1 cap1 z1) :
    Calls Try.prog 3 #[.int .i64 a0, .slice a1 len1 cap1] w fun e w' => e = .returned (.bool true) ∧ Grown w w' := by
  have hk1 := grid_open (by decide) w1
  clear w0 w1
  by_cases hl : len1 ≤ 200
  · have d1 : decide (200 < (len1 : Int)) = false := by rw [decide_eq_false_iff_not]; omega
    have nw := fun w => new_t a0 w
    have rnw := fun (w : World) (A : Nat) (F : Nat → Prop) (t : As) (h : Are w A F t) (W : World) (g : Grown W w) (hF : ∀ k, F k → W.heap.size ≤ k) => rnew_t a0 h g hF
    unfold ptr at nw rnw
    go_enter Try.func3, Try.ntmps3
    go_wp2_with (first | (go_at_call 8; refine (aSmall_any _).mono ?_; rintro e ws ⟨rfl, hgs⟩) | (go_at_call 9; refine (nw _).mono ?_; rintro e wa ⟨A, FA, rfl, ha, ga, hFA⟩) | (go_at_call 10; refine (rnw _ _ _ _ ha _ ga hFA).mono ?_; rintro e wx ⟨R, rfl, hx⟩))
    clear ha ga hFA nw rnw
    go_loopw [8] (fun iv wr => ∃ (k : Nat) (t : As), k ≤ len1 ∧ iv = .int .i64 (k : Int) ∧ t.n ≤ k + 1 ∧ Two ws (fun _ => False) ws wr A R t t) (fun iv _ => len1 - (intOf iv).toNat)
    case atStart => exact ⟨0, _, by omega, rfl, Nat.le_refl _, hx⟩
    case round =>
      clear hx
      obtain ⟨k, t, hk, rfl, htn, ht⟩ := hrel
      by_cases hlt : k < len1
      · have hkk := hk1
        rcases hkk with h0 | ⟨kb, off, rfl, hkb, hcell⟩
        · omega
        have HC : Hid (∀ W, Grown ws W → ∀ j, j < 4 → W.cell? ⟨kb, off + (k * 4 + j), none⟩ = some (.int .i64 (z1 k j))) := fun W g j hj => keys_cell (hcell k hlt j hj) hkb (grownTrans hgs g)
        have ck0 : wr.cell? ⟨kb, off + k * 4, none⟩ = some (.int .i64 (z1 k 0)) := HC.out _ ht.old 0 (by omega)
        have ck1 : wr.cell? ⟨kb, off + k * 4 + 1, none⟩ = some (.int .i64 (z1 k 1)) := HC.out _ ht.old 1 (by omega)
        have ck2 : wr.cell? ⟨kb, off + k * 4 + 2, none⟩ = some (.int .i64 (z1 k 2)) := HC.out _ ht.old 2 (by omega)
        have ck3 : wr.cell? ⟨kb, off + k * 4 + 3, none⟩ = some (.int .i64 (z1 k 3)) := HC.out _ ht.old 3 (by omega)
        obtain ⟨x0, hx0⟩ : ∃ x, x = z1 k 0 := ⟨_, rfl⟩
        obtain ⟨x1, hx1⟩ : ∃ x, x = z1 k 1 := ⟨_, rfl⟩
        obtain ⟨x2, hx2⟩ : ∃ x, x = z1 k 2 := ⟨_, rfl⟩
        obtain ⟨x3, hx3⟩ : ∃ x, x = z1 k 3 := ⟨_, rfl⟩
        rw [← hx0] at ck0
        rw [← hx1] at ck1
        rw [← hx2] at ck2
        rw [← hx3] at ck3
        have hd : decide ((k : Int) < (len1 : Int)) = true := by rw [decide_eq_true_eq]; omega
        clear hx0 hx1 hx2 hx3 hcell hk1 HC
        go_upto_block 2 with fail
        have hb := ht.begin (((Grown.refl wr).alloc #[.int .i64 x0, .int .i64 x1, .int .i64 x2, .int .i64 x3] 28).alloc #[.int .i64 x2, .int .i64 x3] 30)
        obtain ⟨v1, v2, _⟩ := blocks3 wr #[.int .i64 x0, .int .i64 x1, .int .i64 x2, .int .i64 x3] #[.int .i64 x2, .int .i64 x3] #[] 28 30 3
        have HB : Hid (∀ W t u, Two ws (fun k => wr.heap.size ≤ k ∧ k < ((wr.alloc (.cells #[.int .i64 x0, .int .i64 x1, .int .i64 x2, .int .i64 x3] 28)).alloc (.cells #[.int .i64 x2, .int .i64 x3] 30)).heap.size) ((wr.alloc (.cells #[.int .i64 x0, .int .i64 x1, .int .i64 x2, .int .i64 x3] 28)).alloc (.cells #[.int .i64 x2, .int .i64 x3] 30)) W A R t u → W.cell? ⟨wr.heap.size, 1, none⟩ = some (.int .i64 x1) ∧ W.cell? ⟨wr.heap.size + 1, 0, none⟩ = some (.int .i64 x2) ∧ W.cell? ⟨wr.heap.size + 1, 1, none⟩ = some (.int .i64 x3) ∧ wr.heap.size < W.heap.size) := fun W t u h => by
          have e1 := h.kept (k := wr.heap.size) ⟨Nat.le_refl _, by simp; omega⟩
          have e2 := h.kept (k := wr.heap.size + 1) ⟨by omega, by simp⟩
          rw [heap2_old] at e1
          rw [heap2_new] at e2
          exact ⟨by simp only [World.cell?, e1]; rfl, by simp only [World.cell?, e2]; rfl, by simp only [World.cell?, e2]; rfl, (Array.getElem?_eq_some_iff.1 e1).1⟩
        obtain ⟨Wb, hWb⟩ : ∃ Wb, ((wr.alloc (.cells #[.int .i64 x0, .int .i64 x1, .int .i64 x2, .int .i64 x3] 28)).alloc (.cells #[.int .i64 x2, .int .i64 x3] 30)) = Wb := ⟨_, rfl⟩
        have HS : Hid (wr.heap.size + 1 < ((wr.alloc (.cells #[.int .i64 x0, .int .i64 x1, .int .i64 x2, .int .i64 x3] 28)).alloc (.cells #[.int .i64 x2, .int .i64 x3] 30)).heap.size) := by show _ < _; simp
        rw [hWb] at hb HB HS ⊢
        obtain ⟨y, hy⟩ : ∃ y, y = bits .and .i64 x0 3 := ⟨_, rfl⟩
        simp only [← hy]
        clear hWb v1 v2 hy ck0 ck1 ck2 ck3 ht
        go_cut [11] from 42 to 143 (fun _ wc => ∃ t', t'.n ≤ k + 2 ∧ Two ws (fun k => wr.heap.size ≤ k ∧ k < Wb.heap.size) Wb wc A R t' t')
        case first =>
          obtain ⟨b1, b2, b3, l1⟩ := HB.out _ _ _ hb
          have hRb : wr.heap.size + 1 < Wb.heap.size := HS.out
          obtain ⟨E, hE⟩ : ∃ E, E = t.errI x1 := ⟨_, rfl⟩
          have qE : (E != E) = false := by simp
          by_cases hy0 : (y == 0) = true
          · have pt := put_t hb (x2, x3)
            have rpt := fun W (h : Two ws (fun k => wr.heap.size ≤ k ∧ k < Wb.heap.size) Wb W A R (t.putI (x2, x3)) t) => rput_t h (x2, x3)
            have HN : Hid ((t.putI (x2, x3)).n ≤ k + 2) := Nat.le_trans (As.putI_n _ _) (by omega)
            obtain ⟨t1, ht1⟩ : ∃ t1, t1 = t.putI (x2, x3) := ⟨_, rfl⟩
            obtain ⟨g, hg⟩ : ∃ g, g = t.giveI := ⟨_, rfl⟩
            obtain ⟨pe, hpe⟩ : ∃ pe, pe = t.putE := ⟨_, rfl⟩
            simp only [← ht1, ← hg, ← hpe] at pt rpt HN
            have q1 : (g != g) = false := by simp
            have q2 : (pe != pe) = false := by simp
            unfold ptr nodeV at pt rpt
            clear ht1 hg hpe hb
            -- <put
            go_wp2_with (first | (go_at_call 11; refine pt.mono ?_; rintro e w1 ⟨rfl, h1⟩; obtain ⟨b4, b5, b6, l4⟩ := HB.out _ _ _ h1) | (go_at_call 12; refine (rpt _ h1).mono ?_; rintro e w2 ⟨rfl, h2⟩))
            go_meet
            exact ⟨t1, HN.out, h2⟩
            -- put>
          · have hy0' : (y == 0) = false := by simpa using hy0
            by_cases hy1 : (y == 1) = true
            · have pt := drop_t hb.drew x1
              have rpt := fun W (h : Two ws (fun k => wr.heap.size ≤ k ∧ k < Wb.heap.size) Wb W A R (t.dropI x1) t) => rdrop_t h x1
              have HN : Hid ((t.dropI x1).n ≤ k + 2) := by show _ ≤ _; rw [As.dropI_n]; omega
              obtain ⟨t1, ht1⟩ : ∃ t1, t1 = t.dropI x1 := ⟨_, rfl⟩
              simp only [← ht1, ← hE] at pt rpt HN
              unfold ptr at pt rpt
              clear ht1 hE hb
              -- <drop
              go_wp2_with fail
              go_region_held3 (fun w' => w'.cell? ⟨wr.heap.size, 1, none⟩ = some (.int .i64 x1) ∧ w'.cell? ⟨wr.heap.size + 1, 0, none⟩ = some (.int .i64 x2) ∧ w'.cell? ⟨wr.heap.size + 1, 1, none⟩ = some (.int .i64 x3)) (first | exact ⟨b7, b8, b9⟩ | exact ⟨b4, b5, b6⟩ | exact ⟨b1, b2, b3⟩ | go_keep) (first | (go_at_call 13; refine pt.mono ?_; rintro e w1 ⟨rfl, h1⟩; obtain ⟨b4, b5, b6, l4⟩ := HB.out _ _ _ h1) | (go_at_call 14; refine (rpt _ h1).mono ?_; rintro e w2 ⟨rfl, h2⟩; obtain ⟨b7, b8, b9, l7⟩ := HB.out _ _ _ h2))
              all_goals
                go_wp2_with fail
                go_meet
                exact ⟨t1, HN.out, h2⟩
              -- drop>
            · have hy1' : (y == 1) = false := by simpa using hy1
              by_cases hy2 : (y == 2) = true
              · have pt := set_t hb.drew x1 (x2, x3)
                have rpt := fun W (h : Two ws (fun k => wr.heap.size ≤ k ∧ k < Wb.heap.size) Wb W A R (t.setI x1 (x2, x3)) t) => rset_t h x1 (x2, x3)
                have HN : Hid ((t.setI x1 (x2, x3)).n ≤ k + 2) := by show _ ≤ _; rw [As.setI_n]; omega
                obtain ⟨t1, ht1⟩ : ∃ t1, t1 = t.setI x1 (x2, x3) := ⟨_, rfl⟩
                simp only [← ht1, ← hE] at pt rpt HN
                unfold ptr nodeV at pt rpt
                clear ht1 hE hb
                -- <set
                go_wp2_with fail
                go_region_held3 (fun w' => w'.cell? ⟨wr.heap.size, 1, none⟩ = some (.int .i64 x1) ∧ w'.cell? ⟨wr.heap.size + 1, 0, none⟩ = some (.int .i64 x2) ∧ w'.cell? ⟨wr.heap.size + 1, 1, none⟩ = some (.int .i64 x3)) (first | exact ⟨b7, b8, b9⟩ | exact ⟨b4, b5, b6⟩ | exact ⟨b1, b2, b3⟩ | go_keep) (first | (go_at_call 15; refine pt.mono ?_; rintro e w1 ⟨rfl, h1⟩; obtain ⟨b4, b5, b6, l4⟩ := HB.out _ _ _ h1) | (go_at_call 16; refine (rpt _ h1).mono ?_; rintro e w2 ⟨rfl, h2⟩; obtain ⟨b7, b8, b9, l7⟩ := HB.out _ _ _ h2))
                all_goals
                  go_wp2_with fail
                  go_meet
                  exact ⟨t1, HN.out, h2⟩
                -- set>
              · have hy2' : (y == 2) = false := by simpa using hy2
                clear hE
                -- <none
                go_wp2_with fail
                go_meet
                exact ⟨t, by omega, hb⟩
                -- none>
        case rest =>
          obtain ⟨t', htn', hc⟩ := hcut
          obtain ⟨b1, b2, b3, l1⟩ := HB.out _ _ _ hc
          have hRb : wr.heap.size + 1 < Wb.heap.size := HS.out
          have gt := get_t hc x1
          have rgt := fun W (h : Two ws (fun k => wr.heap.size ≤ k ∧ k < Wb.heap.size) Wb W A R t' t') => rget_t h x1
          have ln := fun W (h : Two ws (fun k => wr.heap.size ≤ k ∧ k < Wb.heap.size) Wb W A R t' t') => len_t h
          have rln := fun W (h : Two ws (fun k => wr.heap.size ≤ k ∧ k < Wb.heap.size) Wb W A R t' t') => rlen_t h
          have mo := fun W (h : Two ws (fun k => wr.heap.size ≤ k ∧ k < Wb.heap.size) Wb W A R t' t') => most_t h
          have HM : Hid (∀ W, Two ws (fun k => wr.heap.size ≤ k ∧ k < Wb.heap.size) Wb W A R t' t' → W.cell? ⟨R, 0, none⟩ = some (.int .i64 (t'.m : Int)) ∧ R < W.heap.size) := fun W h => ⟨h.ref.2.2.1, h.ref.2.1⟩
          obtain ⟨nv, hnv⟩ : ∃ nv, nv = t'.nodeI x1 := ⟨_, rfl⟩
          obtain ⟨E, hE⟩ : ∃ E, E = t'.errI x1 := ⟨_, rfl⟩
          obtain ⟨L, hL⟩ : ∃ L : Int, L = (t'.len : Int) := ⟨_, rfl⟩
          obtain ⟨M, hM⟩ : ∃ M : Int, M = (t'.m : Int) := ⟨_, rfl⟩
          simp only [← hnv, ← hE] at gt rgt
          simp only [← hL] at ln rln
          simp only [← hM] at mo HM
          have q1 : (E != E) = false := by simp
          have q2 : (L != L) = false := by simp
          have q3 : (M != M) = false := by simp
          unfold ptr nodeV at gt rgt
          unfold ptr at ln rln mo
          clear hnv hE hL hM hc
          -- <rest
          go_wp2_with (first | (go_at_call 17; refine gt.mono ?_; rintro e w1 ⟨rfl, h1, _⟩; obtain ⟨b4, b5, b6, l4⟩ := HB.out _ _ _ h1; have h1' := h1.grown ((Grown.refl _).alloc #[.int .i64 nv.1, .int .i64 nv.2] 30)) | (go_at_call 18; refine (rgt _ h1').mono ?_; rintro e w2 ⟨rfl, h2, g2⟩))
          have nb := (grown_block g2 (k := w1.heap.size) (by simp)).trans (Deep.blk_alloc_new w1 (.cells #[.int .i64 nv.1, .int .i64 nv.2] 30))
          have n1 : w2.cell? ⟨w1.heap.size, 0, none⟩ = some (.int .i64 nv.1) := by simp only [World.cell?, nb]; rfl
          have n2 : w2.cell? ⟨w1.heap.size, 1, none⟩ = some (.int .i64 nv.2) := by simp only [World.cell?, nb]; rfl
          have n3 : w1.heap.size < w2.heap.size := (Array.getElem?_eq_some_iff.1 nb).1
          have h3 := h2.grown ((Grown.refl _).alloc #[.int .i64 nv.1, .int .i64 nv.2] 30)
          obtain ⟨m1, m2⟩ := HM.out _ h2
          clear nb g2 gt rgt h1 h1'
          go_quiet (first | (go_at_call 19; exact Calls.quiet_of (ln _ (h3.drewN _))) | (go_at_call 20; exact Calls.quiet_of (rln _ (h3.drewN _))) | (go_at_call 21; exact Calls.quiet_of ((mo _ (h3.drewN _)).mono fun _ _ h => ⟨h.1, 0, h.2⟩)))
          go_wp2_with fail
          go_roundw
          case rel => exact ⟨k + 1, t', by omega, by go_num, by omega, (h3.drewN _).bare⟩
          case measure => simp [intOf]; omega
          -- rest>
      · obtain rfl : k = len1 := by omega
        have hd : decide ((k : Int) < (k : Int)) = false := by rw [decide_eq_false_iff_not]; omega
        have al := all_t ht 1000 (by omega)
        have hhl := As.held_le t
        unfold ptr at al
        clear hk1
        -- <last
        go_wp2_with (first | (go_at_call 22; refine al.mono ?_; rintro e wq ⟨p, c, q, d, kk, rfl, hkk0, hvi, hvn, hq, _⟩; have HKK : Hid (kk = min t.held.length (Int.toNat 1000)) := hkk0; clear hkk0))
        have hkk := HKK.out
        obtain ⟨hw, hRl, _, Bb, Bl, cb, cl, lb, ll, nb, nl, r1, r2, hcell⟩ := hq.ref
        have hkk' : kk = t.held.length := by omega
        have HK : Hid (kk = t.held.length) := hkk'
        have hcap : t.n ≤ 201 := by omega
        obtain ⟨N, HN⟩ : ∃ N, Hid (N = t.n) := ⟨_, rfl⟩
        rw [← HN.out] at r1 r2 nb nl hcap
        have hN1 : 1 ≤ N := by rw [HN.out]; exact hw.pos
        have HC : Hid (∀ j, j < t.n → wq.cell? ⟨Bb, j, none⟩ = some (.bool (t.s j).isSome) ∧ wq.cell? ⟨Bl, j * 2, none⟩ = some (.int .i64 ((t.s j).getD (0, 0)).1) ∧ wq.cell? ⟨Bl, j * 2 + 1, none⟩ = some (.int .i64 ((t.s j).getD (0, 0)).2)) := hcell
        have hkb : kk ≤ 201 := by omega
        clear hcell hkk hkk' al hhl ht HKK
        go_loopw [21, 22] (fun kv iv wi => ∃ i j dd : Nat, 1 ≤ i ∧ i ≤ N ∧ iv = .int .i64 (i : Int) ∧ kv = .int .i64 (j : Int) ∧ j = (t.upto i).length ∧ wi = wq.drewN dd) (fun _ iv _ => N - (intOf iv).toNat)
        case atStart => exact ⟨1, 0, 0, by omega, hN1, rfl, rfl, by rw [show (1 : Nat) = 0 + 1 from rfl, As.upto_no hw.zero]; rfl, rfl⟩
        case round =>
          obtain ⟨i, j, dd, hi1, hiN, rfl, rfl, hj, rfl⟩ := hrel
          have HJ : Hid (j = (t.upto i).length) := hj
          clear hj
          by_cases hlt : i < N
          · have q0 : decide ((i : Int) < (N : Int)) = true := by rw [decide_eq_true_eq]; omega
            obtain ⟨e1, e2, e3⟩ := HC.out i (by rw [← HN.out]; exact hlt)
            cases hs : t.s i with
            | none =>
              rw [hs] at e1
              have e1' : wq.cell? ⟨Bb, i, none⟩ = some (.bool false) := e1
              have HU : Hid (j = (t.upto (i + 1)).length) := by show _ = _; rw [As.upto_no hs]; exact HJ.out
              clear e1 e2 e3 hs hvi hvn
              go_wp2_with fail
              go_roundw
              case rel => exact ⟨i + 1, j, dd, by omega, by omega, by go_num, rfl, HU.out, rfl⟩
              case measure => simp [intOf]; omega
            | some v =>
              rw [hs] at e1 e2 e3
              have e1' : wq.cell? ⟨Bb, i, none⟩ = some (.bool true) := e1
              have e2' : wq.cell? ⟨Bl, i * 2, none⟩ = some (.int .i64 v.1) := e2
              have e3' : wq.cell? ⟨Bl, i * 2 + 1, none⟩ = some (.int .i64 v.2) := e3
              have hat := As.held_at (by rw [← HN.out]; exact hlt) hs
              rw [← HJ.out] at hat
              have hjl : j < kk := by rw [HK.out]; exact (List.getElem?_eq_some_iff.1 hat).1
              have hg : t.held.getD j 0 = i := by simp [List.getD, hat]
              obtain ⟨Bi, rfl, li, ci, _, ni⟩ := hvi.opens (by omega)
              obtain ⟨Bn, rfl, ln, cn, _, nn⟩ := hvn.opens (by omega)
              have f1 : wq.cell? ⟨Bi, j, none⟩ = some (.int .i64 (i : Int)) := (ci j (by omega)).trans (by unfold idsC; rw [hg])
              have f2 : wq.cell? ⟨Bn, j * 2, none⟩ = some (.int .i64 v.1) := (cn (j * 2) (by omega)).trans (by unfold nodesC; rw [show j * 2 / 2 = j by omega, show j * 2 % 2 = 0 by omega, hg, hs]; rfl)
              have f3 : wq.cell? ⟨Bn, j * 2 + 1, none⟩ = some (.int .i64 v.2) := (cn (j * 2 + 1) (by omega)).trans (by unfold nodesC; rw [show (j * 2 + 1) / 2 = j by omega, show (j * 2 + 1) % 2 = 1 by omega, hg, hs]; rfl)
              have HU : Hid (j + 1 = (t.upto (i + 1)).length) := by show _ = _; rw [As.upto_yes hs, List.length_append, ← HJ.out]; rfl
              have q1 : decide ((kk : Int) ≤ (j : Int)) = false := by rw [decide_eq_false_iff_not]; omega
              have q2 : ((i : Int) != (i : Int)) = false := by simp
              clear e1 e2 e3 hs hat hg ci cn
              go_wp2_with fail
              go_quiet (fail)
              go_wp2_with fail
              go_roundw
              case rel => exact ⟨i + 1, j + 1, _, by omega, by omega, by go_num, by go_num, HU.out, rfl⟩
              case measure => simp [intOf]; omega
          · have q0 : decide ((i : Int) < (N : Int)) = false := by rw [decide_eq_false_iff_not]; omega
            have hjk : j = kk := by rw [HK.out, HJ.out, show i = t.n by rw [← HN.out]; omega]; rfl
            have al := all_t (hq.drewN dd) 1 (by omega)
            unfold ptr at al
            obtain rfl := hjk
            clear HC
            by_cases hj0 : j = 0
            · have HZ : Hid (∀ k2, k2 = min t.held.length (Int.toNat 1) → k2 = 0) := fun k2 h => by have := HK.out; omega
              have al' := al.mono (R' := fun e w' => ∃ p c q d, e = .returned (.tuple #[.slice p 0 c, .slice q 0 d]) ∧ Grown ws w') (by
                rintro e w' ⟨p, c, q, d, k2, rfl, h2, _, _, h3, _⟩
                obtain rfl := HZ.out k2 h2
                exact ⟨p, c, q, d, rfl, h3.old⟩)
              subst hj0
              clear al
              go_wp2_with (first | (go_at_call 22; refine al'.mono ?_; rintro e wz ⟨p2, c2, q2, d2, rfl, gz⟩))
              go_ret
              exact ⟨rfl, grownTrans hgs gz⟩
            · have HZ : Hid (∀ k2, k2 = min t.held.length (Int.toNat 1) → k2 = 1) := fun k2 h => by have := HK.out; omega
              have al' := al.mono (R' := fun e w' => ∃ p c q d, e = .returned (.tuple #[.slice p 1 c, .slice q 1 d]) ∧ Grown ws w') (by
                rintro e w' ⟨p, c, q, d, k2, rfl, h2, _, _, h3, _⟩
                obtain rfl := HZ.out k2 h2
                exact ⟨p, c, q, d, rfl, h3.old⟩)
              have q1 : ((j : Int) == (j : Int)) = true := by simp
              have hj1 : (1 : Int) ≤ (j : Int) := by omega
              clear al
              go_wp2_with (first | (go_at_call 22; refine al'.mono ?_; rintro e wz ⟨p2, c2, q2, d2, rfl, gz⟩))
              all_goals go_ret
              all_goals first | exact ⟨rfl, grownTrans hgs gz⟩ | exact ⟨ret_b (by rw [beq_iff_eq]; omega), grownTrans hgs gz⟩
        -- last>
  · have h : 200 < (len1 : Int) := by omega
    have nw := fun w => new_t a0 w
    have rnw := fun (w : World) (A : Nat) (F : Nat → Prop) (t : As) (h : Are w A F t) (W : World) (g : Grown W w) (hF : ∀ k, F k → W.heap.size ≤ k) => rnew_t a0 h g hF
    unfold ptr at nw rnw
    clear hl hk1
    -- <over
    go_enter Try.func3, Try.ntmps3
    go_wp2_with (first | (go_at_call 8; refine (aSmall_any _).mono ?_; rintro e ws ⟨rfl, hgs⟩) | (go_at_call 9; refine (nw _).mono ?_; rintro e wa ⟨A, FA, rfl, ha, ga, hFA⟩) | (go_at_call 10; refine (rnw _ _ _ _ ha _ ga hFA).mono ?_; rintro e wx ⟨R, rfl, hx⟩))
    go_ret
    exact ⟨rfl, grownTrans hgs hx.old⟩
    -- over>

/-! ### The row's step -/
set_option maxRecDepth 100000 in
theorem lifted (os : Os) (started : os.Started) (H : Type) (enc : TypeId × Value → H) :
    ReturnsInHanded {} Try.checked os 3 .any (Rows.arenaPlaysSpec.pre6 enc Try.prog Try.f3 Rows.arenaPlaysRow.domain false) (Rows.arenaPlaysSpec.post enc Try.prog Try.f3 false true false false) := by
  refine returnsInHanded_of_change (C := Try.checked) own started (by kernel_rfl) Try.func3
    (ChangeSpec.witness6 (enc := enc) (C := Try.checked) false ⟨#[], #[.int .i64 0, .slice none 0 0], []⟩ 8 (by kernel_rfl) (by kernel_rfl) (by kernel_rfl) (by kernel_rfl)) ?_
  intro W base args ds gs before hval0 hW hcnd _
  have hval : ∀ (j : Nat) t v, Try.f3.params[j]? = some t → args[j]? = some v → Value.okWide Try.prog W .any base t v := hval0
  have hW' := hW
  obtain ⟨p, q, hA0, hV, rfl, hfz, hnd⟩ := hW
  have hA : DataW.TrodAll enc Try.prog W 0 (fun _ => true) true Try.f3.params.toList args.toList ds p := hA0
  rw [Try.params3] at hA hval
  obtain ⟨v0, vs0, d0, ds0, p0, q0, hargs, rfl, rfl, h0, r0⟩ := trodAll_cons hA
  obtain ⟨v1, vs1, d1, ds1, p1, q1, rfl, rfl, rfl, h1, r1⟩ := trodAll_cons r0
  obtain ⟨rfl, rfl, rfl⟩ := trodAll_nil r1
  obtain rfl : args = #[v0, v1] := by cases args; simp_all
  obtain ⟨rfl, rfl⟩ := trodVars_none hV
  obtain ⟨a0, rfl, rfl, rfl, w0⟩ := open_int Try.underlying3 (hval 0 3 v0 rfl rfl) h0
  obtain ⟨a1, len1, cap1, rfl⟩ := okWide_slice Try.underlying22 (hval 1 22 v1 rfl rfl)
  have k1 := h1
  have lt1 : ∀ x ∈ p1, x.block < W.heap.size := by obtain ⟨m, hm⟩ := k1; exact DataW.trod_lt m _ _ _ hm
  obtain ⟨z1, w1⟩ := open_grid Try.underlying22 Try.underlying28 Try.underlying3 (by kernel_rfl) (by kernel_rfl) h1
  clear hA0 hval0
  refine (walk a0 a1 len1 cap1 z1 W w0 w1).mono fun e W' ⟨he, bel⟩ => ?_
  subst he
  exact ⟨_, rfl, _, _, _, [], _, [], hW', trodAll_mk1 (shut_bool Try.underlying4 _), (trodAll_cons_mk (shut_int Try.underlying3 w0) (trodAll_cons_mk (grown_trod laidOut (by kernel_rfl) (of_decide_eq_true (by kernel_rfl)) k1 bel lt1) trodAll_mk0)), rfl, bel.frame _, fun h => by cases h⟩

theorem over : Rows.arenaPlaysRow.holds Try.pinned (OpenSpec.ofChange Rows.arenaPlaysSpec) :=
  OpenClaim.holds_of_wide 3 Try.f3 rfl rfl rfl rfl rfl rfl rfl ⟨rfl, rfl, rfl, rfl, rfl⟩ rfl rfl rfl rfl rfl (by kernel_rfl) Try.func3 (by kernel_rfl)
    (of_decide_eq_true (by kernel_rfl)) (by unfold Func.isWrapper; first | (rw [if_pos (by decide +kernel)]; kernel_rfl) | (rw [if_neg (by decide +kernel)]; exact ⟨rfl, rfl⟩))
    (fun os started H enc _ => lifted os started H enc)

/-- The statement. -/
theorem proved : Rows.ArenaPlaysSaid := over
end Go.Proofs.Ytkjnpgpgcikhgaa.arenaPlays

namespace Go.Proofs.Ytkjnpgpgcikhgaa
/-- The given statement. -/
theorem arenaPlays_holds : Rows.ArenaPlaysSaid := arenaPlays.proved
#print axioms arenaPlays_holds
end Go.Proofs.Ytkjnpgpgcikhgaa
