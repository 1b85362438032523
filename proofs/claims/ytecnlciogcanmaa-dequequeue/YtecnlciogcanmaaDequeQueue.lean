/-
  Proved: pantrylaw07.DequeQueue returns true for every slice of numbers: who pushes at the end of a row, and takes the first, has a queue (P7.1, P7.3). No condition.
-/
import Derived.Test.YtecnlciogcanmaaRows
import Derived.WalkKit
import Derived.ProofKit
import Derived.OpenShut
import Derived.Test.YtecnlciogcanmaaDqFacts
import Derived.Deep.CutRange
import Derived.ShutString
import Derived.ChangeOld
import Derived.Below
namespace Go.Proofs.Ytecnlciogcanmaa.dequeQueue
open Go.ChangeShapes Go.WideShapes Go.ChangeAt Go.RowKit
open Go.ChangeMaps (open_string shut_string)
set_option linter.unusedVariables false

theorem own : ownKnob Try.prog.godebug = none := by kernel_rfl
theorem laidOut : laidOutB Try.prog = true := by kernel_rfl

/-- WHAT THE WALK IS TOLD OF A SLICE OF INTEGERS THAT CAME IN: it is nil; or it leads to a row of 'cap' cells, the numbers 'zs' (the first 'len' are its elements, the rest its spare room), each fitting its kind. -/
def IsRow (k : IntKind) (w : World) (a : Option Addr) (len cap : Nat) (zs : List Int) : Prop :=
  (a = none ∧ len = 0 ∧ cap = 0 ∧ zs = []) ∨
  ∃ x, a = some x ∧ len ≤ cap ∧ cap ≤ maxLen ∧ zs.length = cap ∧ (∀ i, i < zs.length → w.cell? (x.add i) = some (.int k (zs.getD i 0))) ∧ ∀ n ∈ zs, (Lit.int k n).wf = true

/-! ### STEP 1: THE WALK: the Go text returns true, AND WRITES NOTHING THAT WAS THERE: 'Below w.heap.size w w'' (Derived/Below.lean: '.refl', '.alloc', '.drew', '.setCell' at a new block, '.trans'). Open each 'IsRow' by 'rcases' AHEAD of 'go_enter'; part every test ahead of the walk. -/
set_option maxRecDepth 100000 in set_option maxHeartbeats 8000000 in
theorem walk (a0 : Option Addr) (len0 cap0 : Nat) (z0 : List Int) (w : World) (w0 : IsRow .i64 w a0 len0 cap0 z0) :
    Calls Try.prog 6 #[.slice a0 len0 cap0] w fun e w' => e = .returned (.bool true) ∧ Grown w w' := by
  have hk := keys_open w0
  clear w0
  by_cases hl : len0 ≤ 100
  · have d3 : decide (100 < (len0 : Int)) = false := by rw [decide_eq_false_iff_not]; omega
    have nw := fun w g => new_i 1 w w g
    unfold ptr at nw
    go_enter Try.func6, Try.ntmps6
    go_wp2_with (first | (go_at_call 8; refine (dSmall_any _).mono ?_; rintro e ws ⟨rfl, hgs⟩) | (go_at_call 9; refine (nw _ (Grown.refl _)).mono ?_; rintro e wx ⟨X, rfl, hx⟩))
    go_loopw [5, 6] (fun gv iv wr => ∃ (j : Nat) (t : Ds) (p : Option Addr) (c : Nat), j ≤ len0 ∧ (t.L 0).length ≤ j ∧ gv = .slice p (t.L 0).length c ∧ iv = .int .i64 (j : Int) ∧ t.n = 1 ∧ Dqi ws wr X t p (t.L 0).length c (idsC (t.L 0))) (fun _ iv _ => len0 - (intOf iv).toNat)
    case atStart => exact ⟨0, Ds.zero 1, none, 0, by omega, by simp [Ds.zero], rfl, rfl, rfl, hx.congr (g := idsC []) (fun j hj => by omega)⟩
    case round =>
      clear hx nw
      obtain ⟨j, t, p, c, hj, hL, rfl, rfl, htn, ht⟩ := hrel
      by_cases hlt : j < len0
      · have hkk := hk
        rcases hkk with h0 | ⟨kb, off, rfl, hkb, hcell⟩
        · omega
        have ck := keys_cell (hcell j hlt) hkb (grownTrans hgs ht.old)
        have CK : Hid (∀ W, Grown ws W → W.cell? ⟨kb, off + j, none⟩ = some (.int .i64 (z0.getD j 0))) := fun W g => keys_cell (hcell j hlt) hkb (grownTrans hgs g)
        obtain ⟨key, hkey⟩ : ∃ key, key = z0.getD j 0 := ⟨_, rfl⟩
        simp only [← hkey] at ck CK
        have hd : decide ((j : Int) < (len0 : Int)) = true := by rw [decide_eq_true_eq]; omega
        have pu := push_i ht 0 key 1
        obtain ⟨L, hLe⟩ : ∃ L, L = (t.L 0).length := ⟨_, rfl⟩
        have HL : Hid (L = (t.L 0).length) := hLe
        by_cases he : t.pushE 0 key 1 = 0
        · rw [he, Ds.pushI_zero he] at pu
          have HT : Hid ((t.push (Int.toNat 0) key 1).L 0 = t.L 0 ++ [(key, 1)] ∧ (t.push (Int.toNat 0) key 1).n = 1) := ⟨by simp [Ds.push], htn⟩
          obtain ⟨t', ht'⟩ : ∃ t', t' = t.push (Int.toNat 0) key 1 := ⟨_, rfl⟩
          have HT' : Hid (t'.L 0 = t.L 0 ++ [(key, 1)] ∧ t'.n = 1) := by rw [ht']; exact HT
          rw [← ht', ← hLe] at pu
          rw [← hLe] at hL ⊢
          obtain ⟨f0, hf0⟩ : ∃ f0, f0 = idsC (t.L 0) := ⟨_, rfl⟩
          have HF : Hid (f0 = idsC (t.L 0)) := hf0
          rw [← hf0] at pu
          clear hcell hkey ht' hLe ht htn hk HT he hf0
          unfold ptr at pu
          go_wp2_with (first | (go_at_call 11; refine pu.mono ?_; rintro e w1 ⟨rfl, h1⟩; have ck1 := CK.out _ h1.old) | (at_builtin; refine wpList_append_vec rfl (.tmp 35) (.tmp 40) 36 rfl Try.underlying36 infoInt rfl rfl (h1.vec.grown ((Grown.refl _).alloc _ _)) rfl (by decide) (new_ptr _ _ _) (fun _ _ => rfl) (by omega) (by omega) ?_; intro p' c' w2 hv2 ho2 hp2; have h2 := h1.append hv2 ho2 hp2; clear hv2 ho2 hp2))
          go_roundw
          case rel =>
            have hl' : (t'.L 0).length = L + 1 := by rw [HT'.out.1, List.length_append, HL.out]; rfl
            refine ⟨j + 1, t', p', c', by omega, by omega, by rw [hl'], by go_num, HT'.out.2, ?_⟩
            rw [hl']
            refine h2.congr fun q hq => ?_
            rw [HT'.out.1, ← idsC_append _ _ _ (by rw [← HL.out]; omega), HF.out, HL.out, Nat.mul_one]
          case measure => simp [intOf]; omega
        · rw [Ds.pushI_not he] at pu
          have he' : (t.pushE 0 key 1 == 0) = false := by simpa using he
          obtain ⟨E, hE⟩ : ∃ E, E = t.pushE 0 key 1 := ⟨_, rfl⟩
          rw [← hE] at pu he'
          clear hcell hkey hLe ht hk he hE
          unfold ptr at pu
          go_wp2_with (first | (go_at_call 11; refine pu.mono ?_; rintro e w1 ⟨rfl, h1⟩))
          go_roundw
          case rel => exact ⟨j + 1, t, p, c, by omega, by omega, rfl, by go_num, htn, h1⟩
          case measure => simp [intOf]; omega
      · have hd : decide ((j : Int) < (len0 : Int)) = false := by rw [decide_eq_false_iff_not]; omega
        obtain ⟨D, hD⟩ : ∃ D, D = t.L 0 := ⟨_, rfl⟩
        rw [← hD] at hL ht ⊢
        obtain ⟨N, hN⟩ : ∃ N, N = D.length := ⟨_, rfl⟩
        have HN : Hid (N = D.length) := hN
        rw [← hN] at hL ht ⊢
        clear hN
        go_wp2_with fail
        go_loopw [7] (fun iv wi => ∃ (k : Nat) (t : Ds), k ≤ N ∧ iv = .int .i64 (k : Int) ∧ t.L 0 = D.drop k ∧ t.n = 1 ∧ Dqi ws wi X t p N c (idsC D)) (fun iv _ => N - (intOf iv).toNat)
        case atStart => exact ⟨0, t, by omega, rfl, by rw [← hD]; rfl, htn, ht⟩
        case round =>
          clear ht htn hD t hk
          obtain ⟨k, t, hkN, rfl, hD, htn, ht⟩ := hrel
          have hw := ht.wf
          have hrow : t.rowI 0 = t.L 0 := rfl
          by_cases hlt : k < N
          · obtain ⟨N1, hN1⟩ : ∃ N1 : Nat, (N : Int) - 1 = (N1 : Int) := ⟨N - 1, by omega⟩
            have hN2 : N1 < N := by omega
            have hN3 : (0 : Int) ≤ (N1 : Int) := by omega
            have hN4 : (N1 : Int) < (N : Int) := by omega
            have hwr : IntKind.i64.wrap ((N : Int) - 1) = (N1 : Int) := by rw [hN1]; exact wrap_nat _ (by omega)
            have HN1 : Hid ((N : Int) - 1 = (N1 : Int)) := hN1
            clear hN1
            obtain ⟨K1, hK1⟩ : ∃ K1 : Nat, (N : Int) - (k : Int) = (K1 : Int) := ⟨N - k, by omega⟩
            have hwk : IntKind.i64.wrap ((N : Int) - (k : Int)) = (K1 : Int) := by rw [hK1]; exact wrap_nat _ (by omega)
            have HK1 : Hid ((N : Int) - (k : Int) = (K1 : Int)) := hK1
            clear hK1
            have hdk : decide ((k : Int) < (N : Int)) = true := by rw [decide_eq_true_eq]; omega
            obtain ⟨⟨id, wt⟩, r, hr⟩ : ∃ pq r, D.drop k = pq :: r := by
              cases hc : D.drop k with
              | nil => have := congrArg List.length hc; simp at this; have := HN.out; omega
              | cons a b => exact ⟨a, b, rfl⟩
            obtain ⟨u1, u2, u3⟩ := hw.unlink_head (hD.trans hr)
            have hid : 1 ≤ id ∧ id ≤ 65536 := by
              have := hw.els 0 (id, wt) (by rw [hD, hr]; simp)
              exact ⟨this.1, this.2.1⟩
            obtain ⟨z, hz⟩ : ∃ z : Int, z = ((D.map (·.1)).getD N1 0) := ⟨_, rfl⟩
            have fr := front_i ht 0
            have bk := back_i ht 0
            have ln := len_i ht 0
            have ul := unlink_i ht (wf_small hid)
            have e1 : ((t.rowI 0).map (·.1)).headD 0 = id := by rw [hrow, hD, hr]; rfl
            have e2 : ((t.rowI 0).map (·.1)).getLastD 0 = z := by
              rw [hrow, hD, hz, List.map_drop, List.getLastD_eq_getLast?, List.getLast?_drop, if_neg (by simp; have := HN.out; omega), List.getLast?_eq_getElem?, List.getD_eq_getElem?_getD]
              have : D.length - 1 = N1 := by have := HN.out; have := HN1.out; omega
              simp [this]
            have e3 : ((t.rowI 0).length : Int) = (K1 : Int) := by rw [hrow, hD, List.length_drop, ← HN.out]; have := HK1.out; omega
            have fr2 := fun W (h : Dqi ws W X t p N c (idsC D)) => front_i h 0
            have bk2 := fun W (h : Dqi ws W X t p N c (idsC D)) => back_i h 0
            have ln2 := fun W (h : Dqi ws W X t p N c (idsC D)) => len_i h 0
            have ul2 := fun W (h : Dqi ws W X t p N c (idsC D)) => unlink_i h (wf_small hid)
            rw [e1] at fr2
            rw [e2] at bk2
            rw [e3] at ln2
            rw [u1] at ul2
            obtain ⟨B, rfl, hB, hcB, hNc⟩ := ht.nth (by omega)
            have HC : Hid (∀ W s, Dqi ws W X s (some ⟨B, 0, none⟩) N c (idsC D) → W.cell? ⟨B, k, none⟩ = some (.int .i64 id) ∧ W.cell? ⟨B, N1, none⟩ = some (.int .i64 z) ∧ B < W.heap.size) := fun W s h => by
              obtain ⟨B', hB', h1, h2, _⟩ := h.nth (by omega)
              cases hB'
              exact ⟨(h2 k hlt).trans (by rw [idsC_at hr]), (h2 N1 (by omega)).trans (by rw [hz]; rfl), h1⟩
            obtain ⟨c1, c2, _⟩ := HC.out _ _ ht
            have HT : Hid ((t.unlinkI id).L 0 = D.drop (k + 1) ∧ (t.unlinkI id).n = 1) := by
              refine ⟨?_, u3.trans htn⟩
              rw [u2, ← List.drop_drop, hr]; rfl
            obtain ⟨t', ht'⟩ : ∃ t', t' = t.unlinkI id := ⟨_, rfl⟩
            simp only [← ht'] at ul2
            rw [← ht'] at HT
            have hx1 : (id != id) = false := by simp
            have hx2 : (z != z) = false := by simp
            have hx3 : ((K1 : Int) != (K1 : Int)) = false := by simp
            have H0 : Hid (Dqi ws wr X t (some ⟨B, 0, none⟩) N c (idsC D)) := ht
            clear fr bk ln ul e1 e2 e3 u1 u2 u3 hz hr hrow hD htn hcB ht' ht
            unfold ptr at fr2 bk2 ln2 ul2
            go_wp2_with fail
            go_region_held3 (fun w' => w'.cell? ⟨B, k, none⟩ = some (.int .i64 id) ∧ w'.cell? ⟨B, N1, none⟩ = some (.int .i64 z)) (first | exact ⟨b7, b8⟩ | exact ⟨b5, b6⟩ | exact ⟨b3, b4⟩ | exact ⟨b1, b2⟩ | exact ⟨c1, c2⟩ | go_keep) (first | (go_at_call 26; refine (fr2 _ (H0.out.drewN 1)).mono ?_; rintro e w1 ⟨rfl, h1⟩; obtain ⟨b1, b2, l1⟩ := HC.out _ _ h1) | (go_at_call 25; refine (bk2 _ h1).mono ?_; rintro e w2 ⟨rfl, h2⟩; obtain ⟨b3, b4, l3⟩ := HC.out _ _ h2) | (go_at_call 23; refine (ln2 _ h2).mono ?_; rintro e w3 ⟨rfl, h3⟩; obtain ⟨b5, b6, l5⟩ := HC.out _ _ h3) | (go_at_call 13; refine (ul2 _ h3).mono ?_; rintro e w4 ⟨rfl, h4⟩; obtain ⟨b7, b8, l7⟩ := HC.out _ _ h4))
            all_goals
              go_wp2_with fail
              go_roundw
              case rel => exact ⟨k + 1, t', by omega, by go_num, HT.out.1, HT.out.2, h4⟩
              case measure => simp [intOf]; omega
          · obtain rfl : k = N := by omega
            have hdk : decide ((k : Int) < (k : Int)) = false := by rw [decide_eq_false_iff_not]; omega
            have e0 : t.rowI 0 = [] := by rw [hrow, hD, HN.out, List.drop_length]
            have fr2 := fun W (h : Dqi ws W X t p k c (idsC D)) => front_i h 0
            have bk2 := fun W (h : Dqi ws W X t p k c (idsC D)) => back_i h 0
            have wg2 := fun W (h : Dqi ws W X t p k c (idsC D)) => weight_i h 0
            rw [e0] at fr2 bk2 wg2
            have fr3 : ∀ W, Dqi ws W X t p k c (idsC D) → Calls Try.prog 26 #[ptr X, .int .i64 0] W fun e w' => e = .returned (.int .i64 0) ∧ Dqi ws w' X t p k c (idsC D) := fr2
            have bk3 : ∀ W, Dqi ws W X t p k c (idsC D) → Calls Try.prog 25 #[ptr X, .int .i64 0] W fun e w' => e = .returned (.int .i64 0) ∧ Dqi ws w' X t p k c (idsC D) := bk2
            have wg3 : ∀ W, Dqi ws W X t p k c (idsC D) → Calls Try.prog 24 #[ptr X, .int .i64 0] W fun e w' => e = .returned (.int .i64 0) ∧ Dqi ws w' X t p k c (idsC D) := wg2
            clear fr2 bk2 wg2 e0 hrow hD hw
            unfold ptr at fr3 bk3 wg3
            go_wp2_with (first | (go_at_call 26; refine (fr3 _ ht).mono ?_; rintro e w1 ⟨rfl, h1⟩) | (go_at_call 25; refine (bk3 _ h1).mono ?_; rintro e w2 ⟨rfl, h2⟩) | (go_at_call 24; refine (wg3 _ h2).mono ?_; rintro e w3 ⟨rfl, h3⟩))
            go_ret
            exact ⟨rfl, grownTrans hgs h3.old⟩
  · have d3 : decide (100 < (len0 : Int)) = true := by rw [decide_eq_true_eq]; omega
    have nw := fun w g => new_i 1 w w g
    unfold ptr at nw
    clear hl hk
    go_enter Try.func6, Try.ntmps6
    go_wp2_with (first | (go_at_call 8; refine (dSmall_any _).mono ?_; rintro e ws ⟨rfl, hgs⟩) | (go_at_call 9; refine (nw _ (Grown.refl _)).mono ?_; rintro e wx ⟨X, rfl, hx⟩))
    go_ret
    exact ⟨rfl, grownTrans hgs hx.old⟩

/-! ### THE ROW's STEP: WRITTEN OUT: LEAVE IT -/
set_option maxRecDepth 100000 in
theorem lifted (os : Os) (started : os.Started) (H : Type) (enc : TypeId × Value → H) :
    ReturnsInHanded {} Try.checked os 6 .any (Rows.dequeQueueSpec.pre6 enc Try.prog Try.f6 Rows.dequeQueueRow.domain false) (Rows.dequeQueueSpec.post enc Try.prog Try.f6 false true false false) := by
  refine returnsInHanded_of_change (C := Try.checked) own started (by kernel_rfl) Try.func6
    (ChangeSpec.witness6 (enc := enc) (C := Try.checked) false ⟨#[], #[.slice none 0 0], []⟩ 8 (by kernel_rfl) (by kernel_rfl) (by kernel_rfl) (by kernel_rfl)) ?_
  intro W base args ds gs before hval0 hW hcnd _
  have hval : ∀ (j : Nat) t v, Try.f6.params[j]? = some t → args[j]? = some v → Value.okWide Try.prog W .any base t v := hval0
  have hW' := hW
  obtain ⟨p, q, hA0, hV, rfl, hfz, hnd⟩ := hW
  have hA : DataW.TrodAll enc Try.prog W 0 (fun _ => true) true Try.f6.params.toList args.toList ds p := hA0
  rw [Try.params6] at hA hval
  obtain ⟨v0, vs0, d0, ds0, p0, q0, hargs, rfl, rfl, h0, r0⟩ := trodAll_cons hA
  obtain ⟨rfl, rfl, rfl⟩ := trodAll_nil r0
  obtain rfl : args = #[v0] := by cases args; simp_all
  obtain ⟨rfl, rfl⟩ := trodVars_none hV
  obtain ⟨a0, len0, cap0, rfl⟩ := okWide_slice Try.underlying36 (hval 0 36 v0 rfl rfl)
  have k0 := h0
  have lt0 : ∀ x ∈ p0, x.block < W.heap.size := by obtain ⟨m, hm⟩ := k0; exact DataW.trod_lt m _ _ _ hm
  obtain ⟨z0, w0⟩ : ∃ zs, IsRow .i64 W a0 len0 cap0 zs := by
    obtain ⟨fuel, hf⟩ := h0
    rcases open_ints Try.underlying36 Try.underlying3 (by kernel_rfl) hf with ⟨hcs, _⟩ | ⟨x, l, c, zs, hcs, _, hl, hm, hz, _, hcell, hwz⟩
    · simp [Value.cells] at hcs
      obtain ⟨rfl, rfl, rfl⟩ := hcs
      exact ⟨[], .inl ⟨rfl, rfl, rfl, rfl⟩⟩
    · simp [Value.cells] at hcs
      obtain ⟨rfl, rfl, rfl⟩ := hcs
      exact ⟨zs, .inr ⟨_, rfl, hl, hm, by simpa using hz, hcell, hwz⟩⟩
  clear hA0 hval0
  refine (walk a0 len0 cap0 z0 W w0).mono fun e W' ⟨he, bel⟩ => ?_
  subst he
  exact ⟨_, rfl, _, _, _, [], _, [], hW', trodAll_mk1 (shut_bool Try.underlying4 _), (trodAll_cons_mk (grown_trod laidOut (by kernel_rfl) (of_decide_eq_true (by kernel_rfl)) k0 bel lt0) trodAll_mk0), rfl, bel.frame _, fun h => by cases h⟩

theorem over : Rows.dequeQueueRow.holds Try.pinned (OpenSpec.ofChange Rows.dequeQueueSpec) :=
  OpenClaim.holds_of_wide 6 Try.f6 rfl rfl rfl rfl rfl rfl rfl ⟨rfl, rfl, rfl, rfl, rfl⟩ rfl rfl rfl rfl rfl (by kernel_rfl) Try.func6 (by kernel_rfl)
    (of_decide_eq_true (by kernel_rfl)) (by unfold Func.isWrapper; first | (rw [if_pos (by decide +kernel)]; kernel_rfl) | (rw [if_neg (by decide +kernel)]; exact ⟨rfl, rfl⟩))
    (fun os started H enc _ => lifted os started H enc)

/-- ████ THE STATEMENT ████ -/
theorem proved : Rows.DequeQueueSaid := over
end Go.Proofs.Ytecnlciogcanmaa.dequeQueue

namespace Go.Proofs.Ytecnlciogcanmaa
/-- The given statement. -/
theorem dequeQueue_holds : Rows.DequeQueueSaid := dequeQueue.proved
#print axioms dequeQueue_holds
end Go.Proofs.Ytecnlciogcanmaa
