/-
  Proved: pantrylaw06.ArenaLast returns true for every number of nodes and every slice of numbers to drop: the number that was dropped last is given first, each once, then one more than the greatest that was ever given (P6.2). No condition.
-/
import Derived.Test.YtkjnpgpgcikhgaaRows
import Derived.WalkKit
import Derived.ProofKit
import Derived.OpenShut
import Derived.Test.YtkjnpgpgcikhgaaArLaws
import Derived.Deep.CutRange
import Derived.ShutString
import Derived.ChangeOld
import Derived.Below
namespace Go.Proofs.Ytkjnpgpgcikhgaa.arenaLast
open Go.ChangeShapes Go.WideShapes Go.ChangeAt Go.RowKit
open Go.ChangeMaps (open_string shut_string)
set_option linter.unusedVariables false

theorem own : ownKnob Try.prog.godebug = none := by kernel_rfl
theorem laidOut : laidOutB Try.prog = true := by kernel_rfl

/-- WHAT THE WALK IS TOLD OF A SLICE OF INTEGERS THAT CAME IN: it is nil; or it leads to a row of 'cap' cells, the numbers 'zs' (the first 'len' are its elements, the rest its spare room), each fitting its kind. -/
def IsRow (k : IntKind) (w : World) (a : Option Addr) (len cap : Nat) (zs : List Int) : Prop :=
  (a = none ∧ len = 0 ∧ cap = 0 ∧ zs = []) ∨
  ∃ x, a = some x ∧ len ≤ cap ∧ cap ≤ maxLen ∧ zs.length = cap ∧ (∀ i, i < zs.length → w.cell? (x.add i) = some (.int k (zs.getD i 0))) ∧ ∀ n ∈ zs, (Lit.int k n).wf = true

/-! ### STEP 1: THE WALK: the Go text returns true, AND WRITES NOTHING THAT WAS THERE: 'Below w.heap.size w w'' (Derived/Below.lean: '.refl', '.alloc', '.drew', '.setCell' at a new block, '.trans'). Open each 'IsRow' by 'rcases' AHEAD of 'go_enter'; part every test ahead of the walk. -/
set_option maxRecDepth 20000 in set_option maxHeartbeats 8000000 in
theorem walk (a0 : Int) (a1 : Option Addr) (len1 cap1 : Nat) (z1 : List Int) (w : World) (w0 : (Lit.int .i64 a0).wf = true) (w1 : IsRow .i64 w a1 len1 cap1 z1) :
    Calls Try.prog 6 #[.int .i64 a0, .slice a1 len1 cap1] w fun e w' => e = .returned (.bool true) ∧ Grown w w' := by
  have hk := keys_open w1
  clear w0 w1
  by_cases hl : 1 ≤ a0 ∧ a0 ≤ 60 ∧ len1 ≤ 60
  · obtain ⟨hl0, hl1, hl⟩ := hl
    obtain ⟨N, rfl⟩ : ∃ N : Nat, a0 = N := ⟨a0.toNat, by omega⟩
    have d1 : decide ((N : Int) < 1) = false := by rw [decide_eq_false_iff_not]; omega
    have d2 : decide (60 < (N : Int)) = false := by rw [decide_eq_false_iff_not]; omega
    have d3 : decide (60 < (len1 : Int)) = false := by rw [decide_eq_false_iff_not]; omega
    have nw := fun w g => new_i 100 w w g
    unfold ptr at nw
    go_enter Try.func6, Try.ntmps6
    go_wp2_with (first | (go_at_call 8; refine (aSmall_any _).mono ?_; rintro e ws ⟨rfl, hgs⟩) | (go_at_call 9; refine (nw _ (Grown.refl _)).mono ?_; rintro e wx ⟨A, rfl, hx⟩))
    go_loopw [7] (fun iv wr => ∃ (k : Nat) (t : As), k ≤ N ∧ iv = .int .i64 (k : Int) ∧ t.m = 100 ∧ t.n = k + 1 ∧ t.d = [] ∧ Ari ws wr A t none 0 0 (dropC [])) (fun iv _ => N - (intOf iv).toNat)
    case atStart => exact ⟨0, _, by omega, rfl, rfl, rfl, rfl, hx.congr (fun j hj => by omega)⟩
    case round =>
      clear hx nw
      obtain ⟨k, t, hkN, rfl, htm, htn, htd, ht⟩ := hrel
      by_cases hlt : k < N
      · have hlen : t.len = k := by unfold As.len; rw [htn, htd]; simp
        obtain ⟨e1, e2, e3⟩ := As.put_room (t := t) (v := ((k : Int), 0)) (by omega)
        have pt := put_i ht ((k : Int), 0)
        have HP : Hid ((t.put ((k : Int), 0)).m = 100 ∧ (t.put ((k : Int), 0)).n = k + 1 + 1 ∧ (t.put ((k : Int), 0)).d = []) := by
          refine ⟨htm, ?_, ?_⟩
          · show (if t.d = [] then t.n + 1 else t.n) = _; rw [if_pos htd, htn]
          · show t.d.tail = []; rw [htd]; rfl
        rw [e1, e2, e3] at pt
        obtain ⟨t', ht'⟩ : ∃ t', t' = t.put ((k : Int), 0) := ⟨_, rfl⟩
        rw [← ht'] at pt HP
        clear ht' e1 e2 e3 hlen htm htn htd
        unfold ptr nodeV at pt
        go_wp2_with (first | (go_at_call 11; refine pt.mono ?_; rintro e w1 ⟨rfl, h1⟩))
        go_roundw
        case rel => exact ⟨k + 1, t', by omega, by go_num, HP.out.1, HP.out.2.1, HP.out.2.2, h1⟩
        case measure => simp [intOf]; omega
      · obtain rfl : k = N := by omega
        go_wp2_with fail
        go_loopw [8, 9] (fun gv iv wr => ∃ (j : Nat) (t : As) (p : Option Addr) (c : Nat), j ≤ len1 ∧ gv = .slice p t.d.length c ∧ iv = .int .i64 (j : Int) ∧ t.m = 100 ∧ t.n = k + 1 ∧ Ari ws wr A t p t.d.length c (dropC t.d)) (fun _ iv _ => len1 - (intOf iv).toNat)
        case atStart => exact ⟨0, t, none, 0, by omega, by rw [htd]; rfl, rfl, htm, htn, by rw [htd]; exact ht⟩
        case round =>
          clear ht htm htn htd t
          obtain ⟨j, t, p, c, hj, rfl, rfl, htm, htn, ht⟩ := hrel
          have hw := ht.wf
          have hfew := hw.few
          by_cases hlt : j < len1
          · have hkk := hk
            rcases hkk with h0 | ⟨kb, off, rfl, hkb, hcell⟩
            · omega
            have ck := keys_cell (hcell j hlt) hkb (grownTrans hgs ht.old)
            have ck3 : ∀ W, Grown ws W → W.cell? ⟨kb, off + j, none⟩ = some (.int .i64 (z1.getD j 0)) := fun W g => keys_cell (hcell j hlt) hkb (grownTrans hgs g)
            obtain ⟨key, hkey⟩ : ∃ key, key = z1.getD j 0 := ⟨_, rfl⟩
            simp only [← hkey] at ck ck3
            have dr := drop_i ht key
            have hd : decide ((j : Int) < (len1 : Int)) = true := by rw [decide_eq_true_eq]; omega
            cases hu : t.under key with
            | none =>
              have e1 : t.errI key = 3 := by unfold As.errI; rw [hu]; rfl
              have e2 : t.dropI key = t := by unfold As.dropI; rw [hu]; rfl
              rw [e1, e2] at dr
              clear hcell ck3 hkey e1 e2 hu hk
              unfold ptr at dr
              go_wp2_with (first | (go_at_call 13; refine dr.mono ?_; rintro e w1 ⟨rfl, h1⟩))
              go_roundw
              case rel => exact ⟨j + 1, t, p, c, by omega, rfl, by go_num, htm, htn, h1⟩
              case measure => simp [intOf]; omega
            | some u =>
              obtain ⟨i, rfl, hi⟩ := As.under_some hu
              rw [As.err_held hi, As.drop_held hi] at dr
              have HT : Hid ((t.drop i).d = i :: t.d ∧ (t.drop i).m = 100 ∧ (t.drop i).n = k + 1) := ⟨rfl, htm, htn⟩
              obtain ⟨t', ht'⟩ : ∃ t', t' = t.drop i := ⟨_, rfl⟩
              rw [← ht'] at dr HT
              obtain ⟨d, hde⟩ : ∃ d, d = t.d := ⟨_, rfl⟩
              obtain ⟨L, hL⟩ : ∃ L, L = t.d.length := ⟨_, rfl⟩
              have HL : Hid (L = d.length) := by show L = _; rw [hL, hde]
              rw [← hde] at dr HT
              rw [show d.length = L from HL.out.symm] at dr
              rw [← hL] at hfew
              have hLb : L ≤ 100 := by omega
              rw [show t.d.length = L from hL.symm]
              have CK : Hid (∀ W, Grown ws W → W.cell? ⟨kb, off + j, none⟩ = some (.int .i64 (i : Int))) := ck3
              clear hcell ck3 hkey hi hu ht' hde hL ht hw htm htn hk
              unfold ptr at dr
              go_wp2_with (first | (go_at_call 13; refine dr.mono ?_; rintro e w1 ⟨rfl, h1⟩; have ck1 := CK.out _ h1.old) | (at_builtin; refine wpList_append_vec rfl (.tmp 59) (.tmp 64) 41 rfl Try.underlying41 infoInt rfl rfl (h1.vec.grown ((Grown.refl _).alloc _ _)) rfl (by decide) (new_one _ _ _) (fun _ _ => rfl) (by omega) (by omega) ?_; intro p' c' w2 hv2 ho2 hp2; have h2 := h1.append hv2 ho2 hp2; clear hv2 ho2 hp2))
              go_roundw
              case rel =>
                refine ⟨j + 1, t', p', c', by omega, ?_, by go_num, HT.out.2.1, HT.out.2.2, ?_⟩
                · rw [HT.out.1, HL.out]; rfl
                · rw [HT.out.1]
                  have h3 := h2.congr (g := dropC (i :: d)) (fun j hj => by
                    rw [dropC_cons _ _ _ (by have := HL.out; omega), HL.out])
                  rw [HL.out] at h3
                  exact h3
              case measure => simp [intOf]; omega
          · have hd : decide ((j : Int) < (len1 : Int)) = false := by rw [decide_eq_false_iff_not]; omega
            have hlen : (t.len : Int) = (k : Int) - (t.d.length : Int) := by have := hw.len_eq; omega
            have ln := len_i ht
            rw [hlen] at ln
            obtain ⟨L, hL⟩ : ∃ L, L = t.d.length := ⟨_, rfl⟩
            have HL : Hid (L = t.d.length) := hL
            rw [show t.d.length = L from hL.symm] at ln
            rw [show t.d.length = L from hL.symm] at hfew
            rw [show t.d.length = L from hL.symm]
            have hLb : L ≤ k := by omega
            have q1 : (((k : Int) - (L : Int)) != ((k : Int) - (L : Int))) = false := by simp
            clear hlen hw hL hk
            have HM : Hid (t.m = 100 ∧ t.n = k + 1) := ⟨htm, htn⟩
            clear htm htn ht
            unfold ptr at ln
            go_wp2_with (first | (go_at_call 19; refine ln.mono ?_; rintro e w1 ⟨rfl, h1⟩))
            clear ln
            obtain ⟨D, hD⟩ : ∃ D, D = t.d := ⟨_, rfl⟩
            rw [← hD] at h1 HL
            go_loopw [10] (fun iv wi => ∃ (t : As) (pre : List Nat), D = pre ++ t.d ∧ iv = .int .i64 ((t.d.length : Int) - 1) ∧ t.m = 100 ∧ t.n = k + 1 ∧ Ari ws wi A t p L c (dropC D)) (fun iv _ => (intOf iv + 1).toNat)
            case atStart => exact ⟨t, [], by rw [hD]; rfl, by rw [HL.out, hD], HM.out.1, HM.out.2, h1⟩
            case round =>
              clear h1 HM hfew hD t
              obtain ⟨t, pre, hD, rfl, htm, htn, ht⟩ := hrel
              have hw := ht.wf
              have hlen : (t.len : Int) = (k : Int) - (t.d.length : Int) := by have := hw.len_eq; omega
              have hr : t.len < t.m := by omega
              cases hd' : t.d with
              | nil =>
                obtain ⟨e1, e2, e3⟩ := As.put_room (t := t) (v := (0, 0)) hr
                have pt := put_i ht (0, 0)
                rw [e1, e2, e3, As.give_new hd', htn] at pt
                clear e1 e2 e3 hr hlen hw hD hd' HL
                have pt' : Calls Try.prog 11 #[ptr A, nodeV (0, 0)] wr fun e w' => e = .returned (.tuple #[.int .i64 ((k : Int) + 1), .int .i64 0]) ∧ Ari ws w' A (t.put (0, 0)) p L c (dropC D) := pt
                clear pt
                unfold ptr nodeV at pt'
                go_wp2_with (first | (go_at_call 11; refine pt'.mono ?_; rintro e w1 ⟨rfl, h1⟩))
                go_ret
                exact ⟨rfl, grownTrans hgs h1.old⟩
              | cons x r =>
                have pt := fun y : Int => put_i ht (y, 0)
                have HP : Hid (∀ y : Int, (t.put (y, 0)).m = 100 ∧ (t.put (y, 0)).n = k + 1 ∧ (t.put (y, 0)).d = r ∧ Ari ws wr A t p L c (dropC D)) := fun y => by
                  refine ⟨htm, ?_, ?_, ht⟩
                  · show (if t.d = [] then t.n + 1 else t.n) = _; rw [if_neg (by rw [hd']; simp), htn]
                  · show t.d.tail = r; rw [hd']; rfl
                have hle : r.length < L := by rw [HL.out, hD, hd']; simp; omega
                obtain ⟨B, rfl, hB, hc, _, _⟩ := ht.at (by omega)
                have HX : Hid (dropC D r.length = .int .i64 (x : Nat)) := by show _ = _; rw [hD, hd', dropC_suffix]
                have HD : Hid (D = (pre ++ [x]) ++ r) := by show _ = _; rw [hD, hd']; simp
                have pt2 : ∀ y : Int, Calls Try.prog 11 #[ptr A, nodeV (y, 0)] wr fun e w' => e = .returned (.tuple #[.int .i64 (x : Int), .int .i64 0]) ∧ Ari ws w' A (t.put (y, 0)) (some ⟨B, 0, none⟩) L c (dropC D) := fun y => by
                  obtain ⟨e1, e2, e3⟩ := As.put_room (t := t) (v := (y, 0)) hr
                  have := pt y
                  rw [e1, e2, e3, As.give_old hd'] at this
                  exact this
                obtain ⟨i, hi⟩ : ∃ i, i = r.length := ⟨_, rfl⟩
                have HI : Hid (i = r.length) := hi
                have hie : ((x :: r).length : Int) - 1 = (i : Int) := by rw [hi]; simp
                rw [hie]
                rw [← hi] at HX hle
                have HC : Hid (∀ w1 t1, Ari ws w1 A t1 (some ⟨B, 0, none⟩) L c (dropC D) → w1.cell? ⟨B, i, none⟩ = some (.int .i64 (x : Int))) := fun w1 t1 h => by
                  obtain ⟨B', hB', _, hc', _, _⟩ := h.at (by omega)
                  cases hB'
                  rw [hc' i hle, HX.out]
                have q1 : ((x : Int) != (x : Int)) = false := by simp
                clear pt hr hlen hw hD hd' hi hie hc HX ht htm htn
                unfold ptr nodeV at pt2
                go_wp2_with (first | (go_at_call 11; refine (pt2 _).mono ?_; rintro e w1 ⟨rfl, h1⟩; have c1 := HC.out _ _ h1))
                go_roundw
                case rel => exact ⟨_, pre ++ [x], by rw [(HP.out _).2.2.1]; exact HD.out, by rw [(HP.out _).2.2.1, ← HI.out], (HP.out _).1, (HP.out _).2.1, h1⟩
                case measure => simp [intOf]
  · have hl' : a0 < 1 ∨ (1 ≤ a0 ∧ 60 < a0) ∨ (1 ≤ a0 ∧ a0 ≤ 60 ∧ 60 < (len1 : Int)) := by omega
    have nw := fun w g => new_i 100 w w g
    unfold ptr at nw
    clear hl hk
    rcases hl' with h | ⟨h, h'⟩ | ⟨h, h', h''⟩
    all_goals
      go_enter Try.func6, Try.ntmps6
      go_wp2_with (first | (go_at_call 8; refine (aSmall_any _).mono ?_; rintro e ws ⟨rfl, hgs⟩) | (go_at_call 9; refine (nw _ (Grown.refl _)).mono ?_; rintro e wx ⟨A, rfl, hx⟩))
      go_ret
      exact ⟨rfl, grownTrans hgs hx.old⟩

/-! ### THE ROW's STEP: WRITTEN OUT: LEAVE IT -/
set_option maxRecDepth 100000 in
theorem lifted (os : Os) (started : os.Started) (H : Type) (enc : TypeId × Value → H) :
    ReturnsInHanded {} Try.checked os 6 .any (Rows.arenaLastSpec.pre6 enc Try.prog Try.f6 Rows.arenaLastRow.domain false) (Rows.arenaLastSpec.post enc Try.prog Try.f6 false true false false) := by
  refine returnsInHanded_of_change (C := Try.checked) own started (by kernel_rfl) Try.func6
    (ChangeSpec.witness6 (enc := enc) (C := Try.checked) false ⟨#[], #[.int .i64 0, .slice none 0 0], []⟩ 8 (by kernel_rfl) (by kernel_rfl) (by kernel_rfl) (by kernel_rfl)) ?_
  intro W base args ds gs before hval0 hW hcnd _
  have hval : ∀ (j : Nat) t v, Try.f6.params[j]? = some t → args[j]? = some v → Value.okWide Try.prog W .any base t v := hval0
  have hW' := hW
  obtain ⟨p, q, hA0, hV, rfl, hfz, hnd⟩ := hW
  have hA : DataW.TrodAll enc Try.prog W 0 (fun _ => true) true Try.f6.params.toList args.toList ds p := hA0
  rw [Try.params6] at hA hval
  obtain ⟨v0, vs0, d0, ds0, p0, q0, hargs, rfl, rfl, h0, r0⟩ := trodAll_cons hA
  obtain ⟨v1, vs1, d1, ds1, p1, q1, rfl, rfl, rfl, h1, r1⟩ := trodAll_cons r0
  obtain ⟨rfl, rfl, rfl⟩ := trodAll_nil r1
  obtain rfl : args = #[v0, v1] := by cases args; simp_all
  obtain ⟨rfl, rfl⟩ := trodVars_none hV
  obtain ⟨a0, rfl, rfl, rfl, w0⟩ := open_int Try.underlying3 (hval 0 3 v0 rfl rfl) h0
  obtain ⟨a1, len1, cap1, rfl⟩ := okWide_slice Try.underlying41 (hval 1 41 v1 rfl rfl)
  have k1 := h1
  have lt1 : ∀ x ∈ p1, x.block < W.heap.size := by obtain ⟨m, hm⟩ := k1; exact DataW.trod_lt m _ _ _ hm
  obtain ⟨z1, w1⟩ : ∃ zs, IsRow .i64 W a1 len1 cap1 zs := by
    obtain ⟨fuel, hf⟩ := h1
    rcases open_ints Try.underlying41 Try.underlying3 (by kernel_rfl) hf with ⟨hcs, _⟩ | ⟨x, l, c, zs, hcs, _, hl, hm, hz, _, hcell, hwz⟩
    · simp [Value.cells] at hcs
      obtain ⟨rfl, rfl, rfl⟩ := hcs
      exact ⟨[], .inl ⟨rfl, rfl, rfl, rfl⟩⟩
    · simp [Value.cells] at hcs
      obtain ⟨rfl, rfl, rfl⟩ := hcs
      exact ⟨zs, .inr ⟨_, rfl, hl, hm, by simpa using hz, hcell, hwz⟩⟩
  clear hA0 hval0
  refine (walk a0 a1 len1 cap1 z1 W w0 w1).mono fun e W' ⟨he, bel⟩ => ?_
  subst he
  exact ⟨_, rfl, _, _, _, [], _, [], hW', trodAll_mk1 (shut_bool Try.underlying4 _), (trodAll_cons_mk (shut_int Try.underlying3 w0) (trodAll_cons_mk (grown_trod laidOut (by kernel_rfl) (of_decide_eq_true (by kernel_rfl)) k1 bel lt1) trodAll_mk0)), rfl, bel.frame _, fun h => by cases h⟩

theorem over : Rows.arenaLastRow.holds Try.pinned (OpenSpec.ofChange Rows.arenaLastSpec) :=
  OpenClaim.holds_of_wide 6 Try.f6 rfl rfl rfl rfl rfl rfl rfl ⟨rfl, rfl, rfl, rfl, rfl⟩ rfl rfl rfl rfl rfl (by kernel_rfl) Try.func6 (by kernel_rfl)
    (of_decide_eq_true (by kernel_rfl)) (by unfold Func.isWrapper; first | (rw [if_pos (by decide +kernel)]; kernel_rfl) | (rw [if_neg (by decide +kernel)]; exact ⟨rfl, rfl⟩))
    (fun os started H enc _ => lifted os started H enc)

/-- ████ THE STATEMENT ████ -/
theorem proved : Rows.ArenaLastSaid := over
end Go.Proofs.Ytkjnpgpgcikhgaa.arenaLast

namespace Go.Proofs.Ytkjnpgpgcikhgaa
/-- The given statement. -/
theorem arenaLast_holds : Rows.ArenaLastSaid := arenaLast.proved
#print axioms arenaLast_holds
end Go.Proofs.Ytkjnpgpgcikhgaa
