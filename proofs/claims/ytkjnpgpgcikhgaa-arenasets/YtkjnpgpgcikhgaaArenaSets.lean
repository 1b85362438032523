/-
  Proved: pantrylaw06.ArenaSets returns true for every number of nodes, every number to set and every node: a node that is set is that one, and all others stay (P6.3). No condition.
-/
import Derived.Test.YtkjnpgpgcikhgaaRows
import Derived.WalkKit
import Derived.ProofKit
import Derived.OpenShut
import Derived.Test.YtkjnpgpgcikhgaaArLaws
import Derived.BigQuiet
import Derived.ShutString
import Derived.ChangeOld
import Derived.Below
import Derived.Test.YtkjnpgpgcikhgaaGenArgs
namespace Go.Proofs.Ytkjnpgpgcikhgaa.arenaSets
open Go.ChangeShapes Go.WideShapes Go.ChangeAt Go.RowKit
set_option linter.unusedVariables false

theorem own : ownKnob Try.prog.godebug = none := by kernel_rfl
theorem laidOut : laidOutB Try.prog = true := by kernel_rfl

/-! ### The walk: the law returns true, and writes nothing that was there -/
set_option maxRecDepth 20000 in set_option maxHeartbeats 8000000 in
theorem walk (a0 : Int) (a1 : Int) (x2 y2 : Int) (w : World) (w0 : (Lit.int .i64 a0).wf = true) (w1 : (Lit.int .i64 a1).wf = true) (wx2 : (Lit.int .i64 x2).wf = true) (wy2 : (Lit.int .i64 y2).wf = true) :
    Calls Try.prog 7 #[.int .i64 a0, .int .i64 a1, .agg #[.int .i64 x2, .int .i64 y2]] w fun e w' => e = .returned (.bool true) ∧ Grown w w' := by
  clear w0 w1 wx2 wy2
  by_cases hl : 0 ≤ a0 ∧ a0 ≤ 50
  · obtain ⟨hl0, hl1⟩ := hl
    obtain ⟨N, rfl⟩ : ∃ N : Nat, a0 = N := ⟨a0.toNat, by omega⟩
    have d1 : decide ((N : Int) < 0) = false := by rw [decide_eq_false_iff_not]; omega
    have d2 : decide (50 < (N : Int)) = false := by rw [decide_eq_false_iff_not]; omega
    have nw := fun w g => new_i 100 w w g
    unfold ptr at nw
    go_enter Try.func7, Try.ntmps7
    go_wp2_with (first | (go_at_call 8; refine (aSmall_any _).mono ?_; rintro e ws ⟨rfl, hgs⟩) | (go_at_call 9; refine (nw _ (Grown.refl _)).mono ?_; rintro e wx ⟨A, rfl, hx⟩))
    have NB : Hid (∀ W, Grown ws W → W.cell? ⟨w.heap.size, 0, none⟩ = some (.int .i64 x2) ∧ W.cell? ⟨w.heap.size, 1, none⟩ = some (.int .i64 y2) ∧ w.heap.size < W.heap.size) := fun W g => by
      have h1 := grown_block (grownTrans hgs g) (k := w.heap.size) (by rw [Deep.nblk_alloc]; omega)
      rw [Deep.blk_alloc_new] at h1
      have h2 := (grownTrans hgs g).2.2
      rw [Deep.nblk_alloc] at h2
      exact ⟨by simp only [World.cell?, h1]; rfl, by simp only [World.cell?, h1]; rfl, by omega⟩
    have hgw : Hid (Grown w ws) := grownTrans ((Grown.refl _).alloc _ _) hgs
    clear hgs
    go_loopw [9] (fun iv wr => ∃ (k : Nat) (t : As), k ≤ N ∧ iv = .int .i64 (k : Int) ∧ t.m = 100 ∧ t.n = k + 1 ∧ t.d = [] ∧ (∀ i, 1 ≤ i → i ≤ k → t.s i = some ((i : Int) - 1, 7)) ∧ Ari ws wr A t none 0 0 (fun _ => .int .i64 0)) (fun iv _ => N - (intOf iv).toNat)
    case atStart => exact ⟨0, _, by omega, rfl, rfl, rfl, rfl, fun i h1 h2 => by omega, hx⟩
    case round =>
      clear hx nw
      obtain ⟨k, t, hkN, rfl, htm, htn, htd, hts, ht⟩ := hrel
      have hlen : t.len = k := by unfold As.len; rw [htn, htd]; simp
      by_cases hlt : k < N
      · obtain ⟨e1, e2, e3⟩ := As.put_room (t := t) (v := ((k : Int), 7)) (by omega)
        have pt := put_i ht ((k : Int), 7)
        have HP : Hid ((t.put ((k : Int), 7)).m = 100 ∧ (t.put ((k : Int), 7)).n = k + 1 + 1 ∧ (t.put ((k : Int), 7)).d = [] ∧ ∀ i, 1 ≤ i → i ≤ k + 1 → (t.put ((k : Int), 7)).s i = some ((i : Int) - 1, 7)) := by
          refine ⟨htm, ?_, ?_, fun i h1 h2 => ?_⟩
          · show (if t.d = [] then t.n + 1 else t.n) = _; rw [if_pos htd, htn]
          · show t.d.tail = []; rw [htd]; rfl
          · show (if i = t.give then some ((k : Int), (7 : Int)) else t.s i) = _
            rw [As.give_new htd, htn]
            by_cases e : i = k + 1
            · rw [if_pos e, e, show ((k + 1 : Nat) : Int) - 1 = (k : Int) by omega]
            · rw [if_neg e]; exact hts i h1 (by omega)
        rw [e1, e2, e3] at pt
        obtain ⟨t', ht'⟩ : ∃ t', t' = t.put ((k : Int), 7) := ⟨_, rfl⟩
        rw [← ht'] at pt HP
        clear ht' e1 e2 e3 hlen htm htn htd hts
        unfold ptr nodeV at pt
        go_wp2_with (first | (go_at_call 11; refine pt.mono ?_; rintro e w1 ⟨rfl, h1⟩))
        go_roundw
        case rel => exact ⟨k + 1, t', by omega, by go_num, HP.out.1, HP.out.2.1, HP.out.2.2.1, HP.out.2.2.2, h1⟩
        case measure => simp [intOf]; omega
      · obtain rfl : k = N := by omega
        have hw := ht.wf
        have st := set_i ht a1 (x2, y2)
        -- what is under each number behind Set
        have HS : Hid (∃ t' : As, ∃ e : Int, t.setI a1 (x2, y2) = t' ∧ t.errI a1 = e ∧ t'.len = k ∧ (∀ i : Nat, 1 ≤ i → i ≤ k → t'.s i = some (if (i : Int) = a1 then (x2, y2) else ((i : Int) - 1, 7))) ∧ ((1 ≤ a1 ∧ a1 ≤ k ∧ e = 0) ∨ (¬ (1 ≤ a1 ∧ a1 ≤ k) ∧ e = 3))) := by
          by_cases hin : 1 ≤ a1 ∧ a1 ≤ k
          · obtain ⟨j, rfl⟩ : ∃ j : Nat, a1 = j := ⟨a1.toNat, by omega⟩
            have hj := hts j (by omega) (by omega)
            refine ⟨t.set j (x2, y2), 0, As.set_held hj, As.err_held hj, hlen, fun i h1 h2 => ?_, Or.inl ⟨by omega, by omega, rfl⟩⟩
            show (if i = j then some (x2, y2) else t.s i) = _
            by_cases e : i = j
            · subst e; rw [if_pos rfl, if_pos rfl]
            · rw [if_neg e, if_neg (by omega)]; exact hts i h1 h2
          · have hu : t.under a1 = none := by
              cases hu : t.under a1 with
              | none => rfl
              | some u =>
                obtain ⟨j, hj, hs⟩ := As.under_some hu
                have := hw.held hs
                omega
            refine ⟨t, 3, by unfold As.setI; rw [hu]; rfl, by unfold As.errI; rw [hu]; rfl, hlen, fun i h1 h2 => ?_, Or.inr ⟨hin, rfl⟩⟩
            rw [if_neg (fun e => hin (by omega))]; exact hts i h1 h2
        obtain ⟨t', e, h1, h2, h3, h4, h5⟩ := HS.out
        rw [h1, h2] at st
        have HT : Hid (t'.len = k ∧ ∀ i : Nat, 1 ≤ i → i ≤ k → t'.s i = some (if (i : Int) = a1 then (x2, y2) else ((i : Int) - 1, 7))) := ⟨h3, h4⟩
        obtain ⟨b1, b2, b3⟩ := NB.out _ ht.old
        clear HS h1 h2 h3 h4 hlen htm htn htd hts hw
        unfold ptr nodeV at st
        have hcase : (decide (1 ≤ a1) = true ∧ decide (a1 ≤ (k : Int)) = true ∧ e = 0) ∨ (decide (1 ≤ a1) = false ∧ e = 3) ∨ (decide (1 ≤ a1) = true ∧ decide (a1 ≤ (k : Int)) = false ∧ e = 3) := by
          rcases h5 with ⟨g1, g2, g3⟩ | ⟨g1, g3⟩
          · exact Or.inl ⟨by rw [decide_eq_true_eq]; exact g1, by rw [decide_eq_true_eq]; exact g2, g3⟩
          · by_cases g : 1 ≤ a1
            · exact Or.inr (Or.inr ⟨by rw [decide_eq_true_eq]; exact g, by rw [decide_eq_false_iff_not]; exact fun h => g1 ⟨g, h⟩, g3⟩)
            · exact Or.inr (Or.inl ⟨by rw [decide_eq_false_iff_not]; exact g, g3⟩)
        clear h5
        rcases hcase with ⟨c1, c2, rfl⟩ | ⟨c1, rfl⟩ | ⟨c1, c2, rfl⟩
        all_goals
          go_wp2_with (first | (go_at_call 15; refine st.mono ?_; rintro e w1 ⟨rfl, h1⟩))
          go_loopw [11] (fun kv wr => ∃ l : Nat, 1 ≤ l ∧ l ≤ k + 1 ∧ kv = .int .i64 (l : Int) ∧ Ari ws wr A t' none 0 0 (fun _ => .int .i64 0)) (fun kv _ => k + 1 - (intOf kv).toNat)
          case atStart => exact ⟨1, by omega, by omega, rfl, h1⟩
          case round =>
            clear h1 st b1 b2 b3 ht
            obtain ⟨l, hl1', hl2, rfl, h1⟩ := hrel
            by_cases hlk : l ≤ k
            · have q1 : decide ((l : Int) ≤ (k : Int)) = true := by rw [decide_eq_true_eq]; omega
              have hs := HT.out.2 l hl1' hlk
              have gt := get_i h1 (l : Int)
              rw [As.err_held hs, As.node_held hs] at gt
              have NB2 : Hid (∀ W, Ari ws W A t' none 0 0 (fun _ => .int .i64 0) → W.cell? ⟨w.heap.size, 0, none⟩ = some (.int .i64 x2) ∧ W.cell? ⟨w.heap.size, 1, none⟩ = some (.int .i64 y2) ∧ w.heap.size < W.heap.size) := fun W h => NB.out W h.old
              clear hs
              by_cases hla : (l : Int) = a1
              · subst hla
                rw [if_pos rfl] at gt
                unfold ptr nodeV at gt
                have q2 : ((l : Int) == (l : Int)) = true := by simp
                go_wp2_with (first | (go_at_call 17; refine gt.mono ?_; rintro e w2 ⟨rfl, h2⟩; obtain ⟨b1, b2, b3⟩ := NB2.out _ h2))
                go_roundw
                case rel => exact ⟨l + 1, by omega, by omega, by go_num, h2.grown (((Grown.refl _).alloc _ _).alloc _ _)⟩
                case measure => simp [intOf]; omega
              · rw [if_neg hla] at gt
                unfold ptr nodeV at gt
                have q2 : ((l : Int) == a1) = false := by simpa using hla
                go_wp2_with (first | (go_at_call 17; refine gt.mono ?_; rintro e w2 ⟨rfl, h2⟩; obtain ⟨b1, b2, b3⟩ := NB2.out _ h2))
                go_roundw
                case rel => exact ⟨l + 1, by omega, by omega, by go_num, h2.grown (((Grown.refl _).alloc _ _).alloc _ _)⟩
                case measure => simp [intOf]; omega
            · have q1 : decide ((l : Int) ≤ (k : Int)) = false := by rw [decide_eq_false_iff_not]; omega
              have ln := len_i h1
              rw [HT.out.1] at ln
              have q2 : ((k : Int) == (k : Int)) = true := by simp
              unfold ptr at ln
              go_wp2_with (first | (go_at_call 19; refine ln.mono ?_; rintro e w2 ⟨rfl, h2⟩))
              go_ret
              exact ⟨rfl, grownTrans hgw.out h2.old⟩
  · have hl' : a0 < 0 ∨ (0 ≤ a0 ∧ 50 < a0) := by omega
    have nw := fun w g => new_i 100 w w g
    unfold ptr at nw
    clear hl
    rcases hl' with h | ⟨h, h'⟩
    all_goals
      go_enter Try.func7, Try.ntmps7
      go_wp2_with (first | (go_at_call 8; refine (aSmall_any _).mono ?_; rintro e ws ⟨rfl, hgs⟩) | (go_at_call 9; refine (nw _ (Grown.refl _)).mono ?_; rintro e wx ⟨A, rfl, hx⟩))
      go_ret
      exact ⟨rfl, grownTrans (grownTrans ((Grown.refl _).alloc _ _) hgs) hx.old⟩

/-! ### The row's step -/
set_option maxRecDepth 100000 in
theorem lifted (os : Os) (started : os.Started) (H : Type) (enc : TypeId × Value → H) :
    ReturnsInHanded {} Try.checked os 7 .any (Rows.arenaSetsSpec.pre6 enc Try.prog Try.f7 Rows.arenaSetsRow.domain false) (Rows.arenaSetsSpec.post enc Try.prog Try.f7 false true false false) := by
  refine returnsInHanded_of_change (C := Try.checked) own started (by kernel_rfl) Try.func7
    (ChangeSpec.witness6 (enc := enc) (C := Try.checked) false ⟨#[], #[.int .i64 0, .int .i64 0, .agg #[.int .i64 0, .int .i64 0]], []⟩ 8 (by kernel_rfl) (by kernel_rfl) (by kernel_rfl) (by kernel_rfl)) ?_
  intro W base args ds gs before hval0 hW hcnd _
  have hval : ∀ (j : Nat) t v, Try.f7.params[j]? = some t → args[j]? = some v → Value.okWide Try.prog W .any base t v := hval0
  have hW' := hW
  obtain ⟨p, q, hA0, hV, rfl, hfz, hnd⟩ := hW
  have hA : DataW.TrodAll enc Try.prog W 0 (fun _ => true) true Try.f7.params.toList args.toList ds p := hA0
  rw [Try.params7] at hA hval
  obtain ⟨v0, vs0, d0, ds0, p0, q0, hargs, rfl, rfl, h0, r0⟩ := trodAll_cons hA
  obtain ⟨v1, vs1, d1, ds1, p1, q1, rfl, rfl, rfl, h1, r1⟩ := trodAll_cons r0
  obtain ⟨v2, vs2, d2, ds2, p2, q2, rfl, rfl, rfl, h2, r2⟩ := trodAll_cons r1
  obtain ⟨rfl, rfl, rfl⟩ := trodAll_nil r2
  obtain rfl : args = #[v0, v1, v2] := by cases args; simp_all
  obtain ⟨rfl, rfl⟩ := trodVars_none hV
  obtain ⟨a0, rfl, rfl, rfl, w0⟩ := open_int Try.underlying3 (hval 0 3 v0 rfl rfl) h0
  obtain ⟨a1, rfl, rfl, rfl, w1⟩ := open_int Try.underlying3 (hval 1 3 v1 rfl rfl) h1
  have k2 := h2
  have lt2 : ∀ x ∈ p2, x.block < W.heap.size := by obtain ⟨m, hm⟩ := k2; exact DataW.trod_lt m _ _ _ hm
  obtain ⟨x2, y2, rfl, wx2, wy2⟩ := open_pair Try.underlying30 (by kernel_rfl) Try.underlying3 Try.underlying3 (by kernel_rfl) (by kernel_rfl) rfl rfl (hval 2 30 v2 rfl rfl) h2
  clear hA0 hval0
  refine (walk a0 a1 x2 y2 W w0 w1 wx2 wy2).mono fun e W' ⟨he, bel⟩ => ?_
  subst he
  exact ⟨_, rfl, _, _, _, [], _, [], hW', trodAll_mk1 (shut_bool Try.underlying4 _), (trodAll_cons_mk (shut_int Try.underlying3 w0) (trodAll_cons_mk (shut_int Try.underlying3 w1) (trodAll_cons_mk (grown_trod laidOut (by kernel_rfl) (of_decide_eq_true (by kernel_rfl)) k2 bel lt2) trodAll_mk0))), rfl, bel.frame _, fun h => by cases h⟩

theorem over : Rows.arenaSetsRow.holds Try.pinned (OpenSpec.ofChange Rows.arenaSetsSpec) :=
  OpenClaim.holds_of_wide 7 Try.f7 rfl rfl rfl rfl rfl rfl rfl ⟨rfl, rfl, rfl, rfl, rfl⟩ rfl rfl rfl rfl rfl (by kernel_rfl) Try.func7 (by kernel_rfl)
    (of_decide_eq_true (by kernel_rfl)) (by unfold Func.isWrapper; first | (rw [if_pos (by decide +kernel)]; kernel_rfl) | (rw [if_neg (by decide +kernel)]; exact ⟨rfl, rfl⟩))
    (fun os started H enc _ => lifted os started H enc)

/-- The statement. -/
theorem proved : Rows.ArenaSetsSaid := over
end Go.Proofs.Ytkjnpgpgcikhgaa.arenaSets

namespace Go.Proofs.Ytkjnpgpgcikhgaa
/-- The given statement. -/
theorem arenaSets_holds : Rows.ArenaSetsSaid := arenaSets.proved
#print axioms arenaSets_holds
end Go.Proofs.Ytkjnpgpgcikhgaa
