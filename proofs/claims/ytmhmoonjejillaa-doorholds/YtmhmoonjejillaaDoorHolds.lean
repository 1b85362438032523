/-
  Proved: pantrylaw04.DoorHolds returns true for every seed and every slice of keys: a key that was put is there, until Clear, and at most two bits more are on behind a Put, none if the key was there (P4.3, P4.4). No condition.
-/
import Derived.Test.YtmhmoonjejillaaRows
import Derived.WalkKit
import Derived.ProofKit
import Derived.OpenShut
import Derived.Test.YtmhmoonjejillaaDrLaws
import Derived.ShutString
import Derived.ChangeOld
import Derived.Below
namespace Go.Proofs.Ytmhmoonjejillaa.doorHolds
open Go.ChangeShapes Go.WideShapes Go.ChangeAt Go.RowKit
open Go.ChangeMaps (open_string shut_string)
set_option linter.unusedVariables false

theorem own : ownKnob Try.prog.godebug = none := by kernel_rfl
theorem laidOut : laidOutB Try.prog = true := by kernel_rfl

/-- WHAT THE WALK IS TOLD OF A SLICE OF INTEGERS THAT CAME IN: it is nil; or it leads to a row of 'cap' cells, the numbers 'zs' (the first 'len' are its elements, the rest its spare room), each fitting its kind. -/
def IsRow (k : IntKind) (w : World) (a : Option Addr) (len cap : Nat) (zs : List Int) : Prop :=
  (a = none ∧ len = 0 ∧ cap = 0 ∧ zs = []) ∨
  ∃ x, a = some x ∧ len ≤ cap ∧ cap ≤ maxLen ∧ zs.length = cap ∧ (∀ i, i < zs.length → w.cell? (x.add i) = some (.int k (zs.getD i 0))) ∧ ∀ n ∈ zs, (Lit.int k n).wf = true

/-! ### STEP 1: THE WALK: the Go text returns true, AND WRITES NOTHING THAT WAS THERE: 'Below w.heap.size w w'' (Derived/Below.lean: '.refl', '.alloc', '.drew', '.setCell' at a new block, '.trans'). Open each 'IsRow' by 'rcases' AHEAD of 'go_enter'; part every test ahead of the walk. -/
set_option maxRecDepth 20000 in set_option maxHeartbeats 8000000 in
theorem walk (a0 : Int) (a1 : Option Addr) (len1 cap1 : Nat) (z1 : List Int) (w : World) (w0 : (Lit.int .i64 a0).wf = true) (w1 : IsRow .i64 w a1 len1 cap1 z1) :
    Calls Try.prog 4 #[.int .i64 a0, .slice a1 len1 cap1] w fun e w' => e = .returned (.bool true) ∧ Grown w w' := by
  have hk := keys_open w1
  clear w0 w1
  have nw := fun w => new_b 16 a0 w 2 (by omega) (by decide)
  unfold ptr at nw
  by_cases hl : len1 ≤ 200
  · have hd3 : decide (200 < (len1 : Int)) = false := by rw [decide_eq_false_iff_not]; omega
    have hk' : Hid (len1 = 0) ∨ ∃ b off, a1 = some ⟨b, off, none⟩ ∧ b < w.heap.size ∧ ∀ i, i < len1 → w.cell? ⟨b, off + i, none⟩ = some (.int .i64 (z1.getD i 0)) := hk
    clear hk
    rcases hk' with HL | ⟨kb, off, rfl, hkb, hcell⟩
    all_goals
      go_enter Try.func4, Try.ntmps4
      go_wp2_with (first | (go_at_call 7; refine (dSmall_any _).mono ?_; rintro e ws ⟨rfl, hgs⟩) | (go_at_call 8; refine (nw _).mono ?_; rintro e wx ⟨rfl, hx, hgx⟩))
      have hg := grownTrans hgs hgx
      obtain ⟨B, hB⟩ : ∃ B, B = ws.heap.size := ⟨_, rfl⟩
      have HB : Hid (w.heap.size ≤ B) := by rw [hB]; exact hgs.2.2
      rw [← hB] at hx ⊢
      clear hB nw hgs hgx
      go_loopw [7] (fun i wr => ∃ (k : Nat) (s : Nat → Bool), k ≤ len1 ∧ i = .int .i64 k ∧ Drb wr B a0 2 s ∧ Grown w wr ∧ There z1 a0 2 s k) (fun i _ => len1 - (intOf i).toNat)
      case atStart => exact ⟨0, noS, by omega, rfl, hx, hg, fun i hi => by omega⟩
      case round =>
        clear hx hg
        obtain ⟨k, s, hk, rfl, hs, hg, hth⟩ := hrel
        by_cases hlt : k < len1
        · first
          | exact absurd hlt (by have := HL.out; omega)
          | (have hd : decide ((k : Int) < (len1 : Int)) = true := by rw [decide_eq_true_eq]; omega
             have hth' := there_next hth
             have ck := keys_cell (hcell k hlt) hkb hg
             obtain ⟨key, hkey⟩ : ∃ key, key = z1.getD k 0 := ⟨_, rfl⟩
             have ck3 : ∀ W, Grown w W → W.cell? ⟨kb, off + k, none⟩ = some (.int .i64 key) := fun W g => by rw [hkey]; exact keys_cell (hcell k hlt) hkb g
             rw [← hkey] at hth' ck
             clear hkey
             obtain ⟨x, hx⟩ : ∃ x, x = mixB a0 key := ⟨_, rfl⟩
             rw [← hx] at hth'
             have on1 := ones_b hs (by omega)
             have hs1 := has_b hs (by omega) (by omega) key
             have pt := fun W (h : Drb W B a0 2 s) => put_b h (by omega) (by omega) key
             rw [← hx] at hs1
             simp only [← hx] at pt
             obtain ⟨s', hs'⟩ : ∃ s', s' = putS s x 2 := ⟨_, rfl⟩
             have cp := cn_put s x 2 (by omega)
             obtain ⟨had, hhad⟩ : ∃ had, had = hasS s x 2 := ⟨_, rfl⟩
             rw [← hhad, ← hs'] at cp
             rw [← hhad] at hs1
             simp only [← hhad, ← hs'] at pt
             rw [← hs'] at hth'
             have on2 := fun W (h : Drb W B a0 2 s') => ones_b h (by omega)
             have hcl := cn_le s (64 * 2)
             obtain ⟨N, hN⟩ : ∃ N, N = cn s (64 * 2) := ⟨_, rfl⟩
             obtain ⟨N', hN'⟩ : ∃ N', N' = cn s' (64 * 2) := ⟨_, rfl⟩
             rw [← hN, ← hN'] at cp
             rw [← hN] at on1 hcl
             simp only [← hN'] at on2
             have hcase : (had = true ∧ (N' : Int) = N) ∨ (had = false ∧ (N : Int) < N') := by
               cases had with
               | true => exact Or.inl ⟨rfl, by have := cp.1 rfl; omega⟩
               | false => exact Or.inr ⟨rfl, by have := cp.2.1 rfl; omega⟩
             have hle : (N' : Int) ≤ N + 2 := by have := cp.2.2.2; omega
             have HS : Hid (Drb wr B a0 2 s) := hs
             have HT : Hid (There z1 a0 2 s' (k + 1)) := hth'
             have hd5 : decide ((N' : Int) < (N : Int)) = false := by rw [decide_eq_false_iff_not]; omega
             have hd6 : decide ((N : Int) + 2 < (N' : Int)) = false := by rw [decide_eq_false_iff_not]; omega
             have T : Hid True := trivial
             clear hN hN' hs' hhad cp hth hth' hs hx
             unfold ptr at on1 on2 hs1 pt
             rcases hcase with ⟨rfl, he⟩ | ⟨rfl, he⟩
             · obtain rfl : N' = N := by omega
               clear he
               go_wp2_with (first | (go_at_call 15; clear T; refine on1.mono ?_; rintro e w' ⟨rfl, hw⟩; have hw := hw.symm; subst hw) | (go_at_call 17; refine hs1.mono ?_; rintro e w2 ⟨rfl, hg2⟩; have hgg2 := grownTrans hg hg2; have ck2 := ck3 _ hgg2) | (go_at_call 13; refine (pt _ (HS.out.grown hg2)).mono ?_; rintro e w3 ⟨rfl, hs3, ho3⟩) | (go_at_call 15; refine (on2 _ hs3).mono ?_; rintro e w' ⟨rfl, hw⟩; have hw := hw.symm; subst hw))
               have hg3 := ho3.grown hgg2 HB.out
               clear on1 on2 hs1 pt HS hg hg2 hgg2 ho3 ck ck2 ck3
               go_loopw [10] (fun i wi => ∃ t : Nat, t ≤ k + 1 ∧ i = .int .i64 t ∧ Drb wi B a0 2 s' ∧ Grown w wi) (fun i _ => k + 1 - (intOf i).toNat)
               case atStart => exact ⟨0, by omega, rfl, hs3, hg3⟩
               case round =>
                 clear hs3 hg3
                 obtain ⟨t, ht, rfl, hs, hg⟩ := hrel
                 by_cases htl : t < k + 1
                 · have ct := keys_cell (hcell t (by omega)) hkb hg
                   have hh := has_b hs (by omega) (by omega) (z1.getD t 0)
                   rw [HT.out t htl] at hh
                   unfold ptr at hh
                   go_wp2_with (first | (go_at_call 17; refine hh.mono ?_; rintro e w4 ⟨rfl, hg4⟩))
                   go_roundw
                   case rel => exact ⟨t + 1, by omega, by go_num, hs.grown hg4, grownTrans hg hg4⟩
                   case measure => simp [intOf]; omega
                 · obtain rfl : t = k + 1 := by omega
                   have hd2 : decide (((k + 1 : Nat) : Int) ≤ (k : Int)) = false := by rw [decide_eq_false_iff_not]; omega
                   go_wp2
                   go_roundw
                   case rel => exact ⟨k + 1, s', by omega, by go_num, hs, hg, HT.out⟩
                   case measure => simp [intOf]; omega
             · have hd7 : ((N' : Int) == (N : Int)) = false := by rw [beq_eq_false_iff_ne]; omega
               have hn1 : N ≤ N' := by omega
               have hn2 : N' ≤ N + 2 := by omega
               have hd8 : decide (N' < N) = false := by rw [decide_eq_false_iff_not]; omega
               clear he
               go_wp2_with (first | (go_at_call 15; clear T; refine on1.mono ?_; rintro e w' ⟨rfl, hw⟩; have hw := hw.symm; subst hw) | (go_at_call 17; refine hs1.mono ?_; rintro e w2 ⟨rfl, hg2⟩; have hgg2 := grownTrans hg hg2; have ck2 := ck3 _ hgg2) | (go_at_call 13; refine (pt _ (HS.out.grown hg2)).mono ?_; rintro e w3 ⟨rfl, hs3, ho3⟩) | (go_at_call 15; refine (on2 _ hs3).mono ?_; rintro e w' ⟨rfl, hw⟩; have hw := hw.symm; subst hw))
               have hg3 := ho3.grown hgg2 HB.out
               clear on1 on2 hs1 pt HS hg hg2 hgg2 ho3 ck ck2 ck3
               go_loopw [10] (fun i wi => ∃ t : Nat, t ≤ k + 1 ∧ i = .int .i64 t ∧ Drb wi B a0 2 s' ∧ Grown w wi) (fun i _ => k + 1 - (intOf i).toNat)
               case atStart => exact ⟨0, by omega, rfl, hs3, hg3⟩
               case round =>
                 clear hs3 hg3
                 obtain ⟨t, ht, rfl, hs, hg⟩ := hrel
                 by_cases htl : t < k + 1
                 · have ct := keys_cell (hcell t (by omega)) hkb hg
                   have hh := has_b hs (by omega) (by omega) (z1.getD t 0)
                   rw [HT.out t htl] at hh
                   unfold ptr at hh
                   go_wp2_with (first | (go_at_call 17; refine hh.mono ?_; rintro e w4 ⟨rfl, hg4⟩))
                   go_roundw
                   case rel => exact ⟨t + 1, by omega, by go_num, hs.grown hg4, grownTrans hg hg4⟩
                   case measure => simp [intOf]; omega
                 · obtain rfl : t = k + 1 := by omega
                   have hd2 : decide (((k + 1 : Nat) : Int) ≤ (k : Int)) = false := by rw [decide_eq_false_iff_not]; omega
                   go_wp2
                   go_roundw
                   case rel => exact ⟨k + 1, s', by omega, by go_num, hs, hg, HT.out⟩
                   case measure => simp [intOf]; omega)
        · obtain rfl : k = len1 := by omega
          clear hth
          go_wp2_with (first | (go_at_call 11; refine (clear_b hs (by omega)).mono ?_; rintro e w2 ⟨rfl, hs2, ho2⟩))
          have hg2 := ho2.grown hg HB.out
          clear hs hg ho2
          go_loopw [11] (fun i wi => ∃ t : Nat, t ≤ k ∧ i = .int .i64 t ∧ Drb wi B a0 2 noS ∧ Grown w wi) (fun i _ => k - (intOf i).toNat)
          case atStart => exact ⟨0, by omega, rfl, hs2, hg2⟩
          case round =>
            clear hs2 hg2
            obtain ⟨t, ht, rfl, hs, hg⟩ := hrel
            by_cases htl : t < k
            · first
              | exact absurd htl (by have := HL.out; omega)
              | (have ct := keys_cell (hcell t (by omega)) hkb hg
                 have hh := has_b hs (by omega) (by omega) (z1.getD t 0)
                 rw [hasS_no] at hh
                 unfold ptr at hh
                 go_wp2_with (first | (go_at_call 17; refine hh.mono ?_; rintro e w4 ⟨rfl, hg4⟩))
                 go_roundw
                 case rel => exact ⟨t + 1, by omega, by go_num, hs.grown hg4, grownTrans hg hg4⟩
                 case measure => simp [intOf]; omega)
            · obtain rfl : t = k := by omega
              have oo := ones_b hs (by omega)
              rw [show cn noS (64 * 2) = 0 from cn_off _] at oo
              unfold ptr at oo
              go_wp2_with (first | (go_at_call 15; refine oo.mono ?_; rintro e w' ⟨rfl, hw⟩; have hw := hw.symm; subst hw))
              go_ret
              exact ⟨rfl, hg⟩
  · have hd3 : decide (200 < (len1 : Int)) = true := by rw [decide_eq_true_eq]; omega
    clear hk
    go_enter Try.func4, Try.ntmps4
    go_wp2_with (first | (go_at_call 7; refine (dSmall_any _).mono ?_; rintro e ws ⟨rfl, hgs⟩) | (go_at_call 8; refine (nw _).mono ?_; rintro e wx ⟨rfl, hx, hgx⟩))
    go_ret
    exact ⟨rfl, grownTrans hgs hgx⟩

/-! ### THE ROW's STEP: WRITTEN OUT: LEAVE IT -/
set_option maxRecDepth 100000 in
theorem lifted (os : Os) (started : os.Started) (H : Type) (enc : TypeId × Value → H) :
    ReturnsInHanded {} Try.checked os 4 .any (Rows.doorHoldsSpec.pre6 enc Try.prog Try.f4 Rows.doorHoldsRow.domain false) (Rows.doorHoldsSpec.post enc Try.prog Try.f4 false true false false) := by
  refine returnsInHanded_of_change (C := Try.checked) own started (by kernel_rfl) Try.func4
    (ChangeSpec.witness6 (enc := enc) (C := Try.checked) false ⟨#[], #[.int .i64 0, .slice none 0 0], []⟩ 8 (by kernel_rfl) (by kernel_rfl) (by kernel_rfl) (by kernel_rfl)) ?_
  intro W base args ds gs before hval0 hW hcnd _
  have hval : ∀ (j : Nat) t v, Try.f4.params[j]? = some t → args[j]? = some v → Value.okWide Try.prog W .any base t v := hval0
  have hW' := hW
  obtain ⟨p, q, hA0, hV, rfl, hfz, hnd⟩ := hW
  have hA : DataW.TrodAll enc Try.prog W 0 (fun _ => true) true Try.f4.params.toList args.toList ds p := hA0
  rw [Try.params4] at hA hval
  obtain ⟨v0, vs0, d0, ds0, p0, q0, hargs, rfl, rfl, h0, r0⟩ := trodAll_cons hA
  obtain ⟨v1, vs1, d1, ds1, p1, q1, rfl, rfl, rfl, h1, r1⟩ := trodAll_cons r0
  obtain ⟨rfl, rfl, rfl⟩ := trodAll_nil r1
  obtain rfl : args = #[v0, v1] := by cases args; simp_all
  obtain ⟨rfl, rfl⟩ := trodVars_none hV
  obtain ⟨a0, rfl, rfl, rfl, w0⟩ := open_int Try.underlying3 (hval 0 3 v0 rfl rfl) h0
  obtain ⟨a1, len1, cap1, rfl⟩ := okWide_slice Try.underlying22 (hval 1 22 v1 rfl rfl)
  have k1 := h1
  have lt1 : ∀ x ∈ p1, x.block < W.heap.size := by obtain ⟨m, hm⟩ := k1; exact DataW.trod_lt m _ _ _ hm
  obtain ⟨z1, w1⟩ : ∃ zs, IsRow .i64 W a1 len1 cap1 zs := by
    obtain ⟨fuel, hf⟩ := h1
    rcases open_ints Try.underlying22 Try.underlying3 (by kernel_rfl) hf with ⟨hcs, _⟩ | ⟨x, l, c, zs, hcs, _, hl, hm, hz, _, hcell, hwz⟩
    · simp [Value.cells] at hcs
      obtain ⟨rfl, rfl, rfl⟩ := hcs
      exact ⟨[], .inl ⟨rfl, rfl, rfl, rfl⟩⟩
    · simp [Value.cells] at hcs
      obtain ⟨rfl, rfl, rfl⟩ := hcs
      exact ⟨zs, .inr ⟨_, rfl, hl, hm, by simpa using hz, hcell, hwz⟩⟩
  clear hA0 hval0
  refine (walk a0 a1 len1 cap1 z1 W w0 w1).mono fun e W' ⟨he, bel⟩ => ?_
  subst he
  exact ⟨_, rfl, _, _, _, [], _, [], hW', trodAll_mk1 (shut_bool Try.underlying4 _), (trodAll_cons_mk (shut_int Try.underlying3 w0) (trodAll_cons_mk (grown_trod laidOut (by kernel_rfl) (of_decide_eq_true (by kernel_rfl)) k1 bel lt1) trodAll_mk0)), rfl, bel.frame _, fun h => by cases h⟩

theorem over : Rows.doorHoldsRow.holds Try.pinned (OpenSpec.ofChange Rows.doorHoldsSpec) :=
  OpenClaim.holds_of_wide 4 Try.f4 rfl rfl rfl rfl rfl rfl rfl ⟨rfl, rfl, rfl, rfl, rfl⟩ rfl rfl rfl rfl rfl (by kernel_rfl) Try.func4 (by kernel_rfl)
    (of_decide_eq_true (by kernel_rfl)) (by unfold Func.isWrapper; first | (rw [if_pos (by decide +kernel)]; kernel_rfl) | (rw [if_neg (by decide +kernel)]; exact ⟨rfl, rfl⟩))
    (fun os started H enc _ => lifted os started H enc)

/-- ████ THE STATEMENT ████ -/
theorem proved : Rows.DoorHoldsSaid := over
end Go.Proofs.Ytmhmoonjejillaa.doorHolds

namespace Go.Proofs.Ytmhmoonjejillaa
/-- The given statement. -/
theorem doorHolds_holds : Rows.DoorHoldsSaid := doorHolds.proved
#print axioms doorHolds_holds
end Go.Proofs.Ytmhmoonjejillaa
