/-
  Proved: pantrylaw03.SketchCounts returns true for every seed and every slice of keys: a key counts no less than it was added, up to 15, as long as nothing is halved, and counts do not get less (P3.3). No condition.
-/
import Derived.Test.YtifhohhdoplbnaaRows
import Derived.WalkKit
import Derived.ProofKit
import Derived.OpenShut
import Derived.Test.YtifhohhdoplbnaaSkKeys
import Derived.ShutString
import Derived.ChangeOld
import Derived.Below
namespace Go.Proofs.Ytifhohhdoplbnaa.sketchCounts
open Go.ChangeShapes Go.WideShapes Go.ChangeAt Go.RowKit
open Go.ChangeMaps (open_string shut_string)
set_option linter.unusedVariables false

theorem own : ownKnob Try.prog.godebug = none := by kernel_rfl
theorem laidOut : laidOutB Try.prog = true := by kernel_rfl

/-- WHAT THE WALK IS TOLD OF A SLICE OF INTEGERS THAT CAME IN: it is nil; or it leads to a row of 'cap' cells, the numbers 'zs' (the first 'len' are its elements, the rest its spare room), each fitting its kind. -/
def IsRow (k : IntKind) (w : World) (a : Option Addr) (len cap : Nat) (zs : List Int) : Prop :=
  (a = none ∧ len = 0 ∧ cap = 0 ∧ zs = []) ∨
  ∃ x, a = some x ∧ len ≤ cap ∧ cap ≤ maxLen ∧ zs.length = cap ∧ (∀ i, i < zs.length → w.cell? (x.add i) = some (.int k (zs.getD i 0))) ∧ ∀ n ∈ zs, (Lit.int k n).wf = true

/-! ### STEP 1: THE WALK: the Go text returns true, AND WRITES NOTHING THAT WAS THERE: 'Below w.heap.size w w'' (Derived/Below.lean: '.refl', '.alloc', '.drew', '.setCell' at a new block, '.trans'). Open each 'IsRow' by 'rcases' AHEAD of 'go_enter'; part every test ahead of the walk. -/
set_option maxRecDepth 20000 in set_option maxHeartbeats 4000000 in
theorem walk (a0 : Int) (a1 : Option Addr) (len1 cap1 : Nat) (z1 : List Int) (w : World) (w0 : (Lit.int .i64 a0).wf = true) (w1 : IsRow .i64 w a1 len1 cap1 z1) :
    Calls Try.prog 4 #[.int .i64 a0, .slice a1 len1 cap1] w fun e w' => e = .returned (.bool true) ∧ Grown w w' := by
  have hk := keys_open w1
  clear w0 w1
  have nw := fun w => new_c 64 a0 w 4 (by omega) (by decide)
  unfold ptr at nw
  by_cases hl : len1 ≤ 300
  · have hd3 : decide (300 < (len1 : Int)) = false := by rw [decide_eq_false_iff_not]; omega
    rcases hk with rfl | ⟨kb, off, rfl, hkb, hcell⟩
    · go_enter Try.func4, Try.ntmps4
      go_wp2_with (first | (go_at_call 7; refine (small_any _).mono ?_; rintro e ws ⟨rfl, hgs⟩) | (go_at_call 8; refine (nw _).mono ?_; rintro e w1 ⟨rfl, hs, hg⟩; replace hg := grownTrans hgs hg))
      go_loopw [7] (fun i wr => i = .int .i64 0 ∧ wr = w1) (fun _ _ => 0)
      case atStart => exact ⟨rfl, rfl⟩
      case round =>
        obtain ⟨rfl, rfl⟩ := hrel
        go_wp2_with (first | (go_at_call 18; refine (samples_c hs).mono ?_; rintro e w' ⟨rfl, rfl⟩))
        go_ret
        exact ⟨rfl, hg⟩
    · go_enter Try.func4, Try.ntmps4
      go_wp2_with (first | (go_at_call 7; refine (small_any _).mono ?_; rintro e ws ⟨rfl, hgs⟩) | (go_at_call 8; refine (nw _).mono ?_; rintro e w1 ⟨rfl, hs, hg⟩; replace hg := grownTrans hgs hg))
      obtain ⟨B, hB⟩ : ∃ B, B = ws.heap.size := ⟨_, rfl⟩
      have HB : Hid (w.heap.size ≤ B) := by rw [hB]; exact hgs.2.2
      rw [← hB] at hs ⊢
      clear hB nw
      go_loopw [7] (fun i wr => ∃ (k : Nat) (n : Int) (c : Nat → Nat → Int), k ≤ len1 ∧ i = .int .i64 k ∧ Skc wr B a0 n 4 c ∧ Grown w wr ∧ Told z1 a0 4 c k ∧ 0 ≤ n ∧ n ≤ k) (fun i _ => len1 - (intOf i).toNat)
      case atStart => exact ⟨0, 0, _, by omega, rfl, hs, hg, told_zero z1 a0 4, by omega, by omega⟩
      case round =>
        clear hs hg
        obtain ⟨k, n, c, hk, rfl, hs, hg, hT, hn0, hn1⟩ := hrel
        by_cases hlt : k < len1
        · obtain ⟨key, hkey⟩ : ∃ key, key = z1.getD k 0 := ⟨_, rfl⟩
          have hck := hcell k hlt
          rw [← hkey] at hck
          have ck := keys_cell hck hkb hg
          obtain ⟨F, hF⟩ : ∃ F : Int → Int, F = fun y => leastK (kc c (mixB a0 y) 4) 4 := ⟨_, rfl⟩
          obtain ⟨c', hc'⟩ : ∃ c', c' = incC c (mixB a0 key) 4 := ⟨_, rfl⟩
          obtain ⟨F', hF'⟩ : ∃ F' : Int → Int, F' = fun y => leastK (kc c' (mixB a0 y) 4) 4 := ⟨_, rfl⟩
          have cn : ∀ y, Calls Try.prog 14 #[ptr B, .int .i64 y] wr fun e w' => e = .returned (.int .i64 (F y)) ∧ w' = wr := fun y => by rw [hF]; exact count_c hs (by omega) (by omega) y
          have cn' : ∀ (W : World) (n' : Int) (y : Int), Skc W B a0 n' 4 c' → Calls Try.prog 14 #[ptr B, .int .i64 y] W fun e w' => e = .returned (.int .i64 (F' y)) ∧ w' = W := fun W n' y h => by rw [hF']; exact count_c h (by omega) (by omega) y
          have ad := add_few hs (by omega) (by omega) hn0 (by omega) key
          have hT' := hT.next hs (by omega)
          rw [← hkey] at hT'
          rw [← hc'] at ad hT'
          have HT : Hid (Told z1 a0 4 c' (k + 1)) := hT'
          have HF : Hid (F' key = up (F key) ∧ min (occ z1 key (k + 1)) 15 ≤ F' key ∧ F k ≤ F' k ∧ 0 ≤ F key ∧ F key ≤ 15 ∧ 0 ≤ F k) := by
            refine ⟨?_, ?_, ?_, ?_⟩
            · rw [hF', hF, hc']; exact least_self _ _ _
            · rw [hF']; exact hT' key
            · rw [hF', hF, hc']; exact least_le _ _ _ _
            · rw [hF]
              have b1 := hs.count_bd (by omega) (mixB a0 key)
              have b2 := hs.count_bd (by omega) (mixB a0 (k : Int))
              exact ⟨b1.1, b1.2, b2.1⟩
          have HB' : Hid (∀ (W : World) (n' : Int), Skc W B a0 n' 4 c' → F' k ≤ 15) := fun W n' h => by rw [hF']; exact (h.count_bd (by omega) _).2
          have HK : Hid (key = z1.getD k 0) := hkey
          have hd : decide ((k : Int) < (len1 : Int)) = true := by rw [decide_eq_true_eq]; omega
          clear hF hF' hc' hT hT' hkey hs hck
          unfold ptr at cn cn' ad
          go_wp2_with (first | (go_at_call 14; refine (cn _).mono ?_; rintro e w' ⟨rfl, hw⟩; have hw := hw.symm; subst hw) | (go_at_call 12; refine ad.mono ?_; rintro e w2 ⟨ok, n', rfl, hs2, ho, hn0', hn1'⟩))
          have hg2 := ho.grown hg HB.out
          clear hg ho ad cn ck
          have HS : Hid (Skc w2 B a0 n' 4 c') := hs2
          clear hs2
          go_loopw [12, 13] (fun nn kk wi => ∃ t d : Nat, t ≤ k + 1 ∧ kk = .int .i64 t ∧ nn = .int .i64 (occ z1 key t) ∧ wi = w2.drewN d) (fun _ kk _ => k + 1 - (intOf kk).toNat)
          case atStart => exact ⟨0, 0, by omega, rfl, rfl, rfl⟩
          case round =>
            obtain ⟨t, d, ht, rfl, rfl, rfl⟩ := hrel
            have ho := occ_bd z1 key t
            have ck2 := keys_cell (hcell k hlt) hkb hg2
            rw [← HK.out] at ck2
            by_cases htl : t < k + 1
            · have ct2 := keys_cell (hcell t (by omega)) hkb hg2
              have hst : occ z1 key (t + 1) = occ z1 key t + if z1.getD t 0 = key then 1 else 0 := rfl
              obtain ⟨v, hv⟩ : ∃ v, v = z1.getD t 0 := ⟨_, rfl⟩
              rw [← hv] at ct2 hst
              clear hv
              by_cases hvk : v = key
              · subst hvk
                rw [if_pos rfl] at hst
                have HST : Hid (occ z1 v (t + 1) = occ z1 v t + 1) := hst
                clear hst
                go_wp2
                go_quiet (fail)
                go_wp2
                go_roundw
                case rel => exact ⟨t + 1, _, by omega, by go_num, by rw [HST.out], rfl⟩
                case measure => simp [intOf]; omega
              · rw [if_neg hvk] at hst
                have hvb : (v == key) = false := by simpa using hvk
                have HST : Hid (occ z1 key (t + 1) = occ z1 key t + 0) := hst
                clear hst
                go_wp2
                go_quiet (fail)
                go_wp2
                go_roundw
                case rel => exact ⟨t + 1, _, by omega, by go_num, by rw [HST.out, Int.add_zero], rfl⟩
                case measure => simp [intOf]; omega
            · obtain rfl : t = k + 1 := by omega
              obtain ⟨e1, e2, e3, e4, e5, e6⟩ := HF.out
              have e7 := HB'.out w2 n' HS.out
              have hsd : Skc (w2.drewN d) B a0 n' 4 c' := HS.out.grown (grownDrewN (Grown.refl _) d)
              have hgd : Grown w (w2.drewN d) := grownDrewN hg2 d
              obtain ⟨No, hNo⟩ : ∃ No, No = occ z1 key (k + 1) := ⟨_, rfl⟩
              rw [← hNo] at e2 ho ⊢
              clear hNo HF HB' ht htl
              have hd2 : decide (((k + 1 : Nat) : Int) ≤ (k : Int)) = false := by rw [decide_eq_false_iff_not]; omega
              unfold up at e1
              have hcase : (F key < 15 ∧ F' key = F key + 1 ∧ ((15 < No ∧ 15 ≤ F key + 1) ∨ (No ≤ 15 ∧ No ≤ F key + 1))) ∨ (F key = 15 ∧ F' key = 15 ∧ ((15 < No ∧ 0 ≤ No) ∨ (No ≤ 15 ∧ 0 ≤ No))) := by
                split at e1 <;> omega
              clear e1 e2
              rcases hcase with ⟨f1, f2, ⟨f3, f4⟩ | ⟨f3, f4⟩⟩ | ⟨f1, f2, ⟨f3, f4⟩ | ⟨f3, f4⟩⟩
              all_goals
                go_wp2_with (first | (go_at_call 14; refine (cn' _ _ _ hsd).mono ?_; rintro e w' ⟨rfl, hw⟩; subst hw))
                go_roundw
                case rel => exact ⟨k + 1, n', c', by omega, by go_num, hsd, hgd, HT.out, hn0', by omega⟩
                case measure => simp [intOf]; omega
        · obtain rfl : k = len1 := by omega
          go_wp2_with (first | (go_at_call 18; refine (samples_c hs).mono ?_; rintro e w' ⟨rfl, rfl⟩))
          go_ret
          exact ⟨rfl, hg⟩
  · have hd : decide (300 < (len1 : Int)) = true := by rw [decide_eq_true_eq]; omega
    clear hk
    go_enter Try.func4, Try.ntmps4
    go_wp2_with (first | (go_at_call 7; refine (small_any _).mono ?_; rintro e ws ⟨rfl, hgs⟩) | (go_at_call 8; refine (nw _).mono ?_; rintro e w1 ⟨rfl, hs, hg⟩; replace hg := grownTrans hgs hg))
    go_ret
    exact ⟨rfl, hg⟩

/-! ### THE ROW's STEP: WRITTEN OUT: LEAVE IT -/
set_option maxRecDepth 100000 in
theorem lifted (os : Os) (started : os.Started) (H : Type) (enc : TypeId × Value → H) :
    ReturnsInHanded {} Try.checked os 4 .any (Rows.sketchCountsSpec.pre6 enc Try.prog Try.f4 Rows.sketchCountsRow.domain false) (Rows.sketchCountsSpec.post enc Try.prog Try.f4 false true false false) := by
  refine returnsInHanded_of_change (C := Try.checked) own started (by kernel_rfl) Try.func4
    (ChangeSpec.witness6 (enc := enc) (C := Try.checked) false ⟨#[], #[.int .i64 0, .slice none 0 0], []⟩ 8 (by kernel_rfl) (by kernel_rfl) (by kernel_rfl) (by kernel_rfl)) ?_
  intro W base args ds gs before hval0 hW hcnd _
  have hval : ∀ (j : Nat) t v, Try.f4.params[j]? = some t → args[j]? = some v → Value.okWide Try.prog W .any base t v := hval0
  have hW' := hW
  obtain ⟨p, q, hA0, hV, rfl, hfz, hnd⟩ := hW
  have hA : DataW.TrodAll enc Try.prog W 0 (fun _ => true) true Try.f4.params.toList args.toList ds p := hA0
  rw [Try.params4] at hA hval
  obtain ⟨v0, vs0, d0, ds0, p0, q0, hargs, rfl, rfl, h0, r0⟩ := trodAll_cons hA
  obtain ⟨v1, vs1, d1, ds1, p1, q1, rfl, rfl, rfl, h1, r1⟩ := trodAll_cons r0
  obtain ⟨rfl, rfl, rfl⟩ := trodAll_nil r1
  obtain rfl : args = #[v0, v1] := by cases args; simp_all
  obtain ⟨rfl, rfl⟩ := trodVars_none hV
  obtain ⟨a0, rfl, rfl, rfl, w0⟩ := open_int Try.underlying3 (hval 0 3 v0 rfl rfl) h0
  obtain ⟨a1, len1, cap1, rfl⟩ := okWide_slice Try.underlying22 (hval 1 22 v1 rfl rfl)
  have k1 := h1
  have lt1 : ∀ x ∈ p1, x.block < W.heap.size := by obtain ⟨m, hm⟩ := k1; exact DataW.trod_lt m _ _ _ hm
  obtain ⟨z1, w1⟩ : ∃ zs, IsRow .i64 W a1 len1 cap1 zs := by
    obtain ⟨fuel, hf⟩ := h1
    rcases open_ints Try.underlying22 Try.underlying3 (by kernel_rfl) hf with ⟨hcs, _⟩ | ⟨x, l, c, zs, hcs, _, hl, hm, hz, _, hcell, hwz⟩
    · simp [Value.cells] at hcs
      obtain ⟨rfl, rfl, rfl⟩ := hcs
      exact ⟨[], .inl ⟨rfl, rfl, rfl, rfl⟩⟩
    · simp [Value.cells] at hcs
      obtain ⟨rfl, rfl, rfl⟩ := hcs
      exact ⟨zs, .inr ⟨_, rfl, hl, hm, by simpa using hz, hcell, hwz⟩⟩
  clear hA0 hval0
  refine (walk a0 a1 len1 cap1 z1 W w0 w1).mono fun e W' ⟨he, bel⟩ => ?_
  subst he
  exact ⟨_, rfl, _, _, _, [], _, [], hW', trodAll_mk1 (shut_bool Try.underlying4 _), (trodAll_cons_mk (shut_int Try.underlying3 w0) (trodAll_cons_mk (grown_trod laidOut (by kernel_rfl) (of_decide_eq_true (by kernel_rfl)) k1 bel lt1) trodAll_mk0)), rfl, bel.frame _, fun h => by cases h⟩

theorem over : Rows.sketchCountsRow.holds Try.pinned (OpenSpec.ofChange Rows.sketchCountsSpec) :=
  OpenClaim.holds_of_wide 4 Try.f4 rfl rfl rfl rfl rfl rfl rfl ⟨rfl, rfl, rfl, rfl, rfl⟩ rfl rfl rfl rfl rfl (by kernel_rfl) Try.func4 (by kernel_rfl)
    (of_decide_eq_true (by kernel_rfl)) (by unfold Func.isWrapper; first | (rw [if_pos (by decide +kernel)]; kernel_rfl) | (rw [if_neg (by decide +kernel)]; exact ⟨rfl, rfl⟩))
    (fun os started H enc _ => lifted os started H enc)

/-- ████ THE STATEMENT ████ -/
theorem proved : Rows.SketchCountsSaid := over
end Go.Proofs.Ytifhohhdoplbnaa.sketchCounts

namespace Go.Proofs.Ytifhohhdoplbnaa
/-- The given statement. -/
theorem sketchCounts_holds : Rows.SketchCountsSaid := sketchCounts.proved
#print axioms sketchCounts_holds
end Go.Proofs.Ytifhohhdoplbnaa
