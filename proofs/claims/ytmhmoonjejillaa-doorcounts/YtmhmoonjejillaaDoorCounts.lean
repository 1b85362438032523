/-
  Proved: pantrylaw04.DoorCounts returns true for every width, every seed and every slice of keys: bits that are on are at most two for each key that came and was not there, no fewer than one, if one came, and no more than the size, which is a power of two (P4.2, P4.4). No condition.
-/
import Derived.Test.YtmhmoonjejillaaRows
import Derived.WalkKit
import Derived.ProofKit
import Derived.OpenShut
import Derived.Test.YtmhmoonjejillaaDrLaws
import Derived.ShutString
import Derived.ChangeOld
import Derived.Below
namespace Go.Proofs.Ytmhmoonjejillaa.doorCounts
open Go.ChangeShapes Go.WideShapes Go.ChangeAt Go.RowKit
open Go.ChangeMaps (open_string shut_string)
set_option linter.unusedVariables false

theorem own : ownKnob Try.prog.godebug = none := by kernel_rfl
theorem laidOut : laidOutB Try.prog = true := by kernel_rfl

/-- WHAT THE WALK IS TOLD OF A SLICE OF INTEGERS THAT CAME IN: it is nil; or it leads to a row of 'cap' cells, the numbers 'zs' (the first 'len' are its elements, the rest its spare room), each fitting its kind. -/
def IsRow (k : IntKind) (w : World) (a : Option Addr) (len cap : Nat) (zs : List Int) : Prop :=
  (a = none ∧ len = 0 ∧ cap = 0 ∧ zs = []) ∨
  ∃ x, a = some x ∧ len ≤ cap ∧ cap ≤ maxLen ∧ zs.length = cap ∧ (∀ i, i < zs.length → w.cell? (x.add i) = some (.int k (zs.getD i 0))) ∧ ∀ n ∈ zs, (Lit.int k n).wf = true

/-! ### STEP 1: THE WALK: the Go text returns true, AND WRITES NOTHING THAT WAS THERE: 'Below w.heap.size w w'' (Derived/Below.lean: '.refl', '.alloc', '.drew', '.setCell' at a new block, '.trans'). Open each 'IsRow' by 'rcases' AHEAD of 'go_enter'; part every test ahead of the walk. -/
set_option maxRecDepth 20000 in set_option maxHeartbeats 8000000 in
theorem walk (a0 : Int) (a1 : Int) (a2 : Option Addr) (len2 cap2 : Nat) (z2 : List Int) (w : World) (w0 : (Lit.int .i64 a0).wf = true) (w1 : (Lit.int .i64 a1).wf = true) (w2 : IsRow .i64 w a2 len2 cap2 z2) :
    Calls Try.prog 6 #[.int .i64 a0, .int .i64 a1, .slice a2 len2 cap2] w fun e w' => e = .returned (.bool true) ∧ Grown w w' := by
  have hk := keys_open w2
  clear w0 w1 w2
  by_cases hl : a0 ≤ 1024 ∧ len2 ≤ 200
  · obtain ⟨hl0, hl⟩ := hl
    obtain ⟨m, m1, m2, hm, hP⟩ := words_of a0
    have nw := fun w => new_b a0 a1 w m m2 hm
    have hpw := size_pow m m1 m2 hP
    unfold ptr at nw
    clear hm hP
    have hd3 : decide (200 < (len2 : Int)) = false := by rw [decide_eq_false_iff_not]; omega
    have hd4 : decide (1024 < a0) = false := by rw [decide_eq_false_iff_not]; omega
    have hk' : Hid (len2 = 0) ∨ ∃ b off, a2 = some ⟨b, off, none⟩ ∧ b < w.heap.size ∧ ∀ i, i < len2 → w.cell? ⟨b, off + i, none⟩ = some (.int .i64 (z2.getD i 0)) := hk
    clear hk
    rcases hk' with HL | ⟨kb, off, rfl, hkb, hcell⟩
    all_goals
      go_enter Try.func6, Try.ntmps6
      go_wp2_with (first | (go_at_call 7; refine (dSmall_any _).mono ?_; rintro e ws ⟨rfl, hgs⟩) | (go_at_call 8; refine (nw _).mono ?_; rintro e wx ⟨rfl, hx, hgx⟩))
      have hg := grownTrans hgs hgx
      obtain ⟨B, hB⟩ : ∃ B, B = ws.heap.size := ⟨_, rfl⟩
      have HB : Hid (w.heap.size ≤ B) := by rw [hB]; exact hgs.2.2
      rw [← hB] at hx ⊢
      clear hB nw hgs hgx
      go_loopw [9, 10] (fun fr i wr => ∃ (k n : Nat) (s : Nat → Bool), k ≤ len2 ∧ i = .int .i64 k ∧ fr = .int .i64 n ∧ Drb wr B a1 m s ∧ Grown w wr ∧ n ≤ k ∧ cn s (64 * m) ≤ 2 * n) (fun _ i _ => len2 - (intOf i).toNat)
      case atStart => exact ⟨0, 0, noS, by omega, rfl, rfl, hx, hg, by omega, by rw [show cn noS (64 * m) = 0 from cn_off _]; omega⟩
      case round =>
        clear hx hg
        obtain ⟨k, n, s, hk, rfl, rfl, hs, hg, hn, hc⟩ := hrel
        by_cases hlt : k < len2
        · first
          | exact absurd hlt (by have := HL.out; omega)
          | (have ck := keys_cell (hcell k hlt) hkb hg
             obtain ⟨key, hkey⟩ : ∃ key, key = z2.getD k 0 := ⟨_, rfl⟩
             rw [← hkey] at ck
             clear hkey
             have pt := put_b hs (by omega) m2 key
             obtain ⟨s', hs'⟩ : ∃ s', s' = putS s (mixB a1 key) m := ⟨_, rfl⟩
             have cp := cn_put s (mixB a1 key) m (by omega)
             have cpos := cn_put_pos s (mixB a1 key) m (by omega)
             have cle := cn_le s' (64 * m)
             obtain ⟨had, hhad⟩ : ∃ had, had = hasS s (mixB a1 key) m := ⟨_, rfl⟩
             rw [← hs'] at cp cpos
             rw [← hhad] at cp
             rw [← hhad, ← hs'] at pt
             have on' : ∀ W, Drb W B a1 m s' → Calls Try.prog 15 #[ptr (B + 1)] W fun e w' => e = .returned (.int .i64 (cn s' (64 * m) : Nat)) ∧ w' = W := fun W h => ones_b h m2
             have sz : ∀ W, Drb W B a1 m s' → Calls Try.prog 10 #[ptr (B + 1)] W fun e w' => e = .returned (.int .i64 (64 * (m : Int))) ∧ w' = W := fun W h => size_b h m2
             obtain ⟨N, hN⟩ : ∃ N, N = cn s (64 * m) := ⟨_, rfl⟩
             obtain ⟨N', hN'⟩ : ∃ N', N' = cn s' (64 * m) := ⟨_, rfl⟩
             rw [← hN, ← hN'] at cp
             rw [← hN'] at cpos cle
             rw [← hN] at hc
             simp only [← hN'] at on'
             have HN : Hid (N' = cn s' (64 * m)) := hN'
             have hcase : (had = true ∧ N' ≤ 2 * n) ∨ (had = false ∧ N' ≤ 2 * n + 2) := by
               cases had with
               | true => exact Or.inl ⟨rfl, by have := cp.1 rfl; omega⟩
               | false => exact Or.inr ⟨rfl, by have := cp.2.2.2; omega⟩
             have hd5 : decide ((N' : Int) < 1) = false := by rw [decide_eq_false_iff_not]; omega
             have hd6 : decide (64 * (m : Int) < (N' : Int)) = false := by rw [decide_eq_false_iff_not]; omega
             clear hN hN' hs' hhad cp hc hs hpw
             unfold ptr at pt on' sz
             rcases hcase with ⟨rfl, hle⟩ | ⟨rfl, hle⟩
             · have hd7 : decide (2 * (n : Int) < (N' : Int)) = false := by rw [decide_eq_false_iff_not]; omega
               go_wp2_with (first | (go_at_call 13; refine pt.mono ?_; rintro e w2 ⟨rfl, hs2, ho2⟩) | (go_at_call 15; refine (on' _ hs2).mono ?_; rintro e w' ⟨rfl, hw⟩; have hw := hw.symm; subst hw) | (go_at_call 10; refine (sz _ hs2).mono ?_; rintro e w' ⟨rfl, hw⟩; have hw := hw.symm; subst hw))
               go_roundw
               case rel => exact ⟨k + 1, n, s', by omega, by go_num, rfl, hs2, ho2.grown hg HB.out, by omega, by rw [← HN.out]; omega⟩
               case measure => simp [intOf]; omega
             · have hd7 : decide (2 * ((n : Int) + 1) < (N' : Int)) = false := by rw [decide_eq_false_iff_not]; omega
               go_wp2_with (first | (go_at_call 13; refine pt.mono ?_; rintro e w2 ⟨rfl, hs2, ho2⟩) | (go_at_call 15; refine (on' _ hs2).mono ?_; rintro e w' ⟨rfl, hw⟩; have hw := hw.symm; subst hw) | (go_at_call 10; refine (sz _ hs2).mono ?_; rintro e w' ⟨rfl, hw⟩; have hw := hw.symm; subst hw))
               go_roundw
               case rel => exact ⟨k + 1, n + 1, s', by omega, by go_num, by go_num, hs2, ho2.grown hg HB.out, by omega, by rw [← HN.out]; omega⟩
               case measure => simp [intOf]; omega)
        · obtain rfl : k = len2 := by omega
          have sz := size_b hs m2
          unfold ptr at sz
          have hd5 : decide (128 ≤ 64 * (m : Int)) = true := by rw [decide_eq_true_eq]; omega
          go_wp2_with (first | (go_at_call 10; refine sz.mono ?_; rintro e w' ⟨rfl, hw⟩; have hw := hw.symm; subst hw))
          go_ret
          exact ⟨rfl, hg⟩
  · have hl' : 1024 < a0 ∨ (a0 ≤ 1024 ∧ 200 < len2) := by omega
    clear hl hk
    rcases hl' with hl | ⟨hl, hl'⟩
    · have hd3 : decide (1024 < a0) = true := by rw [decide_eq_true_eq]; omega
      go_enter Try.func6, Try.ntmps6
      go_wp2_with (first | (go_at_call 7; refine (dSmall_any _).mono ?_; rintro e ws ⟨rfl, hgs⟩))
      go_ret
      exact ⟨rfl, hgs⟩
    · have hd3 : decide (1024 < a0) = false := by rw [decide_eq_false_iff_not]; omega
      have hd4 : decide (200 < (len2 : Int)) = true := by rw [decide_eq_true_eq]; omega
      go_enter Try.func6, Try.ntmps6
      go_wp2_with (first | (go_at_call 7; refine (dSmall_any _).mono ?_; rintro e ws ⟨rfl, hgs⟩))
      go_ret
      exact ⟨rfl, hgs⟩

/-! ### THE ROW's STEP: WRITTEN OUT: LEAVE IT -/
set_option maxRecDepth 100000 in
theorem lifted (os : Os) (started : os.Started) (H : Type) (enc : TypeId × Value → H) :
    ReturnsInHanded {} Try.checked os 6 .any (Rows.doorCountsSpec.pre6 enc Try.prog Try.f6 Rows.doorCountsRow.domain false) (Rows.doorCountsSpec.post enc Try.prog Try.f6 false true false false) := by
  refine returnsInHanded_of_change (C := Try.checked) own started (by kernel_rfl) Try.func6
    (ChangeSpec.witness6 (enc := enc) (C := Try.checked) false ⟨#[], #[.int .i64 0, .int .i64 0, .slice none 0 0], []⟩ 8 (by kernel_rfl) (by kernel_rfl) (by kernel_rfl) (by kernel_rfl)) ?_
  intro W base args ds gs before hval0 hW hcnd _
  have hval : ∀ (j : Nat) t v, Try.f6.params[j]? = some t → args[j]? = some v → Value.okWide Try.prog W .any base t v := hval0
  have hW' := hW
  obtain ⟨p, q, hA0, hV, rfl, hfz, hnd⟩ := hW
  have hA : DataW.TrodAll enc Try.prog W 0 (fun _ => true) true Try.f6.params.toList args.toList ds p := hA0
  rw [Try.params6] at hA hval
  obtain ⟨v0, vs0, d0, ds0, p0, q0, hargs, rfl, rfl, h0, r0⟩ := trodAll_cons hA
  obtain ⟨v1, vs1, d1, ds1, p1, q1, rfl, rfl, rfl, h1, r1⟩ := trodAll_cons r0
  obtain ⟨v2, vs2, d2, ds2, p2, q2, rfl, rfl, rfl, h2, r2⟩ := trodAll_cons r1
  obtain ⟨rfl, rfl, rfl⟩ := trodAll_nil r2
  obtain rfl : args = #[v0, v1, v2] := by cases args; simp_all
  obtain ⟨rfl, rfl⟩ := trodVars_none hV
  obtain ⟨a0, rfl, rfl, rfl, w0⟩ := open_int Try.underlying3 (hval 0 3 v0 rfl rfl) h0
  obtain ⟨a1, rfl, rfl, rfl, w1⟩ := open_int Try.underlying3 (hval 1 3 v1 rfl rfl) h1
  obtain ⟨a2, len2, cap2, rfl⟩ := okWide_slice Try.underlying22 (hval 2 22 v2 rfl rfl)
  have k2 := h2
  have lt2 : ∀ x ∈ p2, x.block < W.heap.size := by obtain ⟨m, hm⟩ := k2; exact DataW.trod_lt m _ _ _ hm
  obtain ⟨z2, w2⟩ : ∃ zs, IsRow .i64 W a2 len2 cap2 zs := by
    obtain ⟨fuel, hf⟩ := h2
    rcases open_ints Try.underlying22 Try.underlying3 (by kernel_rfl) hf with ⟨hcs, _⟩ | ⟨x, l, c, zs, hcs, _, hl, hm, hz, _, hcell, hwz⟩
    · simp [Value.cells] at hcs
      obtain ⟨rfl, rfl, rfl⟩ := hcs
      exact ⟨[], .inl ⟨rfl, rfl, rfl, rfl⟩⟩
    · simp [Value.cells] at hcs
      obtain ⟨rfl, rfl, rfl⟩ := hcs
      exact ⟨zs, .inr ⟨_, rfl, hl, hm, by simpa using hz, hcell, hwz⟩⟩
  clear hA0 hval0
  refine (walk a0 a1 a2 len2 cap2 z2 W w0 w1 w2).mono fun e W' ⟨he, bel⟩ => ?_
  subst he
  exact ⟨_, rfl, _, _, _, [], _, [], hW', trodAll_mk1 (shut_bool Try.underlying4 _), (trodAll_cons_mk (shut_int Try.underlying3 w0) (trodAll_cons_mk (shut_int Try.underlying3 w1) (trodAll_cons_mk (grown_trod laidOut (by kernel_rfl) (of_decide_eq_true (by kernel_rfl)) k2 bel lt2) trodAll_mk0))), rfl, bel.frame _, fun h => by cases h⟩

theorem over : Rows.doorCountsRow.holds Try.pinned (OpenSpec.ofChange Rows.doorCountsSpec) :=
  OpenClaim.holds_of_wide 6 Try.f6 rfl rfl rfl rfl rfl rfl rfl ⟨rfl, rfl, rfl, rfl, rfl⟩ rfl rfl rfl rfl rfl (by kernel_rfl) Try.func6 (by kernel_rfl)
    (of_decide_eq_true (by kernel_rfl)) (by unfold Func.isWrapper; first | (rw [if_pos (by decide +kernel)]; kernel_rfl) | (rw [if_neg (by decide +kernel)]; exact ⟨rfl, rfl⟩))
    (fun os started H enc _ => lifted os started H enc)

/-- ████ THE STATEMENT ████ -/
theorem proved : Rows.DoorCountsSaid := over
end Go.Proofs.Ytmhmoonjejillaa.doorCounts

namespace Go.Proofs.Ytmhmoonjejillaa
/-- The given statement. -/
theorem doorCounts_holds : Rows.DoorCountsSaid := doorCounts.proved
#print axioms doorCounts_holds
end Go.Proofs.Ytmhmoonjejillaa
