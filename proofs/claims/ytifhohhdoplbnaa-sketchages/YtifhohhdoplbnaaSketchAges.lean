/-
  Proved: pantrylaw03.SketchAges returns true for every seed, every slice of keys and every number: samples stay below Samples times the width, it is halved just there, and Halve halves each count (P3.2, P3.4). No condition.
-/
import Derived.Test.YtifhohhdoplbnaaRows
import Derived.WalkKit
import Derived.ProofKit
import Derived.OpenShut
import Derived.Test.YtifhohhdoplbnaaSkAges
import Derived.ShutString
import Derived.ChangeOld
import Derived.Below
namespace Go.Proofs.Ytifhohhdoplbnaa.sketchAges
open Go.ChangeShapes Go.WideShapes Go.ChangeAt Go.RowKit
open Go.ChangeMaps (open_string shut_string)
set_option linter.unusedVariables false

theorem own : ownKnob Try.prog.godebug = none := by kernel_rfl
theorem laidOut : laidOutB Try.prog = true := by kernel_rfl

/-- WHAT THE WALK IS TOLD OF A SLICE OF INTEGERS THAT CAME IN: it is nil; or it leads to a row of 'cap' cells, the numbers 'zs' (the first 'len' are its elements, the rest its spare room), each fitting its kind. -/
def IsRow (k : IntKind) (w : World) (a : Option Addr) (len cap : Nat) (zs : List Int) : Prop :=
  (a = none ∧ len = 0 ∧ cap = 0 ∧ zs = []) ∨
  ∃ x, a = some x ∧ len ≤ cap ∧ cap ≤ maxLen ∧ zs.length = cap ∧ (∀ i, i < zs.length → w.cell? (x.add i) = some (.int k (zs.getD i 0))) ∧ ∀ n ∈ zs, (Lit.int k n).wf = true

/-! ### STEP 1: THE WALK: the Go text returns true, AND WRITES NOTHING THAT WAS THERE: 'Below w.heap.size w w'' (Derived/Below.lean: '.refl', '.alloc', '.drew', '.setCell' at a new block, '.trans'). Open each 'IsRow' by 'rcases' AHEAD of 'go_enter'; part every test ahead of the walk. -/
set_option maxRecDepth 20000 in set_option maxHeartbeats 8000000 in
theorem walk (a0 : Int) (a1 : Option Addr) (len1 cap1 : Nat) (z1 : List Int) (a2 : Int) (w : World) (w0 : (Lit.int .i64 a0).wf = true) (w1 : IsRow .i64 w a1 len1 cap1 z1) (w2 : (Lit.int .i64 a2).wf = true) :
    Calls Try.prog 5 #[.int .i64 a0, .slice a1 len1 cap1, .int .i64 a2] w fun e w' => e = .returned (.bool true) ∧ Grown w w' := by
  have hk := keys_open w1
  clear w0 w1
  have nw := fun w => new_c 1 a0 w 1 (by omega) (by decide)
  unfold ptr at nw
  by_cases hl : len1 ≤ 300 ∧ 0 ≤ a2 ∧ a2 ≤ 200
  · obtain ⟨hl, ha2, ha2'⟩ := hl
    obtain ⟨more, rfl⟩ : ∃ more : Nat, a2 = more := ⟨a2.toNat, by omega⟩
    have hd3 : decide (300 < (len1 : Int)) = false := by rw [decide_eq_false_iff_not]; omega
    have hd4 : decide ((more : Int) < 0) = false := by rw [decide_eq_false_iff_not]; omega
    have hd5 : decide (200 < (more : Int)) = false := by rw [decide_eq_false_iff_not]; omega
    have hk' : Hid (len1 = 0) ∨ ∃ b off, a1 = some ⟨b, off, none⟩ ∧ b < w.heap.size ∧ ∀ i, i < len1 → w.cell? ⟨b, off + i, none⟩ = some (.int .i64 (z1.getD i 0)) := hk
    clear hk
    rcases hk' with HL | ⟨kb, off, rfl, hkb, hcell⟩
    all_goals
      go_enter Try.func5, Try.ntmps5
      go_wp2_with (first | (go_at_call 7; refine (small_any _).mono ?_; rintro e ws ⟨rfl, hgs⟩) | (go_at_call 8; refine (nw _).mono ?_; rintro e w1 ⟨rfl, hs, hg⟩; replace hg := grownTrans hgs hg))
      obtain ⟨B, hB⟩ : ∃ B, B = ws.heap.size := ⟨_, rfl⟩
      have HB : Hid (w.heap.size ≤ B) := by rw [hB]; exact hgs.2.2
      rw [← hB] at hs ⊢
      clear hB nw
      go_loopw [9] (fun i wr => ∃ (k : Nat) (n : Int) (c : Nat → Nat → Int), k ≤ len1 + more ∧ i = .int .i64 k ∧ Skc wr B a0 n 1 c ∧ Grown w wr ∧ 0 ≤ n ∧ n < 160) (fun i _ => len1 + more - (intOf i).toNat)
      case atStart => exact ⟨0, 0, _, by omega, rfl, hs, hg, by omega, by omega⟩
      case round =>
        clear hs hg
        obtain ⟨k, n, c, hk, rfl, hs, hg, hn0, hn1⟩ := hrel
        by_cases hlt : k < len1 + more
        · have hd : decide ((k : Int) < (len1 : Int) + (more : Int)) = true := by rw [decide_eq_true_eq]; omega
          by_cases hlt2 : k < len1
          · first
            | exact absurd hlt2 (by have := HL.out; omega)
            | (have ck := keys_cell (hcell k hlt2) hkb hg
               have hd2 : decide ((k : Int) < (len1 : Int)) = true := by rw [decide_eq_true_eq]; omega
               obtain ⟨key, hkey⟩ : ∃ key, key = z1.getD k 0 := ⟨_, rfl⟩
               rw [← hkey] at ck
               clear hkey
               have A := add_16 hs hn0 hn1 key
               unfold ptr at A
               rcases A with ⟨rfl, A⟩ | ⟨hn2, hn3, A⟩ | A
               all_goals
                 go_wp2_with (first | (go_at_call 18; refine (samples_c (b := B) (by assumption)).mono ?_; rintro e w' ⟨rfl, hw⟩; subst hw) | (go_at_call 12; refine A.mono ?_; rintro e w2 ⟨rfl, ⟨c', hs2⟩, ho⟩; replace hg := ho.grown hg HB.out; clear ho ck hs))
                 go_roundw
                 case rel => exact ⟨k + 1, _, c', by omega, by go_num, hs2, hg, by omega, by omega⟩
                 case measure => simp [intOf]; omega)
          · have hd2 : decide ((k : Int) < (len1 : Int)) = false := by rw [decide_eq_false_iff_not]; omega
            have A := add_16 hs hn0 hn1 (1000 + (k : Int))
            unfold ptr at A
            rcases A with ⟨rfl, A⟩ | ⟨hn2, hn3, A⟩ | A
            all_goals
              go_wp2_with (first | (go_at_call 18; refine (samples_c (b := B) (by assumption)).mono ?_; rintro e w' ⟨rfl, hw⟩; subst hw) | (go_at_call 12; refine A.mono ?_; rintro e w2 ⟨rfl, ⟨c', hs2⟩, ho⟩; replace hg := ho.grown hg HB.out; clear ho hs))
              go_roundw
              case rel => exact ⟨k + 1, _, c', by omega, by go_num, hs2, hg, by omega, by omega⟩
              case measure => simp [intOf]; omega
        · obtain rfl : k = len1 + more := by omega
          have hd : decide (((len1 + more : Nat) : Int) < (len1 : Int) + (more : Int)) = false := by rw [decide_eq_false_iff_not]; omega
          have HLAST : Hid (B + 4 < wr.heap.size) := hs.last
          have HBD : Hid (∀ j, j < 16 → 0 ≤ c 2 j ∧ c 2 j ≤ 15) := fun j hj => hs.bd (by omega) (by omega)
          go_wp2_with (first | (go_at_call 17; refine (row_i (b := B) hs (by omega) _ (by decide) (by decide)).mono ?_; rintro e wA ⟨rfl, hrA, hgA⟩; have hsA := hs.grown hgA; replace hg := grownTrans hg hgA; clear hs hgA) | (go_at_call 17; refine (row_i (b := B) hsH (by omega) _ (by decide) (by decide)).mono ?_; rintro e wD ⟨rfl, hrD, hgD⟩; replace hg := grownTrans hg hgD; clear hsH) | (go_at_call 10; refine (halve_c (b := B) hsA (by omega) hn0 (by omega)).mono ?_; rintro e wH ⟨rfl, hsH, hoH⟩; replace hg := hoH.grown hg HB.out; clear hsA))
          have hrA' := ages_row HLAST.out hrA hoH hgD
          obtain ⟨RA, hRA⟩ : ∃ RA, RA = wr.heap.size := ⟨_, rfl⟩
          obtain ⟨RD, hRD⟩ : ∃ RD, RD = wH.heap.size := ⟨_, rfl⟩
          obtain ⟨g, hge⟩ : ∃ g : Nat → Int, g = c 2 := ⟨_, rfl⟩
          have HRA : Hid (wD.rowIs RA 3 16 (fun j => .int .i64 (g j))) := by rw [hge, hRA]; exact hrA'
          have HRD : Hid (wD.rowIs RD 3 16 (fun j => .int .i64 (g j / 2))) := by rw [hge, hRD]; exact hrD
          rw [← hRA, ← hRD]
          rw [← hge] at HBD
          clear hrA hrA' hrD hRA hRD hge HLAST hoH hgD
          go_loopw [16] (fun i wq => ∃ t d : Nat, t ≤ 16 ∧ i = .int .i64 t ∧ wq = wD.drewN d) (fun i _ => 16 - (intOf i).toNat)
          case atStart => exact ⟨0, 0, by omega, rfl, rfl⟩
          case round =>
            obtain ⟨t, d, ht, rfl, rfl⟩ := hrel
            by_cases htl : t < 16
            · have r1 := HRA.out.cell htl
              have r2 := HRD.out.cell htl
              have hb := HBD.out t htl
              obtain ⟨hb0, hb1⟩ := hb
              go_wp2
              go_quiet (fail)
              go_wp2
              go_roundw
              case rel => exact ⟨t + 1, _, by omega, by go_num, rfl⟩
              case measure => simp [intOf]; omega
            · obtain rfl : t = 16 := by omega
              go_wp2
              go_ret
              exact ⟨rfl, grownDrewN hg d⟩
  · have hl' : 300 < len1 ∨ (len1 ≤ 300 ∧ a2 < 0) ∨ (len1 ≤ 300 ∧ 0 ≤ a2 ∧ 200 < a2) := by omega
    clear hl hk
    rcases hl' with hl | ⟨hl, hl'⟩ | ⟨hl, hl', hl''⟩
    · have hd3 : decide (300 < (len1 : Int)) = true := by rw [decide_eq_true_eq]; omega
      go_enter Try.func5, Try.ntmps5
      go_wp2_with (first | (go_at_call 7; refine (small_any _).mono ?_; rintro e ws ⟨rfl, hgs⟩) | (go_at_call 8; refine (nw _).mono ?_; rintro e w1 ⟨rfl, hs, hg⟩; replace hg := grownTrans hgs hg))
      go_ret
      exact ⟨rfl, hg⟩
    · have hd3 : decide (300 < (len1 : Int)) = false := by rw [decide_eq_false_iff_not]; omega
      go_enter Try.func5, Try.ntmps5
      go_wp2_with (first | (go_at_call 7; refine (small_any _).mono ?_; rintro e ws ⟨rfl, hgs⟩) | (go_at_call 8; refine (nw _).mono ?_; rintro e w1 ⟨rfl, hs, hg⟩; replace hg := grownTrans hgs hg))
      go_ret
      exact ⟨rfl, hg⟩
    · have hd3 : decide (300 < (len1 : Int)) = false := by rw [decide_eq_false_iff_not]; omega
      go_enter Try.func5, Try.ntmps5
      go_wp2_with (first | (go_at_call 7; refine (small_any _).mono ?_; rintro e ws ⟨rfl, hgs⟩) | (go_at_call 8; refine (nw _).mono ?_; rintro e w1 ⟨rfl, hs, hg⟩; replace hg := grownTrans hgs hg))
      go_ret
      exact ⟨rfl, hg⟩

/-! ### THE ROW's STEP: WRITTEN OUT: LEAVE IT -/
set_option maxRecDepth 100000 in
theorem lifted (os : Os) (started : os.Started) (H : Type) (enc : TypeId × Value → H) :
    ReturnsInHanded {} Try.checked os 5 .any (Rows.sketchAgesSpec.pre6 enc Try.prog Try.f5 Rows.sketchAgesRow.domain false) (Rows.sketchAgesSpec.post enc Try.prog Try.f5 false true false false) := by
  refine returnsInHanded_of_change (C := Try.checked) own started (by kernel_rfl) Try.func5
    (ChangeSpec.witness6 (enc := enc) (C := Try.checked) false ⟨#[], #[.int .i64 0, .slice none 0 0, .int .i64 0], []⟩ 8 (by kernel_rfl) (by kernel_rfl) (by kernel_rfl) (by kernel_rfl)) ?_
  intro W base args ds gs before hval0 hW hcnd _
  have hval : ∀ (j : Nat) t v, Try.f5.params[j]? = some t → args[j]? = some v → Value.okWide Try.prog W .any base t v := hval0
  have hW' := hW
  obtain ⟨p, q, hA0, hV, rfl, hfz, hnd⟩ := hW
  have hA : DataW.TrodAll enc Try.prog W 0 (fun _ => true) true Try.f5.params.toList args.toList ds p := hA0
  rw [Try.params5] at hA hval
  obtain ⟨v0, vs0, d0, ds0, p0, q0, hargs, rfl, rfl, h0, r0⟩ := trodAll_cons hA
  obtain ⟨v1, vs1, d1, ds1, p1, q1, rfl, rfl, rfl, h1, r1⟩ := trodAll_cons r0
  obtain ⟨v2, vs2, d2, ds2, p2, q2, rfl, rfl, rfl, h2, r2⟩ := trodAll_cons r1
  obtain ⟨rfl, rfl, rfl⟩ := trodAll_nil r2
  obtain rfl : args = #[v0, v1, v2] := by cases args; simp_all
  obtain ⟨rfl, rfl⟩ := trodVars_none hV
  obtain ⟨a0, rfl, rfl, rfl, w0⟩ := open_int Try.underlying3 (hval 0 3 v0 rfl rfl) h0
  obtain ⟨a1, len1, cap1, rfl⟩ := okWide_slice Try.underlying22 (hval 1 22 v1 rfl rfl)
  have k1 := h1
  have lt1 : ∀ x ∈ p1, x.block < W.heap.size := by obtain ⟨m, hm⟩ := k1; exact DataW.trod_lt m _ _ _ hm
  obtain ⟨z1, w1⟩ : ∃ zs, IsRow .i64 W a1 len1 cap1 zs := by
    obtain ⟨fuel, hf⟩ := h1
    rcases open_ints Try.underlying22 Try.underlying3 (by kernel_rfl) hf with ⟨hcs, _⟩ | ⟨x, l, c, zs, hcs, _, hl, hm, hz, _, hcell, hwz⟩
    · simp [Value.cells] at hcs
      obtain ⟨rfl, rfl, rfl⟩ := hcs
      exact ⟨[], .inl ⟨rfl, rfl, rfl, rfl⟩⟩
    · simp [Value.cells] at hcs
      obtain ⟨rfl, rfl, rfl⟩ := hcs
      exact ⟨zs, .inr ⟨_, rfl, hl, hm, by simpa using hz, hcell, hwz⟩⟩
  obtain ⟨a2, rfl, rfl, rfl, w2⟩ := open_int Try.underlying3 (hval 2 3 v2 rfl rfl) h2
  clear hA0 hval0
  refine (walk a0 a1 len1 cap1 z1 a2 W w0 w1 w2).mono fun e W' ⟨he, bel⟩ => ?_
  subst he
  exact ⟨_, rfl, _, _, _, [], _, [], hW', trodAll_mk1 (shut_bool Try.underlying4 _), (trodAll_cons_mk (shut_int Try.underlying3 w0) (trodAll_cons_mk (grown_trod laidOut (by kernel_rfl) (of_decide_eq_true (by kernel_rfl)) k1 bel lt1) (trodAll_cons_mk (shut_int Try.underlying3 w2) trodAll_mk0))), rfl, bel.frame _, fun h => by cases h⟩

theorem over : Rows.sketchAgesRow.holds Try.pinned (OpenSpec.ofChange Rows.sketchAgesSpec) :=
  OpenClaim.holds_of_wide 5 Try.f5 rfl rfl rfl rfl rfl rfl rfl ⟨rfl, rfl, rfl, rfl, rfl⟩ rfl rfl rfl rfl rfl (by kernel_rfl) Try.func5 (by kernel_rfl)
    (of_decide_eq_true (by kernel_rfl)) (by unfold Func.isWrapper; first | (rw [if_pos (by decide +kernel)]; kernel_rfl) | (rw [if_neg (by decide +kernel)]; exact ⟨rfl, rfl⟩))
    (fun os started H enc _ => lifted os started H enc)

/-- ████ THE STATEMENT ████ -/
theorem proved : Rows.SketchAgesSaid := over
end Go.Proofs.Ytifhohhdoplbnaa.sketchAges

namespace Go.Proofs.Ytifhohhdoplbnaa
/-- The given statement. -/
theorem sketchAges_holds : Rows.SketchAgesSaid := sketchAges.proved
#print axioms sketchAges_holds
end Go.Proofs.Ytifhohhdoplbnaa
