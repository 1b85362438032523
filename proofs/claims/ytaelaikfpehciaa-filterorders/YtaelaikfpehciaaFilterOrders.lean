/-
  Proved: pantrylaw05.FilterOrders returns true for every seed, every slice of keys and any three keys: Better is a strict order (P5.5). No condition.
-/
import Derived.Test.YtaelaikfpehciaaRows
import Derived.WalkKit
import Derived.ProofKit
import Derived.OpenShut
import Derived.Test.YtaelaikfpehciaaFtLaws
import Derived.ShutString
import Derived.ChangeOld
import Derived.Below
namespace Go.Proofs.Ytaelaikfpehciaa.filterOrders
open Go.ChangeShapes Go.WideShapes Go.ChangeAt Go.RowKit
open Go.ChangeMaps (open_string shut_string)
set_option linter.unusedVariables false

theorem own : ownKnob Try.prog.godebug = none := by kernel_rfl
theorem laidOut : laidOutB Try.prog = true := by kernel_rfl

/-- WHAT THE WALK IS TOLD OF A SLICE OF INTEGERS THAT CAME IN: it is nil; or it leads to a row of 'cap' cells, the numbers 'zs' (the first 'len' are its elements, the rest its spare room), each fitting its kind. -/
def IsRow (k : IntKind) (w : World) (a : Option Addr) (len cap : Nat) (zs : List Int) : Prop :=
  (a = none ∧ len = 0 ∧ cap = 0 ∧ zs = []) ∨
  ∃ x, a = some x ∧ len ≤ cap ∧ cap ≤ maxLen ∧ zs.length = cap ∧ (∀ i, i < zs.length → w.cell? (x.add i) = some (.int k (zs.getD i 0))) ∧ ∀ n ∈ zs, (Lit.int k n).wf = true

/-! ### STEP 1: THE WALK: the Go text returns true, AND WRITES NOTHING THAT WAS THERE: 'Below w.heap.size w w'' (Derived/Below.lean: '.refl', '.alloc', '.drew', '.setCell' at a new block, '.trans'). Open each 'IsRow' by 'rcases' AHEAD of 'go_enter'; part every test ahead of the walk. -/
set_option maxRecDepth 20000 in set_option maxHeartbeats 8000000 in
theorem walk (a0 : Int) (a1 : Option Addr) (len1 cap1 : Nat) (z1 : List Int) (a2 : Int) (a3 : Int) (a4 : Int) (w : World) (w0 : (Lit.int .i64 a0).wf = true) (w1 : IsRow .i64 w a1 len1 cap1 z1) (w2 : (Lit.int .i64 a2).wf = true) (w3 : (Lit.int .i64 a3).wf = true) (w4 : (Lit.int .i64 a4).wf = true) :
    Calls Try.prog 5 #[.int .i64 a0, .slice a1 len1 cap1, .int .i64 a2, .int .i64 a3, .int .i64 a4] w fun e w' => e = .returned (.bool true) ∧ Grown w w' := by
  have hk := keys_open w1
  clear w0 w1 w2 w3 w4
  have nw := fun w => new_f 20 a0 w 2 (by omega) (by omega) (by decide)
  unfold ptr at nw
  by_cases hl : len1 ≤ 300
  · have hd3 : decide (300 < (len1 : Int)) = false := by rw [decide_eq_false_iff_not]; omega
    have hk' : Hid (len1 = 0) ∨ ∃ b off, a1 = some ⟨b, off, none⟩ ∧ b < w.heap.size ∧ ∀ i, i < len1 → w.cell? ⟨b, off + i, none⟩ = some (.int .i64 (z1.getD i 0)) := hk
    clear hk
    rcases hk' with HL | ⟨kb, off, rfl, hkb, hcell⟩
    all_goals
      go_enter Try.func5, Try.ntmps5
      go_wp2_with (first | (go_at_call 7; refine (fSmall_any _).mono ?_; rintro e ws ⟨rfl, hgs⟩) | (go_at_call 8; refine (nw _).mono ?_; rintro e w1 ⟨F, rfl, hs, hg⟩; replace hg := grownTrans hgs hg))
      obtain ⟨B, hB⟩ : ∃ B, B = ws.heap.size := ⟨_, rfl⟩
      have HB : Hid (w.heap.size ≤ B) := by rw [hB]; exact hgs.2.2
      rw [← hB] at hs
      clear hB nw
      go_loopw [13] (fun i wr => ∃ (k : Nat) (t : Fs), k ≤ len1 ∧ i = .int .i64 k ∧ Fl wr B F a0 2 t ∧ Grown w wr ∧ 0 ≤ t.a ∧ t.a ≤ k) (fun i _ => len1 - (intOf i).toNat)
      case atStart => exact ⟨0, Fs.zero, by omega, rfl, hs, hg, Int.le_refl _, Int.le_refl _⟩
      case round =>
        clear hs hg
        obtain ⟨k, t, hk, rfl, hs, hg, ht0, ht1⟩ := hrel
        by_cases hlt : k < len1
        · first
          | exact absurd hlt (by have := HL.out; omega)
          | (have ck := keys_cell (hcell k hlt) hkb hg
             obtain ⟨key, hkey⟩ : ∃ key, key = z1.getD k 0 := ⟨_, rfl⟩
             rw [← hkey] at ck
             have rc := record_f hs ht0 (by omega) key
             have ab := t.come_abd (mixB a0 key) 2
             obtain ⟨t', hte⟩ : ∃ t', t' = t.come (mixB a0 key) 2 := ⟨_, rfl⟩
             rw [← hte] at rc ab
             have HA : Hid (0 ≤ t'.a ∧ t'.a ≤ ((k + 1 : Nat) : Int)) := by show _ ∧ _; omega
             have hd : decide ((k : Int) < (len1 : Int)) = true := by rw [decide_eq_true_eq]; omega
             clear hte hs ab ht0 ht1 hkey
             unfold ptr at rc
             go_wp2_with (first | (go_at_call 10; refine rc.mono ?_; rintro e w2 ⟨rfl, hs2, ho2⟩; replace hg := ho2.grown hg HB.out; clear ho2))
             go_roundw
             case rel => exact ⟨k + 1, t', by omega, by go_num, hs2, hg, HA.out.1, HA.out.2⟩
             case measure => simp [intOf]; omega)
        · obtain rfl : k = len1 := by omega
          obtain ⟨g, hge⟩ : ∃ g : Int → Int, g = fun y => t.oft (mixB a0 y) 2 := ⟨_, rfl⟩
          have of : ∀ W, Fl W B F a0 2 t → ∀ y, Calls Try.prog 13 #[ptr F, .int .i64 y] W fun e w' => e = .returned (.int .i64 (g y)) ∧ Grown W w' := fun W h y => by rw [hge]; exact often_f h y
          have be : ∀ W, Fl W B F a0 2 t → ∀ y z, Calls Try.prog 15 #[ptr F, .int .i64 y, .int .i64 z] W fun e w' => e = .returned (.bool (decide (g z < g y))) ∧ Grown W w' := fun W h y z => by rw [hge]; exact better_f h y z
          have d0 : decide (g a2 < g a2) = false := by rw [decide_eq_false_iff_not]; omega
          have hd : decide ((k : Int) < (k : Int)) = false := by rw [decide_eq_false_iff_not]; omega
          have hcase : (decide (g a3 < g a2) = true ∧ decide (g a2 < g a3) = false ∧ decide (g a4 < g a3) = true ∧ decide (g a4 < g a2) = true) ∨ (decide (g a3 < g a2) = true ∧ decide (g a2 < g a3) = false ∧ decide (g a4 < g a3) = false ∧ True) ∨ (decide (g a3 < g a2) = false ∧ decide (g a2 < g a3) = true ∧ True ∧ True) ∨ (decide (g a3 < g a2) = false ∧ decide (g a2 < g a3) = false ∧ (g a2 == g a3) = true ∧ True) := by
            simp only [decide_eq_true_eq, decide_eq_false_iff_not, beq_iff_eq, and_true]; omega
          clear hge
          unfold ptr at of be
          rcases hcase with ⟨d1, d2, d3, d4⟩ | ⟨d1, d2, d3, d4⟩ | ⟨d1, d2, d3, d4⟩ | ⟨d1, d2, d3, d4⟩
          all_goals
            go_wp2_with (first | (go_at_call 15; refine (be _ hs _ _).mono ?_; rintro e w2 ⟨rfl, hg2⟩; replace hs := hs.grown hg2; replace hg := grownTrans hg hg2; clear hg2) | (go_at_call 13; refine (of _ hs _).mono ?_; rintro e w2 ⟨rfl, hg2⟩; replace hs := hs.grown hg2; replace hg := grownTrans hg hg2; clear hg2))
            go_ret
            exact ⟨rfl, hg⟩
  · have hd : decide (300 < (len1 : Int)) = true := by rw [decide_eq_true_eq]; omega
    clear hk
    go_enter Try.func5, Try.ntmps5
    go_wp2_with (first | (go_at_call 7; refine (fSmall_any _).mono ?_; rintro e ws ⟨rfl, hgs⟩) | (go_at_call 8; refine (nw _).mono ?_; rintro e w1 ⟨F, rfl, hs, hg⟩; replace hg := grownTrans hgs hg))
    go_ret
    exact ⟨rfl, hg⟩

/-! ### THE ROW's STEP: WRITTEN OUT: LEAVE IT -/
set_option maxRecDepth 100000 in
theorem lifted (os : Os) (started : os.Started) (H : Type) (enc : TypeId × Value → H) :
    ReturnsInHanded {} Try.checked os 5 .any (Rows.filterOrdersSpec.pre6 enc Try.prog Try.f5 Rows.filterOrdersRow.domain false) (Rows.filterOrdersSpec.post enc Try.prog Try.f5 false true false false) := by
  refine returnsInHanded_of_change (C := Try.checked) own started (by kernel_rfl) Try.func5
    (ChangeSpec.witness6 (enc := enc) (C := Try.checked) false ⟨#[], #[.int .i64 0, .slice none 0 0, .int .i64 0, .int .i64 0, .int .i64 0], []⟩ 8 (by kernel_rfl) (by kernel_rfl) (by kernel_rfl) (by kernel_rfl)) ?_
  intro W base args ds gs before hval0 hW hcnd _
  have hval : ∀ (j : Nat) t v, Try.f5.params[j]? = some t → args[j]? = some v → Value.okWide Try.prog W .any base t v := hval0
  have hW' := hW
  obtain ⟨p, q, hA0, hV, rfl, hfz, hnd⟩ := hW
  have hA : DataW.TrodAll enc Try.prog W 0 (fun _ => true) true Try.f5.params.toList args.toList ds p := hA0
  rw [Try.params5] at hA hval
  obtain ⟨v0, vs0, d0, ds0, p0, q0, hargs, rfl, rfl, h0, r0⟩ := trodAll_cons hA
  obtain ⟨v1, vs1, d1, ds1, p1, q1, rfl, rfl, rfl, h1, r1⟩ := trodAll_cons r0
  obtain ⟨v2, vs2, d2, ds2, p2, q2, rfl, rfl, rfl, h2, r2⟩ := trodAll_cons r1
  obtain ⟨v3, vs3, d3, ds3, p3, q3, rfl, rfl, rfl, h3, r3⟩ := trodAll_cons r2
  obtain ⟨v4, vs4, d4, ds4, p4, q4, rfl, rfl, rfl, h4, r4⟩ := trodAll_cons r3
  obtain ⟨rfl, rfl, rfl⟩ := trodAll_nil r4
  obtain rfl : args = #[v0, v1, v2, v3, v4] := by cases args; simp_all
  obtain ⟨rfl, rfl⟩ := trodVars_none hV
  obtain ⟨a0, rfl, rfl, rfl, w0⟩ := open_int Try.underlying3 (hval 0 3 v0 rfl rfl) h0
  obtain ⟨a1, len1, cap1, rfl⟩ := okWide_slice Try.underlying22 (hval 1 22 v1 rfl rfl)
  have k1 := h1
  have lt1 : ∀ x ∈ p1, x.block < W.heap.size := by obtain ⟨m, hm⟩ := k1; exact DataW.trod_lt m _ _ _ hm
  obtain ⟨z1, w1⟩ : ∃ zs, IsRow .i64 W a1 len1 cap1 zs := by
    obtain ⟨fuel, hf⟩ := h1
    rcases open_ints Try.underlying22 Try.underlying3 (by kernel_rfl) hf with ⟨hcs, _⟩ | ⟨x, l, c, zs, hcs, _, hl, hm, hz, _, hcell, hwz⟩
    · simp [Value.cells] at hcs
      obtain ⟨rfl, rfl, rfl⟩ := hcs
      exact ⟨[], .inl ⟨rfl, rfl, rfl, rfl⟩⟩
    · simp [Value.cells] at hcs
      obtain ⟨rfl, rfl, rfl⟩ := hcs
      exact ⟨zs, .inr ⟨_, rfl, hl, hm, by simpa using hz, hcell, hwz⟩⟩
  obtain ⟨a2, rfl, rfl, rfl, w2⟩ := open_int Try.underlying3 (hval 2 3 v2 rfl rfl) h2
  obtain ⟨a3, rfl, rfl, rfl, w3⟩ := open_int Try.underlying3 (hval 3 3 v3 rfl rfl) h3
  obtain ⟨a4, rfl, rfl, rfl, w4⟩ := open_int Try.underlying3 (hval 4 3 v4 rfl rfl) h4
  clear hA0 hval0
  refine (walk a0 a1 len1 cap1 z1 a2 a3 a4 W w0 w1 w2 w3 w4).mono fun e W' ⟨he, bel⟩ => ?_
  subst he
  exact ⟨_, rfl, _, _, _, [], _, [], hW', trodAll_mk1 (shut_bool Try.underlying4 _), (trodAll_cons_mk (shut_int Try.underlying3 w0) (trodAll_cons_mk (grown_trod laidOut (by kernel_rfl) (of_decide_eq_true (by kernel_rfl)) k1 bel lt1) (trodAll_cons_mk (shut_int Try.underlying3 w2) (trodAll_cons_mk (shut_int Try.underlying3 w3) (trodAll_cons_mk (shut_int Try.underlying3 w4) trodAll_mk0))))), rfl, bel.frame _, fun h => by cases h⟩

theorem over : Rows.filterOrdersRow.holds Try.pinned (OpenSpec.ofChange Rows.filterOrdersSpec) :=
  OpenClaim.holds_of_wide 5 Try.f5 rfl rfl rfl rfl rfl rfl rfl ⟨rfl, rfl, rfl, rfl, rfl⟩ rfl rfl rfl rfl rfl (by kernel_rfl) Try.func5 (by kernel_rfl)
    (of_decide_eq_true (by kernel_rfl)) (by unfold Func.isWrapper; first | (rw [if_pos (by decide +kernel)]; kernel_rfl) | (rw [if_neg (by decide +kernel)]; exact ⟨rfl, rfl⟩))
    (fun os started H enc _ => lifted os started H enc)

/-- ████ THE STATEMENT ████ -/
theorem proved : Rows.FilterOrdersSaid := over
end Go.Proofs.Ytaelaikfpehciaa.filterOrders

namespace Go.Proofs.Ytaelaikfpehciaa
/-- The given statement. -/
theorem filterOrders_holds : Rows.FilterOrdersSaid := filterOrders.proved
#print axioms filterOrders_holds
end Go.Proofs.Ytaelaikfpehciaa
