/-
  Proved: pantrylaw05.FilterCounts returns true for every capacity, every seed and every slice of keys: a key that comes n times, with no age in between, counts n at least, up to 16, and never above 16 (P5.4). No condition.
-/
import Derived.Test.YtaelaikfpehciaaRows
import Derived.WalkKit
import Derived.ProofKit
import Derived.OpenShut
import Derived.Test.YtaelaikfpehciaaFtLaws
import Derived.ShutString
import Derived.ChangeOld
import Derived.Below
namespace Go.Proofs.Ytaelaikfpehciaa.filterCounts
open Go.ChangeShapes Go.WideShapes Go.ChangeAt Go.RowKit
open Go.ChangeMaps (open_string shut_string)
set_option linter.unusedVariables false

theorem own : ownKnob Try.prog.godebug = none := by kernel_rfl
theorem laidOut : laidOutB Try.prog = true := by kernel_rfl

/-- WHAT THE WALK IS TOLD OF A SLICE OF INTEGERS THAT CAME IN: it is nil; or it leads to a row of 'cap' cells, the numbers 'zs' (the first 'len' are its elements, the rest its spare room), each fitting its kind. -/
def IsRow (k : IntKind) (w : World) (a : Option Addr) (len cap : Nat) (zs : List Int) : Prop :=
  (a = none ∧ len = 0 ∧ cap = 0 ∧ zs = []) ∨
  ∃ x, a = some x ∧ len ≤ cap ∧ cap ≤ maxLen ∧ zs.length = cap ∧ (∀ i, i < zs.length → w.cell? (x.add i) = some (.int k (zs.getD i 0))) ∧ ∀ n ∈ zs, (Lit.int k n).wf = true

/-! ### STEP 1: THE WALK: the Go text returns true, AND WRITES NOTHING THAT WAS THERE: 'Below w.heap.size w w'' (Derived/Below.lean: '.refl', '.alloc', '.drew', '.setCell' at a new block, '.trans'). Open each 'IsRow' by 'rcases' AHEAD of 'go_enter'; part every test ahead of the walk. -/
set_option maxRecDepth 20000 in set_option maxHeartbeats 8000000 in
theorem walk (a0 : Int) (a1 : Int) (a2 : Option Addr) (len2 cap2 : Nat) (z2 : List Int) (w : World) (w0 : (Lit.int .i64 a0).wf = true) (w1 : (Lit.int .i64 a1).wf = true) (w2 : IsRow .i64 w a2 len2 cap2 z2) :
    Calls Try.prog 4 #[.int .i64 a0, .int .i64 a1, .slice a2 len2 cap2] w fun e w' => e = .returned (.bool true) ∧ Grown w w' := by
  have hk := keys_open w2
  clear w0 w1 w2
  by_cases hl : a0 ≤ 1024 ∧ len2 ≤ 300
  · obtain ⟨hl0, hl⟩ := hl
    obtain ⟨m, m1, m2, hm⟩ := width_of a0
    have nw := fun w => new_f a0 a1 w m m1 m2 hm
    unfold ptr at nw
    clear hm
    have hd3 : decide (300 < (len2 : Int)) = false := by rw [decide_eq_false_iff_not]; omega
    have hd4 : decide (1024 < a0) = false := by rw [decide_eq_false_iff_not]; omega
    have hk' : Hid (len2 = 0) ∨ ∃ b off, a2 = some ⟨b, off, none⟩ ∧ b < w.heap.size ∧ ∀ i, i < len2 → w.cell? ⟨b, off + i, none⟩ = some (.int .i64 (z2.getD i 0)) := hk
    clear hk
    rcases hk' with HL | ⟨kb, off, rfl, hkb, hcell⟩
    all_goals
      go_enter Try.func4, Try.ntmps4
      go_wp2_with (first | (go_at_call 7; refine (fSmall_any _).mono ?_; rintro e ws ⟨rfl, hgs⟩) | (go_at_call 8; refine (nw _).mono ?_; rintro e w1 ⟨F, rfl, hs, hg⟩; replace hg := grownTrans hgs hg))
      obtain ⟨B, hB⟩ : ∃ B, B = ws.heap.size := ⟨_, rfl⟩
      have HB : Hid (w.heap.size ≤ B) := by rw [hB]; exact hgs.2.2
      rw [← hB] at hs
      clear hB nw
      go_loopw [9, 10] (fun f i wr => ∃ (k fr : Nat) (t : Fs), k ≤ len2 ∧ fr ≤ k ∧ i = .int .i64 k ∧ f = .int .i64 fr ∧ Fl wr B F a1 m t ∧ Grown w wr ∧ Came z2 a1 m t fr k ∧ 0 ≤ t.a ∧ t.a ≤ k) (fun _ i _ => len2 - (intOf i).toNat)
      case atStart => exact ⟨0, 0, Fs.zero, by omega, by omega, rfl, rfl, hs, hg, came_none _ _ _ _ _, Int.le_refl _, Int.le_refl _⟩
      case round =>
        clear hs hg
        obtain ⟨k, fr, t, hk, hfr, rfl, rfl, hs, hg, hT, ht0, ht1⟩ := hrel
        by_cases hlt : k < len2
        · first
          | exact absurd hlt (by have := HL.out; omega)
          | (have ck := keys_cell (hcell k hlt) hkb hg
             obtain ⟨key, hkey⟩ : ∃ key, key = z2.getD k 0 := ⟨_, rfl⟩
             rw [← hkey] at ck
             have HK : Hid (key = z2.getD k 0) := hkey
             have ck3 : ∀ W, Grown w W → W.cell? ⟨kb, off + k, none⟩ = some (.int .i64 key) := fun W g => by rw [hkey]; exact keys_cell (hcell k hlt) hkb g
             have ag := ages_f hs
             have rc := record_f hs ht0 (by omega) key
             have hd : decide ((k : Int) < (len2 : Int)) = true := by rw [decide_eq_true_eq]; omega
             have hta := t.come_a (mixB a1 key) m
             obtain ⟨t', hte⟩ : ∃ t', t' = t.come (mixB a1 key) m := ⟨_, rfl⟩
             rw [← hte] at rc hta
             have ag' := fun (W : World) (h : Fl W B F a1 m t') => ages_f h
             have of := fun (W : World) (h : Fl W B F a1 m t') => often_f h key
             have ob := fun (W : World) (h : Fl W B F a1 m t') => h.oft_bd (mixB a1 key)
             obtain ⟨o, hoe⟩ : ∃ o, o = t'.oft (mixB a1 key) m := ⟨_, rfl⟩
             simp only [← hoe] at of ob
             have T : Hid True := trivial
             cases hy : t.ages (mixB a1 key) m with
             | true =>
               rw [hy, if_pos rfl] at hta
               simp only [hta] at ag'
               obtain ⟨a, hae⟩ : ∃ a, a = t.a := ⟨_, rfl⟩
               rw [← hae] at ag ht0 ht1 hta
               simp only [← hae] at ag'
               have HA : Hid (t'.a = a + 1) := hta
               have q1 : (a + 1 == a) = false := by rw [beq_eq_false_iff_ne]; omega
               have q2 : (a + 1 != a) = true := by rw [bne_iff_ne]; omega
               clear hs hT hkey hte hoe hta hae hy
               unfold ptr at ag rc ag' of
               go_wp2_with (first | (go_at_call 14; clear T; refine ag.mono ?_; rintro e w' ⟨rfl, hw⟩; have hw := hw.symm; subst hw) | (go_at_call 10; refine rc.mono ?_; rintro e w2 ⟨rfl, hs2, ho2⟩; replace hg := ho2.grown hg HB.out; clear ho2) | (go_at_call 14; refine (ag' _ hs2).mono ?_; rintro e w' ⟨rfl, hw⟩; have hw := hw.symm; subst hw))
               clear ag rc
               go_loopw [12, 13] (fun nn kk wi => nn = .int .i64 0 ∧ kk = .int .i64 ((k : Int) + 1) ∧ wi = w2) (fun _ _ _ => 0)
               case atStart => exact ⟨rfl, rfl, rfl⟩
               case round =>
                 obtain ⟨rfl, rfl, hw⟩ := hrel
                 subst hw
                 have ck2 := ck3 _ hg
                 have hd2 : decide ((k : Int) + 1 ≤ (k : Int)) = false := by rw [decide_eq_false_iff_not]; omega
                 obtain ⟨ob1, ob2⟩ := ob _ hs2
                 clear ck ck3 ob
                 go_wp2_with (first | (go_at_call 13; refine (of _ hs2).mono ?_; rintro e w3 ⟨rfl, hg3⟩; replace hg := grownTrans hg hg3; replace hs2 := hs2.grown hg3; clear hg3) | (go_at_call 14; refine (ag' _ hs2).mono ?_; rintro e w' ⟨rfl, hw⟩; have hw := hw.symm; subst hw))
                 go_roundw
                 case rel => exact ⟨k + 1, k + 1, t', by omega, by omega, by go_num, by go_num, hs2, hg, came_none _ _ _ _ _, by rw [HA.out]; omega, by rw [HA.out]; omega⟩
                 case measure => simp [intOf]; omega
             | false =>
               rw [hy, if_neg (by decide)] at hta
               have hT' := hT.next hs (by rw [← hkey]; exact hy)
               rw [← hkey, ← hte] at hT'
               have HT : Hid (Came z2 a1 m t' fr (k + 1)) := hT'
               simp only [hta] at ag'
               obtain ⟨a, hae⟩ : ∃ a, a = t.a := ⟨_, rfl⟩
               rw [← hae] at ag ht0 ht1 hta
               simp only [← hae] at ag'
               have HA : Hid (t'.a = a) := hta
               have HO : Hid (∀ (W : World), Fl W B F a1 m t' → min (occ z2 key (k + 1) - occ z2 key fr) 16 ≤ o) := fun W h => by rw [hoe]; exact hT'.oft h key
               have q1 : (a == a) = true := by simp
               have q2 : (a != a) = false := by simp
               clear hs hT hT' hkey hte hoe hta hae hy
               unfold ptr at ag rc ag' of
               go_wp2_with (first | (go_at_call 14; clear T; refine ag.mono ?_; rintro e w' ⟨rfl, hw⟩; have hw := hw.symm; subst hw) | (go_at_call 10; refine rc.mono ?_; rintro e w2 ⟨rfl, hs2, ho2⟩; replace hg := ho2.grown hg HB.out; clear ho2) | (go_at_call 14; refine (ag' _ hs2).mono ?_; rintro e w' ⟨rfl, hw⟩; have hw := hw.symm; subst hw))
               clear ag rc ck
               have HS : Hid (Fl w2 B F a1 m t') := hs2
               clear hs2
               go_loopw [12, 13] (fun nn kk wi => ∃ u d : Nat, fr ≤ u ∧ u ≤ k + 1 ∧ kk = .int .i64 u ∧ nn = .int .i64 (occ z2 key u - occ z2 key fr) ∧ wi = w2.drewN d) (fun _ kk _ => k + 1 - (intOf kk).toNat)
               case atStart => exact ⟨fr, 0, by omega, by omega, rfl, by rw [Int.sub_self], rfl⟩
               case round =>
                 obtain ⟨u, d, hu0, hu, rfl, rfl, rfl⟩ := hrel
                 have om := occ_mono z2 key fr u hu0
                 have ck2 := ck3 _ hg
                 obtain ⟨N, hN⟩ : ∃ N, N = occ z2 key u - occ z2 key fr := ⟨_, rfl⟩
                 have hN0 : 0 ≤ N := by omega
                 have hN1 : N ≤ 301 := by omega
                 by_cases hul : u < k + 1
                 · have cu2 := keys_cell (hcell u (by omega)) hkb hg
                   have hst : occ z2 key (u + 1) = occ z2 key u + if z2.getD u 0 = key then 1 else 0 := rfl
                   obtain ⟨v, hv⟩ : ∃ v, v = z2.getD u 0 := ⟨_, rfl⟩
                   rw [← hv] at cu2 hst
                   have hd2 : decide ((u : Int) ≤ (k : Int)) = true := by rw [decide_eq_true_eq]; omega
                   by_cases hvk : v = key
                   · subst hvk
                     rw [if_pos rfl] at hst
                     have HST : Hid (occ z2 v (u + 1) - occ z2 v fr = N + 1) := by show _ = _; omega
                     rw [← hN]
                     clear hv hst hN om ck3 HO HT HA
                     go_wp2
                     go_quiet (fail)
                     go_wp2
                     go_roundw
                     case rel => exact ⟨u + 1, _, by omega, by omega, by go_num, by rw [HST.out], rfl⟩
                     case measure => simp [intOf]; omega
                   · rw [if_neg hvk] at hst
                     have hvb : (v == key) = false := by simpa using hvk
                     have HST : Hid (occ z2 key (u + 1) - occ z2 key fr = N) := by show _ = _; omega
                     rw [← hN]
                     clear hv hst hN om ck3 HO HT HA
                     go_wp2
                     go_quiet (fail)
                     go_wp2
                     go_roundw
                     case rel => exact ⟨u + 1, _, by omega, by omega, by go_num, by rw [HST.out], rfl⟩
                     case measure => simp [intOf]; omega
                 · obtain rfl : u = k + 1 := by omega
                   have hd2 : decide (((k + 1 : Nat) : Int) ≤ (k : Int)) = false := by rw [decide_eq_false_iff_not]; omega
                   have hsd : Fl (w2.drewN d) B F a1 m t' := HS.out.grown (grownDrewN (Grown.refl _) d)
                   have hgd : Grown w (w2.drewN d) := grownDrewN hg d
                   obtain ⟨ob1, ob2⟩ := ob _ hsd
                   have ho := HO.out _ hsd
                   rw [← hN] at ho ⊢
                   have hcase : (16 < N ∧ 16 ≤ o) ∨ (N ≤ 16 ∧ N ≤ o) := by omega
                   clear ho hN om ck3 ob HO hg hu hul HS
                   rcases hcase with ⟨f1, f2⟩ | ⟨f1, f2⟩
                   all_goals
                     go_wp2_with (first | (go_at_call 13; refine (of _ hsd).mono ?_; rintro e w3 ⟨rfl, hg3⟩; replace hgd := grownTrans hgd hg3; replace hsd := hsd.grown hg3; clear hg3) | (go_at_call 14; refine (ag' _ hsd).mono ?_; rintro e w' ⟨rfl, hw⟩; have hw := hw.symm; subst hw))
                     go_roundw
                     case rel => exact ⟨k + 1, fr, t', by omega, by omega, by go_num, rfl, hsd, hgd, HT.out, by rw [HA.out]; omega, by rw [HA.out]; omega⟩
                     case measure => simp [intOf]; omega)
        · obtain rfl : k = len2 := by omega
          have hd : decide ((k : Int) < (k : Int)) = false := by rw [decide_eq_false_iff_not]; omega
          clear hs hT
          go_wp2
          go_ret
          exact ⟨rfl, hg⟩
  · have hl' : 1024 < a0 ∨ (a0 ≤ 1024 ∧ 300 < len2) := by omega
    clear hl hk
    rcases hl' with hl | ⟨hl, hl'⟩
    · have hd3 : decide (1024 < a0) = true := by rw [decide_eq_true_eq]; omega
      go_enter Try.func4, Try.ntmps4
      go_wp2_with (first | (go_at_call 7; refine (fSmall_any _).mono ?_; rintro e ws ⟨rfl, hgs⟩))
      go_ret
      exact ⟨rfl, hgs⟩
    · have hd3 : decide (1024 < a0) = false := by rw [decide_eq_false_iff_not]; omega
      have hd4 : decide (300 < (len2 : Int)) = true := by rw [decide_eq_true_eq]; omega
      go_enter Try.func4, Try.ntmps4
      go_wp2_with (first | (go_at_call 7; refine (fSmall_any _).mono ?_; rintro e ws ⟨rfl, hgs⟩))
      go_ret
      exact ⟨rfl, hgs⟩

/-! ### THE ROW's STEP: WRITTEN OUT: LEAVE IT -/
set_option maxRecDepth 100000 in
theorem lifted (os : Os) (started : os.Started) (H : Type) (enc : TypeId × Value → H) :
    ReturnsInHanded {} Try.checked os 4 .any (Rows.filterCountsSpec.pre6 enc Try.prog Try.f4 Rows.filterCountsRow.domain false) (Rows.filterCountsSpec.post enc Try.prog Try.f4 false true false false) := by
  refine returnsInHanded_of_change (C := Try.checked) own started (by kernel_rfl) Try.func4
    (ChangeSpec.witness6 (enc := enc) (C := Try.checked) false ⟨#[], #[.int .i64 0, .int .i64 0, .slice none 0 0], []⟩ 8 (by kernel_rfl) (by kernel_rfl) (by kernel_rfl) (by kernel_rfl)) ?_
  intro W base args ds gs before hval0 hW hcnd _
  have hval : ∀ (j : Nat) t v, Try.f4.params[j]? = some t → args[j]? = some v → Value.okWide Try.prog W .any base t v := hval0
  have hW' := hW
  obtain ⟨p, q, hA0, hV, rfl, hfz, hnd⟩ := hW
  have hA : DataW.TrodAll enc Try.prog W 0 (fun _ => true) true Try.f4.params.toList args.toList ds p := hA0
  rw [Try.params4] at hA hval
  obtain ⟨v0, vs0, d0, ds0, p0, q0, hargs, rfl, rfl, h0, r0⟩ := trodAll_cons hA
  obtain ⟨v1, vs1, d1, ds1, p1, q1, rfl, rfl, rfl, h1, r1⟩ := trodAll_cons r0
  obtain ⟨v2, vs2, d2, ds2, p2, q2, rfl, rfl, rfl, h2, r2⟩ := trodAll_cons r1
  obtain ⟨rfl, rfl, rfl⟩ := trodAll_nil r2
  obtain rfl : args = #[v0, v1, v2] := by cases args; simp_all
  obtain ⟨rfl, rfl⟩ := trodVars_none hV
  obtain ⟨a0, rfl, rfl, rfl, w0⟩ := open_int Try.underlying3 (hval 0 3 v0 rfl rfl) h0
  obtain ⟨a1, rfl, rfl, rfl, w1⟩ := open_int Try.underlying3 (hval 1 3 v1 rfl rfl) h1
  obtain ⟨a2, len2, cap2, rfl⟩ := okWide_slice Try.underlying22 (hval 2 22 v2 rfl rfl)
  have k2 := h2
  have lt2 : ∀ x ∈ p2, x.block < W.heap.size := by obtain ⟨m, hm⟩ := k2; exact DataW.trod_lt m _ _ _ hm
  obtain ⟨z2, w2⟩ : ∃ zs, IsRow .i64 W a2 len2 cap2 zs := by
    obtain ⟨fuel, hf⟩ := h2
    rcases open_ints Try.underlying22 Try.underlying3 (by kernel_rfl) hf with ⟨hcs, _⟩ | ⟨x, l, c, zs, hcs, _, hl, hm, hz, _, hcell, hwz⟩
    · simp [Value.cells] at hcs
      obtain ⟨rfl, rfl, rfl⟩ := hcs
      exact ⟨[], .inl ⟨rfl, rfl, rfl, rfl⟩⟩
    · simp [Value.cells] at hcs
      obtain ⟨rfl, rfl, rfl⟩ := hcs
      exact ⟨zs, .inr ⟨_, rfl, hl, hm, by simpa using hz, hcell, hwz⟩⟩
  clear hA0 hval0
  refine (walk a0 a1 a2 len2 cap2 z2 W w0 w1 w2).mono fun e W' ⟨he, bel⟩ => ?_
  subst he
  exact ⟨_, rfl, _, _, _, [], _, [], hW', trodAll_mk1 (shut_bool Try.underlying4 _), (trodAll_cons_mk (shut_int Try.underlying3 w0) (trodAll_cons_mk (shut_int Try.underlying3 w1) (trodAll_cons_mk (grown_trod laidOut (by kernel_rfl) (of_decide_eq_true (by kernel_rfl)) k2 bel lt2) trodAll_mk0))), rfl, bel.frame _, fun h => by cases h⟩

theorem over : Rows.filterCountsRow.holds Try.pinned (OpenSpec.ofChange Rows.filterCountsSpec) :=
  OpenClaim.holds_of_wide 4 Try.f4 rfl rfl rfl rfl rfl rfl rfl ⟨rfl, rfl, rfl, rfl, rfl⟩ rfl rfl rfl rfl rfl (by kernel_rfl) Try.func4 (by kernel_rfl)
    (of_decide_eq_true (by kernel_rfl)) (by unfold Func.isWrapper; first | (rw [if_pos (by decide +kernel)]; kernel_rfl) | (rw [if_neg (by decide +kernel)]; exact ⟨rfl, rfl⟩))
    (fun os started H enc _ => lifted os started H enc)

/-- ████ THE STATEMENT ████ -/
theorem proved : Rows.FilterCountsSaid := over
end Go.Proofs.Ytaelaikfpehciaa.filterCounts

namespace Go.Proofs.Ytaelaikfpehciaa
/-- The given statement. -/
theorem filterCounts_holds : Rows.FilterCountsSaid := filterCounts.proved
#print axioms filterCounts_holds
end Go.Proofs.Ytaelaikfpehciaa
