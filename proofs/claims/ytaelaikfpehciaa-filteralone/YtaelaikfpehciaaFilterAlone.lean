/-
  Proved: pantrylaw05.FilterAlone returns true for every capacity, seed, key and number n: a key that comes alone counts just as often as it came, up to 16, and there is no age then (P5.2). No condition.
-/
import Derived.Test.YtaelaikfpehciaaRows
import Derived.WalkKit
import Derived.ProofKit
import Derived.OpenShut
import Derived.Test.YtaelaikfpehciaaFtLaws
namespace Go.Proofs.Ytaelaikfpehciaa.filterAlone
open Go.ChangeShapes Go.WideShapes Go.ChangeAt Go.RowKit
set_option linter.unusedVariables false      -- a walk need not use every 'w<i>' (that an integer argument fits its kind)

theorem own : ownKnob Try.prog.godebug = none := by kernel_rfl

/-! ### STEP 1: THE WALK: the Go text returns true. 'Grown w w'': the world has at most new blocks (Derived/RowKit3.lean). Part the cases AHEAD of 'go_enter' where a test parts the walk; take each callee by a contract of your own. -/
set_option maxRecDepth 20000 in set_option maxHeartbeats 8000000 in
theorem walk (a0 : Int) (a1 : Int) (a2 : Int) (a3 : Int) (w0 : (Lit.int .i64 a0).wf = true) (w1 : (Lit.int .i64 a1).wf = true) (w2 : (Lit.int .i64 a2).wf = true) (w3 : (Lit.int .i64 a3).wf = true) (w : World) :
    Calls Try.prog 6 #[.int .i64 a0, .int .i64 a1, .int .i64 a2, .int .i64 a3] w fun e w' => e = .returned (.bool true) ∧ Grown w w' := by
  by_cases hc : a0 ≤ 1024 ∧ 0 ≤ a3 ∧ a3 ≤ 40
  · obtain ⟨hc0, hc1, hc2⟩ := hc
    obtain ⟨m, m1, m2, hm⟩ := width_of a0
    obtain ⟨n, rfl⟩ : ∃ n : Nat, a3 = n := ⟨a3.toNat, by omega⟩
    have nw := fun w => new_f a0 a1 w m m1 m2 hm
    unfold ptr at nw
    clear w0 w1 w2 w3 hm
    go_enter Try.func6, Try.ntmps6
    go_wp2_with (first | (go_at_call 7; refine (fSmall_any _).mono ?_; rintro e ws ⟨rfl, hgs⟩) | (go_at_call 8; refine (nw _).mono ?_; rintro e w1 ⟨F, rfl, hs, hg⟩; replace hg := grownTrans hgs hg))
    obtain ⟨B, hB⟩ : ∃ B, B = ws.heap.size := ⟨_, rfl⟩
    have HB : Hid (w.heap.size ≤ B) := by rw [hB]; exact hgs.2.2
    rw [← hB] at hs
    clear hB nw
    go_loopw [11] (fun i wr => ∃ (k : Nat) (t : Fs), k ≤ n ∧ i = .int .i64 ((k : Int) + 1) ∧ Hid (t = if k = 0 then Fs.zero else one (mixB a1 a2) m (k - 1)) ∧ Fl wr B F a1 m t ∧ Grown w wr) (fun i _ => n + 1 - (intOf i).toNat)
    case atStart => exact ⟨0, _, by omega, rfl, rfl, hs, hg⟩
    case round =>
      clear hs hg
      obtain ⟨k, t, hk, rfl, HK, hs, hg⟩ := hrel
      have hta : t.a = 0 := by rw [HK.out]; split <;> rfl
      by_cases hlt : k < n
      · have ht' : t.come (mixB a1 a2) m = one (mixB a1 a2) m k := by
          rw [HK.out]
          split
          · rename_i h; subst h; exact come_zero _ _
          · rename_i h; rw [come_one _ _ _ m1, show k - 1 + 1 = k by omega]
        have rc := record_f hs (by omega) (by omega) a2
        rw [ht'] at rc
        have of := fun (W : World) (h : Fl W B F a1 m (one (mixB a1 a2) m k)) => often_f h a2
        simp only [oft_one] at of
        have HK2 : Hid (one (mixB a1 a2) m k = if k + 1 = 0 then Fs.zero else one (mixB a1 a2) m (k + 1 - 1)) := by
          show one (mixB a1 a2) m k = _
          rw [if_neg (by omega)]; rfl
        obtain ⟨t', hte⟩ : ∃ t', t' = one (mixB a1 a2) m k := ⟨_, rfl⟩
        rw [← hte] at rc HK2
        simp only [← hte] at of
        obtain ⟨o, ho⟩ : ∃ o, o = min ((k : Int) + 1) 16 := ⟨_, rfl⟩
        simp only [← ho] at of
        have hd : decide ((k : Int) + 1 ≤ (n : Int)) = true := by rw [decide_eq_true_eq]; omega
        have hcase : (16 < (k : Int) + 1 ∧ o = 16) ∨ ((k : Int) + 1 ≤ 16 ∧ o = (k : Int) + 1) := by omega
        clear hte ho ht' HK hta hs
        unfold ptr at rc of
        rcases hcase with ⟨f1, rfl⟩ | ⟨f1, rfl⟩
        all_goals
          go_wp2_with (first | (go_at_call 10; refine rc.mono ?_; rintro e w2 ⟨rfl, hs2, ho2⟩; replace hg := ho2.grown hg HB.out; clear ho2) | (go_at_call 13; refine (of _ hs2).mono ?_; rintro e w3 ⟨rfl, hg3⟩; replace hg := grownTrans hg hg3; replace hs2 := hs2.grown hg3; clear hg3))
          go_roundw
          case rel => exact ⟨k + 1, t', by omega, by go_num, HK2, hs2, hg⟩
          case measure => simp [intOf]; omega
      · obtain rfl : k = n := by omega
        have ag := ages_f hs
        rw [hta] at ag
        have hd : decide ((k : Int) + 1 ≤ (k : Int)) = false := by rw [decide_eq_false_iff_not]; omega
        clear HK hta hs
        unfold ptr at ag
        go_wp2_with (first | (go_at_call 14; refine ag.mono ?_; rintro e w' ⟨rfl, hw⟩; have hw := hw.symm; subst hw))
        go_ret
        exact ⟨rfl, hg⟩
  · have hc' : 1024 < a0 ∨ (a0 ≤ 1024 ∧ a3 < 0) ∨ (a0 ≤ 1024 ∧ 0 ≤ a3 ∧ 40 < a3) := by omega
    clear hc
    rcases hc' with h | ⟨h, h'⟩ | ⟨h, h', h''⟩
    all_goals
      go_enter Try.func6, Try.ntmps6
      go_wp2_with (first | (go_at_call 7; refine (fSmall_any _).mono ?_; rintro e ws ⟨rfl, hgs⟩))
      go_ret
      exact ⟨rfl, by assumption⟩

/-! ### THE ROW's STEP: WRITTEN OUT: LEAVE IT -/
set_option maxRecDepth 100000 in
theorem lifted (os : Os) (started : os.Started) (H : Type) (enc : TypeId × Value → H) :
    ReturnsInHanded {} Try.checked os 6 .any (Rows.filterAloneSpec.pre6 enc Try.prog Try.f6 Rows.filterAloneRow.domain false) (Rows.filterAloneSpec.post enc Try.prog Try.f6 false true false false) := by
  refine returnsInHanded_of_change (C := Try.checked) own started (by kernel_rfl) Try.func6
    (ChangeSpec.witness6 (enc := enc) (C := Try.checked) false ⟨#[], #[.int .i64 0, .int .i64 0, .int .i64 0, .int .i64 0], []⟩ 8 (by kernel_rfl) (by kernel_rfl) (by kernel_rfl) (by kernel_rfl)) ?_
  intro W base args ds gs before hval0 hW hcnd _
  have hval : ∀ (j : Nat) t v, Try.f6.params[j]? = some t → args[j]? = some v → Value.okWide Try.prog W .any base t v := hval0
  have hW' := hW
  obtain ⟨p, q, hA0, hV, rfl, hfz, hnd⟩ := hW
  have hA : DataW.TrodAll enc Try.prog W 0 (fun _ => true) true Try.f6.params.toList args.toList ds p := hA0
  rw [Try.params6] at hA hval
  obtain ⟨v0, vs0, d0, ds0, p0, q0, hargs, rfl, rfl, h0, r0⟩ := trodAll_cons hA
  obtain ⟨v1, vs1, d1, ds1, p1, q1, rfl, rfl, rfl, h1, r1⟩ := trodAll_cons r0
  obtain ⟨v2, vs2, d2, ds2, p2, q2, rfl, rfl, rfl, h2, r2⟩ := trodAll_cons r1
  obtain ⟨v3, vs3, d3, ds3, p3, q3, rfl, rfl, rfl, h3, r3⟩ := trodAll_cons r2
  obtain ⟨rfl, rfl, rfl⟩ := trodAll_nil r3
  obtain rfl : args = #[v0, v1, v2, v3] := by cases args; simp_all
  obtain ⟨rfl, rfl⟩ := trodVars_none hV
  obtain ⟨a0, rfl, rfl, rfl, w0⟩ := open_int Try.underlying3 (hval 0 3 v0 rfl rfl) h0
  obtain ⟨a1, rfl, rfl, rfl, w1⟩ := open_int Try.underlying3 (hval 1 3 v1 rfl rfl) h1
  obtain ⟨a2, rfl, rfl, rfl, w2⟩ := open_int Try.underlying3 (hval 2 3 v2 rfl rfl) h2
  obtain ⟨a3, rfl, rfl, rfl, w3⟩ := open_int Try.underlying3 (hval 3 3 v3 rfl rfl) h3
  clear hA0 hval0
  simp only [List.append_nil] at hW'
  refine (walk a0 a1 a2 a3 w0 w1 w2 w3 W).mono fun e W' ⟨he, hg⟩ => ?_
  subst he
  exact ⟨_, rfl, post_of_same (pa := []) (pv := []) hW' (fun _ _ _ => (trodAll_cons_mk (shut_bool Try.underlying4 _) trodAll_mk0)) (fun sp _ => (trodAll_cons_mk (shut_int Try.underlying3 w0) (trodAll_cons_mk (shut_int Try.underlying3 w1) (trodAll_cons_mk (shut_int Try.underlying3 w2) (trodAll_cons_mk (shut_int Try.underlying3 w3) trodAll_mk0))))) (fun _ _ => rfl) rfl
    (hg.frame _) hg.2.1 (ok_one (by kernel_rfl) rfl (okWide_bool_mk Try.underlying4 _))⟩

theorem over : Rows.filterAloneRow.holds Try.pinned (OpenSpec.ofChange Rows.filterAloneSpec) :=
  OpenClaim.holds_of_wide 6 Try.f6 rfl rfl rfl rfl rfl rfl rfl ⟨rfl, rfl, rfl, rfl, rfl⟩ rfl rfl rfl rfl rfl (by kernel_rfl) Try.func6 (by kernel_rfl)
    (of_decide_eq_true (by kernel_rfl)) (by unfold Func.isWrapper; first | (rw [if_pos (by decide +kernel)]; kernel_rfl) | (rw [if_neg (by decide +kernel)]; exact ⟨rfl, rfl⟩))
    (fun os started H enc _ => lifted os started H enc)

/-- ████ THE STATEMENT ████ -/
theorem proved : Rows.FilterAloneSaid :=
  over
end Go.Proofs.Ytaelaikfpehciaa.filterAlone

namespace Go.Proofs.Ytaelaikfpehciaa
/-- The given statement. -/
theorem filterAlone_holds : Rows.FilterAloneSaid := filterAlone.proved
#print axioms filterAlone_holds
end Go.Proofs.Ytaelaikfpehciaa
