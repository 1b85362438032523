/-
  Proved: pantrylaw11.PolicyErrors returns true for every capacity, every seed, any events and any event behind them: what tells an error changes nothing. No condition.
-/
import Derived.Test.YtlmcopenbeammaaGreatRows
import Derived.WalkKit
import Derived.ProofKit
import Derived.OpenShut
import Derived.Test.YtlmcopenbeammaaGreatPoTwo
import Derived.Test.YtlmcopenbeammaaGreatPoTell
import Derived.ShutString
import Derived.ChangeOld
import Derived.Below
import Derived.Test.YtlmcopenbeammaaGreatGenArgs
namespace Go.Proofs.YtlmcopenbeammaaGreat.policyErrors
open Go.ChangeShapes Go.WideShapes Go.ChangeAt Go.RowKit
set_option linter.unusedVariables false

theorem own : ownKnob Tryz.prog.godebug = none := by kernel_rfl
theorem laidOut : laidOutB Tryz.prog = true := by kernel_rfl

/-! ### The walk: the law returns true, and writes nothing that was there -/
open Go.Proofs.YtlmcopenbeammaaGreat.Po Go.Deep in set_option maxRecDepth 100000 in set_option maxHeartbeats 8000000 in
theorem walk (a0 : Int) (a1 : Int) (a2 : Option Addr) (len2 cap2 : Nat) (z2 : Nat → Nat → Int) (x3a x3b x3c x3d : Int) (w : World) (w0 : (Lit.int .i64 a0).wf = true) (w1 : (Lit.int .i64 a1).wf = true) (w2 : IsGrid .i64 4 w a2 len2 cap2 z2) (wx3a : (Lit.int .i64 x3a).wf = true) (wx3b : (Lit.int .i64 x3b).wf = true) (wx3c : (Lit.int .i64 x3c).wf = true) (wx3d : (Lit.int .i64 x3d).wf = true) :
    Calls Tryz.prog 5 #[.int .i64 a0, .int .i64 a1, .slice a2 len2 cap2, .agg #[.int .i64 x3a, .int .i64 x3b, .int .i64 x3c, .int .i64 x3d]] w fun e w' => e = .returned (.bool true) ∧ Grown w w' := by
  have SM := fun w => small_q w
  obtain ⟨W0, hW0⟩ : ∃ W, W = w.alloc (.cells #[.int .i64 x3a, .int .i64 x3b, .int .i64 x3c, .int .i64 x3d] 32) := ⟨_, rfl⟩
  have gW : Grown w W0 := by rw [hW0]; exact (Grown.refl _).alloc _ _
  have EB : EvB W0 w.heap.size x3a x3b x3c x3d := by rw [hW0]; exact EvB.new _ _ _ _ _
  have SM0 := SM W0
  rw [hW0] at SM0
  by_cases hl : 200 < len2
  · have d3 : decide (200 < (len2 : Int)) = true := by rw [decide_eq_true_eq]; omega
    clear EB
    go_enter Tryz.func5, Tryz.ntmps5
    go_wp2_with (first | (go_at_call 6; refine SM0.mono ?_; rintro e w1 ⟨rfl, g1⟩; rw [← hW0] at g1))
    go_ret
    exact ⟨rfl, grownTrans gW g1⟩
  have d3 : decide (200 < (len2 : Int)) = false := by rw [decide_eq_false_iff_not]; omega
  by_cases hc : 512 < a0
  · have d4 : decide (512 < a0) = true := by simpa using hc
    clear EB
    go_enter Tryz.func5, Tryz.ntmps5
    go_wp2_with (first | (go_at_call 6; refine SM0.mono ?_; rintro e w1 ⟨rfl, g1⟩; rw [← hW0] at g1))
    go_ret
    exact ⟨rfl, grownTrans gW g1⟩
  have d4 : decide (512 < a0) = false := by simpa using hc
  have NW := fun w => new_p a0 a1 w
  have NT := fun (W : World) (g : Grown W0 W) A Φ h hb => new_two a0 a1 W0 W g (A := A) (Φ := Φ) h hb
  have hcap : wh (wh a0) = wh a0 := wh_wh a0
  obtain ⟨C, hCC⟩ : ∃ C, C = wh a0 := ⟨_, rfl⟩
  obtain ⟨mw, hmw⟩ : ∃ m, m = mwid a0 := ⟨_, rfl⟩
  rw [← hCC] at hcap
  simp only [← hCC, ← hmw] at NW NT
  have hZ := zero_fine hcap
  obtain ⟨q1, q2, q3, q4⟩ := pl_ok (C := C) (seed := a1) (mw := mw) (z := z2) hZ (show (0 : Int) ≤ (Ps.zero C).f.a from Int.le_refl _) len2
  have q3 : (pl C a1 mw z2 (Ps.zero C) len2).1.f.a ≤ 200 := by have : (Ps.zero C).f.a = 0 := rfl; omega
  obtain ⟨S, hS⟩ : ∃ S, S = (pl C a1 mw z2 (Ps.zero C) len2).1 := ⟨_, rfl⟩
  rw [← hS] at q1 q2 q3
  have PL : ∀ (x : Ps) w A B, Two W0 w A B C a1 mw (Ps.zero C) x [] → Calls Tryz.prog 8 #[ptr A, .slice a2 len2 cap2] w fun e w' => ∃ v, e = .returned v ∧ Two W0 w' A B C a1 mw S x [] := fun x w A B h => by
    refine (play_two h hZ ⟨Int.le_refl _, by show (0 : Int) ≤ _; omega⟩ w2 gW (by omega)).mono ?_
    rintro e w' ⟨p, g, c, rfl, _, h'⟩
    exact ⟨_, rfl, by rw [hS]; exact h'.less fun V hV => absurd hV List.not_mem_nil⟩
  have HS : Hid (Fine C S) := q1
  have hw3 := q1.wf
  obtain ⟨r, hr⟩ : ∃ r, r = refE S C x3a x3b x3d := ⟨_, rfl⟩
  have RA : ∀ w A B vs, Two W0 w A B C a1 mw S S vs → ∀ row, Calls Tryz.prog 11 #[ptr A, .int .i64 row] w fun e w' => ∃ p c, e = .returned (.slice p (S.t.rowI row).length c) ∧ Two W0 w' A B C a1 mw S S (nums p (S.t.rowI row).length c ((S.t.rowI row).map (·.1)) :: vs) := fun w A B vs h row => by
    refine (row_two h row).mono ?_
    rintro e w' ⟨p, c, k, rfl, rfl, h'⟩
    exact ⟨p, c, rfl, h'⟩
  have hlen : ∀ row, (S.t.rowI row).length ≤ 1000000 := fun row => by
    unfold Ds.rowI
    split
    · have := hw3.lenD row.toNat; omega
    · simp
  obtain ⟨L, hL⟩ : ∃ L : Int → Nat, L = fun row => (S.t.rowI row).length := ⟨_, rfl⟩
  obtain ⟨D, hD⟩ : ∃ L : Int → List Int, L = fun row => (S.t.rowI row).map (·.1) := ⟨_, rfl⟩
  have RA : ∀ w A B vs, Two W0 w A B C a1 mw S S vs → ∀ row, Calls Tryz.prog 11 #[ptr A, .int .i64 row] w fun e w' => ∃ p c, e = .returned (.slice p (L row) c) ∧ Two W0 w' A B C a1 mw S S (nums p (L row) c (D row) :: vs) := fun w A B vs h row => by rw [hL, hD]; exact RA w A B vs h row
  have hlen : ∀ row, L row ≤ 1000000 := fun row => by rw [hL]; exact hlen row
  have hT : S.t.tot 3 ≤ 9223372036854775807 := by have := q1.tot; have := wh_le C; rw [hcap] at this; omega
  by_cases hr0 : r = 0
  · have DO : ∀ w A B, Two W0 w A B C a1 mw S S [] → Calls Tryz.prog 9 #[ptr A, evV x3a x3b x3c x3d] w fun e w' => ∃ p g c, e = .returned (.tuple #[.slice p g c, .int .i64 0]) ∧ Grown W0 w' := fun w A B h => by
      refine (do_two h q1 ⟨q2, by omega⟩ x3a x3b x3c x3d wx3b).mono ?_
      rintro e w' ⟨p, g, c, rfl, hg, h'⟩
      rw [← hr, hr0]
      exact ⟨p, g, c, rfl, h'.old⟩
    have T : Hid True := trivial
    have HSM : Hid (∀ W, Grown W0 W → EvB W w.heap.size x3a x3b x3c x3d) := fun W g => (grown_block g (lt_of EB)).trans EB
    clear EB hS hr hr0 hL hD RA hlen hT q1 q2 q3 q4 hw3 hZ hc hl hCC hmw
    unfold ptr evV at *
    go_enter Tryz.func5, Tryz.ntmps5
    go_wp2_with (first | (go_at_call 6; refine SM0.mono ?_; rintro e w1 ⟨rfl, g1⟩; rw [← hW0] at g1) | (go_at_call 7; clear T; refine (NW _).mono ?_; rintro e w4 ⟨A, Φ, rfl, P4, g4, b4⟩; have gA := grownTrans g1 g4; have bA := (fun k hk => Nat.le_trans g1.2.2 (b4 k hk))) | (go_at_call 7; refine (NT _ gA A Φ P4 bA).mono ?_; rintro e w5 ⟨B, rfl, T5⟩) | (go_at_call 8; with_reducible refine (PL _ _ _ _ T5).mono ?_; rintro e w6 ⟨v6, rfl, T6⟩; have T6 := T6.swap) | (go_at_call 8; with_reducible refine (PL _ _ _ _ T6).mono ?_; rintro e w7 ⟨v7, rfl, T7⟩; have T7 := T7.swap; have E7 := HSM.out _ T7.old) | (refine wpList_load_row rfl 32 (.tmp 7) rfl w.heap.size rfl 32 _ (0, 0) _ E7 Tryz.underlying32 rfl (infoE _ _ _ _) ?_) | (go_at_call 9; with_reducible refine (DO _ _ _ T7).mono ?_; rintro e w8 ⟨p8, l8, c8, rfl, g8⟩))
    go_ret
    exact ⟨rfl, grownTrans gW g8⟩
  · have hrb : (r == 0) = false := by simpa using hr0
    have DO : ∀ w A B, Two W0 w A B C a1 mw S S [] → Calls Tryz.prog 9 #[ptr A, evV x3a x3b x3c x3d] w fun e w' => ∃ p c, e = .returned (.tuple #[.slice p 0 c, .int .i64 r]) ∧ Two W0 w' A B C a1 mw S S [] := fun w A B h => by
      refine (do_two h q1 ⟨q2, by omega⟩ x3a x3b x3c x3d wx3b).mono ?_
      rintro e w' ⟨p, g, c, rfl, hg, h'⟩
      have he : S.ev C a1 mw x3a x3b x3c x3d = (S, []) := by unfold Ps.ev; rw [if_neg (by rw [← hr]; exact hr0)]
      rw [he] at hg h'
      have hg : g = 0 := hg
      subst hg
      rw [← hr]
      exact ⟨p, c, rfl, h'.less fun V hV => absurd hV List.not_mem_nil⟩
    have T : Hid True := trivial
    have HSM : Hid (∀ W, Grown W0 W → EvB W w.heap.size x3a x3b x3c x3d) := fun W g => (grown_block g (lt_of EB)).trans EB
    have HLN : Hid (∀ row, L row ≤ 1000000) := hlen
    have HT : Hid (S.t.tot 3 ≤ 9223372036854775807) := hT
    clear EB hS hr hr0 hL hD hlen hT q1 q2 q3 q4 hw3 hZ hc hl hCC hmw
    unfold ptr evV at *
    go_enter Tryz.func5, Tryz.ntmps5
    go_wp2_with (first | (go_at_call 6; refine SM0.mono ?_; rintro e w1 ⟨rfl, g1⟩; rw [← hW0] at g1) | (go_at_call 7; clear T; refine (NW _).mono ?_; rintro e w4 ⟨A, Φ, rfl, P4, g4, b4⟩; have gA := grownTrans g1 g4; have bA := (fun k hk => Nat.le_trans g1.2.2 (b4 k hk))) | (go_at_call 7; refine (NT _ gA A Φ P4 bA).mono ?_; rintro e w5 ⟨B, rfl, T5⟩) | (go_at_call 8; with_reducible refine (PL _ _ _ _ T5).mono ?_; rintro e w6 ⟨v6, rfl, T6⟩; have T6 := T6.swap) | (go_at_call 8; with_reducible refine (PL _ _ _ _ T6).mono ?_; rintro e w7 ⟨v7, rfl, T7⟩; have T7 := T7.swap; have E7 := HSM.out _ T7.old) | (refine wpList_load_row rfl 32 (.tmp 7) rfl w.heap.size rfl 32 _ (0, 0) _ E7 Tryz.underlying32 rfl (infoE _ _ _ _) ?_) | (go_at_call 9; with_reducible refine (DO _ _ _ T7).mono ?_; rintro e w8 ⟨p8, c8, rfl, T8⟩))
    go_loopw [14] (fun i wr => ∃ k : Nat, k ≤ 3 ∧ i = .int .i64 k ∧ Hid (Two W0 wr A B C a1 mw S S [])) (fun i _ => 3 - (intOf i).toNat)
    case atStart => exact ⟨0, by omega, rfl, T8⟩
    case round =>
      clear T8 T7 T6 T5 P4 g4 b4 gA bA g1 E7 NW NT PL DO SM0 SM
      obtain ⟨k, hk, rfl, HT0⟩ := hrel
      have T0 := HT0.out
      by_cases hlt : k < 3
      · have hd : decide ((k : Int) < 3) = true := by rw [decide_eq_true_eq]; omega
        go_wp2_with (first | (go_at_call 11; with_reducible refine (RA _ _ _ _ T0 _).mono ?_; rintro e wa ⟨pa, ca, rfl, Ta⟩; clear T0; have Ta := Ta.swap) | (go_at_call 11; with_reducible refine (RA _ _ _ _ Ta _).mono ?_; rintro e wb ⟨pb, cb, rfl, Tb⟩) | (go_at_call 10; refine (ints_two Tb (l := D k) (List.mem_cons_of_mem _ List.mem_cons_self) List.mem_cons_self (HLN.out _)).mono ?_; rintro e wc ⟨rfl, Tc⟩))
        go_roundw
        case rel => exact ⟨k + 1, by omega, by go_num, (Tc.swap.less fun V hV => absurd hV List.not_mem_nil)⟩
        case measure => simp [intOf]; omega
      · obtain rfl : k = 3 := by omega
        go_wp2
        obtain ⟨Good, hGood⟩ : ∃ Good : World → Prop, Good = fun W => Two W0 W A B C a1 mw S S [] := ⟨_, rfl⟩
        have G : ∀ W, Good W → Two W0 W A B C a1 mw S S [] := fun W h => by rw [hGood] at h; exact h
        have G' : ∀ W W', Good W → Grown W W' → Good W' := fun W W' h g => by rw [hGood] at h ⊢; exact h.grown g
        have g0 : Good wr.drew := by rw [hGood]; exact T0.grown (Grown.refl _).drew
        have HGO : Hid (∀ W, Good W → Grown W0 W) := fun W h => (G W h).old
        have k1 : ∀ r : Wor Good, r.w.cell? ⟨w.heap.size, 2, none⟩ = some (.int .i64 x3c) := fun r => (HSM.out _ (G _ r.h).old).cells.2.2.1
        obtain ⟨tt, htt⟩ : ∃ t, t = S.t.tot 3 := ⟨_, rfl⟩
        obtain ⟨oo, hoo⟩ : ∃ t, t = S.f.oft (mixB a1 x3c) mw := ⟨_, rfl⟩
        obtain ⟨xx, hxx⟩ : ∃ t, t = S.q.x := ⟨_, rfl⟩
        obtain ⟨pp, hpp⟩ : ∃ t, t = pr C S.q.x := ⟨_, rfl⟩
        have WA : Hid (∀ r : Wor Good, Calls Tryz.prog 12 #[.pointer (some ⟨A, 0, none⟩)] r.w fun e w' => e = .returned (.int .i64 tt) ∧ ∃ r' : Wor Good, w' = r'.w) := fun r => calls_class (by
          obtain ⟨Φ, Ψ, h1, _⟩ := (G _ r.h).ex
          rw [htt]
          exact (weight_q h1 HT.out).mono fun e w' ⟨e1, g⟩ => ⟨e1, G' _ _ r.h g⟩)
        have WB : Hid (∀ r : Wor Good, Calls Tryz.prog 12 #[.pointer (some ⟨B, 0, none⟩)] r.w fun e w' => e = .returned (.int .i64 tt) ∧ ∃ r' : Wor Good, w' = r'.w) := fun r => calls_class (by
          obtain ⟨Φ, Ψ, h1, h2, _⟩ := (G _ r.h).ex
          rw [htt]
          exact (weight_q h2 HT.out).mono fun e w' ⟨e1, g⟩ => ⟨e1, G' _ _ r.h g⟩)
        have QA : Hid (∀ r : Wor Good, Calls Tryz.prog 13 #[.pointer (some ⟨A, 0, none⟩)] r.w fun e w' => e = .returned (.agg #[.int .i64 C, .int .i64 xx, .int .i64 pp]) ∧ ∃ r' : Wor Good, w' = r'.w) := fun r => calls_class (by
          obtain ⟨Φ, Ψ, h1, _⟩ := (G _ r.h).ex
          rw [hxx, hpp]
          exact (quota_q h1).mono fun e w' ⟨e1, g⟩ => ⟨e1, G' _ _ r.h g⟩)
        have QB : Hid (∀ r : Wor Good, Calls Tryz.prog 13 #[.pointer (some ⟨B, 0, none⟩)] r.w fun e w' => e = .returned (.agg #[.int .i64 C, .int .i64 xx, .int .i64 pp]) ∧ ∃ r' : Wor Good, w' = r'.w) := fun r => calls_class (by
          obtain ⟨Φ, Ψ, h1, h2, _⟩ := (G _ r.h).ex
          rw [hxx, hpp]
          exact (quota_q h2).mono fun e w' ⟨e1, g⟩ => ⟨e1, G' _ _ r.h g⟩)
        have CA : Hid (∀ r : Wor Good, Calls Tryz.prog 15 #[.pointer (some ⟨A, 0, none⟩)] r.w fun e w' => e = .returned (Cm.cl S.q.h S.q.m S.q.l S.q.s) ∧ ∃ r' : Wor Good, w' = r'.w) := fun r => calls_class (by
          obtain ⟨Φ, Ψ, h1, _⟩ := (G _ r.h).ex
          exact (climb_q h1).mono fun e w' ⟨e1, g⟩ => ⟨e1, G' _ _ r.h g⟩)
        have CB : Hid (∀ r : Wor Good, Calls Tryz.prog 15 #[.pointer (some ⟨B, 0, none⟩)] r.w fun e w' => e = .returned (Cm.cl S.q.h S.q.m S.q.l S.q.s) ∧ ∃ r' : Wor Good, w' = r'.w) := fun r => calls_class (by
          obtain ⟨Φ, Ψ, h1, h2, _⟩ := (G _ r.h).ex
          exact (climb_q h2).mono fun e w' ⟨e1, g⟩ => ⟨e1, G' _ _ r.h g⟩)
        have OA : Hid (∀ r : Wor Good, Calls Tryz.prog 16 #[.pointer (some ⟨A, 0, none⟩), .int .i64 x3c] r.w fun e w' => e = .returned (.int .i64 oo) ∧ ∃ r' : Wor Good, w' = r'.w) := fun r => calls_class (by
          obtain ⟨Φ, Ψ, h1, _⟩ := (G _ r.h).ex
          rw [hoo]
          exact (often_q h1 x3c).mono fun e w' ⟨e1, g⟩ => ⟨e1, G' _ _ r.h g⟩)
        have OB : Hid (∀ r : Wor Good, Calls Tryz.prog 16 #[.pointer (some ⟨B, 0, none⟩), .int .i64 x3c] r.w fun e w' => e = .returned (.int .i64 oo) ∧ ∃ r' : Wor Good, w' = r'.w) := fun r => calls_class (by
          obtain ⟨Φ, Ψ, h1, h2, _⟩ := (G _ r.h).ex
          rw [hoo]
          exact (often_q h2 x3c).mono fun e w' ⟨e1, g⟩ => ⟨e1, G' _ _ r.h g⟩)
        have hne : Nonempty (Wor Good) := ⟨⟨_, g0⟩⟩
        have gq := guardQ
        have he := eqQ
        have gc := guardCl
        have hec := Po.eqC
        obtain ⟨b0, b1, b2, b3⟩ : ∃ b0 b1 b2 b3 : Int, b0 = S.q.h ∧ b1 = S.q.m ∧ b2 = S.q.l ∧ b3 = S.q.s := ⟨_, _, _, _, rfl, rfl, rfl, rfl⟩
        clear hGood G G' T0 htt hoo hxx hpp RA HT0
        refine wp_region_class (Good := Good) (by kernel_rfl) (by kernel_rfl) g0 ?_
        repeat (go_big_quiet_step (first | (go_at_call 12; first | with_reducible exact WA.out _ | with_reducible exact WB.out _) | (go_at_call 13; first | with_reducible exact QA.out _ | with_reducible exact QB.out _) | (go_at_call 15; first | with_reducible exact CA.out _ | with_reducible exact CB.out _) | (go_at_call 16; first | with_reducible exact OA.out _ | with_reducible exact OB.out _)))
        refine wpQuiet_nil ?_
        intro _ hw'
        obtain ⟨r', hw''⟩ := hw'
        subst hw''
        have hgo := HGO.out _ r'.h
        clear k1 WA WB QA QB CA CB OA OB
        go_wp2
        go_ret
        exact ⟨rfl, grownTrans gW hgo⟩

/-! ### The row's step -/
set_option maxRecDepth 100000 in
theorem lifted (os : Os) (started : os.Started) (H : Type) (enc : TypeId × Value → H) :
    ReturnsInHanded {} Tryz.checked os 5 .any (Rows.policyErrorsSpec.pre6 enc Tryz.prog Tryz.f5 Rows.policyErrorsRow.domain false) (Rows.policyErrorsSpec.post enc Tryz.prog Tryz.f5 false true false false) := by
  refine returnsInHanded_of_change (C := Tryz.checked) own started (by kernel_rfl) Tryz.func5
    (ChangeSpec.witness6 (enc := enc) (C := Tryz.checked) false ⟨#[], #[.int .i64 0, .int .i64 0, .slice none 0 0, .agg #[.int .i64 0, .int .i64 0, .int .i64 0, .int .i64 0]], []⟩ 8 (by kernel_rfl) (by kernel_rfl) (by kernel_rfl) (by kernel_rfl)) ?_
  intro W base args ds gs before hval0 hW hcnd _
  have hval : ∀ (j : Nat) t v, Tryz.f5.params[j]? = some t → args[j]? = some v → Value.okWide Tryz.prog W .any base t v := hval0
  have hW' := hW
  obtain ⟨p, q, hA0, hV, rfl, hfz, hnd⟩ := hW
  have hA : DataW.TrodAll enc Tryz.prog W 0 (fun _ => true) true Tryz.f5.params.toList args.toList ds p := hA0
  rw [Tryz.params5] at hA hval
  obtain ⟨v0, vs0, d0, ds0, p0, q0, hargs, rfl, rfl, h0, r0⟩ := trodAll_cons hA
  obtain ⟨v1, vs1, d1, ds1, p1, q1, rfl, rfl, rfl, h1, r1⟩ := trodAll_cons r0
  obtain ⟨v2, vs2, d2, ds2, p2, q2, rfl, rfl, rfl, h2, r2⟩ := trodAll_cons r1
  obtain ⟨v3, vs3, d3, ds3, p3, q3, rfl, rfl, rfl, h3, r3⟩ := trodAll_cons r2
  obtain ⟨rfl, rfl, rfl⟩ := trodAll_nil r3
  obtain rfl : args = #[v0, v1, v2, v3] := by cases args; simp_all
  obtain ⟨rfl, rfl⟩ := trodVars_none hV
  obtain ⟨a0, rfl, rfl, rfl, w0⟩ := open_int Tryz.underlying3 (hval 0 3 v0 rfl rfl) h0
  obtain ⟨a1, rfl, rfl, rfl, w1⟩ := open_int Tryz.underlying3 (hval 1 3 v1 rfl rfl) h1
  obtain ⟨a2, len2, cap2, rfl⟩ := okWide_slice Tryz.underlying22 (hval 2 22 v2 rfl rfl)
  have k2 := h2
  have lt2 : ∀ x ∈ p2, x.block < W.heap.size := by obtain ⟨m, hm⟩ := k2; exact DataW.trod_lt m _ _ _ hm
  obtain ⟨z2, w2⟩ := open_structs (n := 4) (k := .i64) Tryz.underlying22 Tryz.underlying32 (by kernel_rfl) (by
    intro i hi
    match i, hi with
    | 0, _ => exact ⟨_, rfl, Tryz.underlying3, by kernel_rfl, rfl⟩
    | 1, _ => exact ⟨_, rfl, Tryz.underlying3, by kernel_rfl, rfl⟩
    | 2, _ => exact ⟨_, rfl, Tryz.underlying3, by kernel_rfl, rfl⟩
    | 3, _ => exact ⟨_, rfl, Tryz.underlying3, by kernel_rfl, rfl⟩) h2
  have k3 := h3
  have lt3 : ∀ x ∈ p3, x.block < W.heap.size := by obtain ⟨m, hm⟩ := k3; exact DataW.trod_lt m _ _ _ hm
  obtain ⟨z3, hv3, wz3⟩ := open_nums (n := 4) (k := .i64) Tryz.underlying32 (by kernel_rfl) (by
    intro i hi
    match i, hi with
    | 0, _ => exact ⟨_, rfl, Tryz.underlying3, by kernel_rfl, rfl⟩
    | 1, _ => exact ⟨_, rfl, Tryz.underlying3, by kernel_rfl, rfl⟩
    | 2, _ => exact ⟨_, rfl, Tryz.underlying3, by kernel_rfl, rfl⟩
    | 3, _ => exact ⟨_, rfl, Tryz.underlying3, by kernel_rfl, rfl⟩) (hval 3 32 v3 rfl rfl) h3
  obtain rfl : v3 = .agg #[.int .i64 (z3 0), .int .i64 (z3 1), .int .i64 (z3 2), .int .i64 (z3 3)] := hv3
  clear hA0 hval0
  refine (walk a0 a1 a2 len2 cap2 z2 (z3 0) (z3 1) (z3 2) (z3 3) W w0 w1 w2 (wz3 0 (by decide)) (wz3 1 (by decide)) (wz3 2 (by decide)) (wz3 3 (by decide))).mono fun e W' ⟨he, bel⟩ => ?_
  subst he
  exact ⟨_, rfl, _, _, _, [], _, [], hW', trodAll_mk1 (shut_bool Tryz.underlying4 _), (trodAll_cons_mk (shut_int Tryz.underlying3 w0) (trodAll_cons_mk (shut_int Tryz.underlying3 w1) (trodAll_cons_mk (grown_trod laidOut (by kernel_rfl) (of_decide_eq_true (by kernel_rfl)) k2 bel lt2) (trodAll_cons_mk (grown_trod laidOut (by kernel_rfl) (of_decide_eq_true (by kernel_rfl)) k3 bel lt3) trodAll_mk0)))), rfl, bel.frame _, fun h => by cases h⟩

theorem over : Rows.policyErrorsRow.holds Tryz.pinned (OpenSpec.ofChange Rows.policyErrorsSpec) :=
  OpenClaim.holds_of_wide 5 Tryz.f5 rfl rfl rfl rfl rfl rfl rfl ⟨rfl, rfl, rfl, rfl, rfl⟩ rfl rfl rfl rfl rfl (by kernel_rfl) Tryz.func5 (by kernel_rfl)
    (of_decide_eq_true (by kernel_rfl)) (by unfold Func.isWrapper; first | (rw [if_pos (by decide +kernel)]; kernel_rfl) | (rw [if_neg (by decide +kernel)]; exact ⟨rfl, rfl⟩))
    (fun os started H enc _ => lifted os started H enc)

/-- The statement. -/
theorem proved : Rows.PolicyErrorsSaid := over
end Go.Proofs.YtlmcopenbeammaaGreat.policyErrors

namespace Go.Proofs.YtlmcopenbeammaaGreat
/-- The given statement. -/
theorem policyErrors_holds : Rows.PolicyErrorsSaid := policyErrors.proved
#print axioms policyErrors_holds
end Go.Proofs.YtlmcopenbeammaaGreat
