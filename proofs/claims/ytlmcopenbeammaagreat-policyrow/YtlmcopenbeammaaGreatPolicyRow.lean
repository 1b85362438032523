/-
  Proved: pantrylaw11.PolicyRow returns true for every capacity, every seed and any events: Play does what Do of each does, in order, and changes nothing that is handed in. No condition.
-/
import Derived.Test.YtlmcopenbeammaaGreatRows
import Derived.WalkKit
import Derived.ProofKit
import Derived.OpenShut
import Derived.Test.YtlmcopenbeammaaGreatPoRow
import Derived.ShutString
import Derived.ChangeOld
import Derived.Below
import Derived.Test.YtlmcopenbeammaaGreatGenArgs
namespace Go.Proofs.YtlmcopenbeammaaGreat.policyRow
open Go.ChangeShapes Go.WideShapes Go.ChangeAt Go.RowKit
set_option linter.unusedVariables false

theorem own : ownKnob Tryz.prog.godebug = none := by kernel_rfl
theorem laidOut : laidOutB Tryz.prog = true := by kernel_rfl

/-! ### The walk: the law returns true, and writes nothing that was there -/
open Go.Proofs.YtlmcopenbeammaaGreat.Po Go.Deep in set_option maxRecDepth 100000 in set_option maxHeartbeats 8000000 in
theorem walk (a0 : Int) (a1 : Int) (a2 : Option Addr) (len2 cap2 : Nat) (z2 : Nat → Nat → Int) (w : World) (w0 : (Lit.int .i64 a0).wf = true) (w1 : (Lit.int .i64 a1).wf = true) (w2 : IsGrid .i64 4 w a2 len2 cap2 z2) :
    Calls Tryz.prog 3 #[.int .i64 a0, .int .i64 a1, .slice a2 len2 cap2] w fun e w' => e = .returned (.bool true) ∧ Grown w w' := by
  have SM := fun w => small_q w
  by_cases hl : 300 < len2
  · have d3 : decide (300 < (len2 : Int)) = true := by rw [decide_eq_true_eq]; omega
    go_enter Tryz.func3, Tryz.ntmps3
    go_wp2_with (first | (go_at_call 6; refine (SM _).mono ?_; rintro e w1 ⟨rfl, g1⟩))
    go_ret
    exact ⟨rfl, g1⟩
  have d3 : decide (300 < (len2 : Int)) = false := by rw [decide_eq_false_iff_not]; omega
  by_cases hc : 1024 < a0
  · have d4 : decide (1024 < a0) = true := by simpa using hc
    go_enter Tryz.func3, Tryz.ntmps3
    go_wp2_with (first | (go_at_call 6; refine (SM _).mono ?_; rintro e w1 ⟨rfl, g1⟩))
    go_ret
    exact ⟨rfl, g1⟩
  have d4 : decide (1024 < a0) = false := by simpa using hc
  have HL : Hid (len2 ≤ 300) := by show len2 ≤ 300; omega
  have HG : Hid (IsGrid .i64 4 w a2 len2 cap2 z2) := w2
  have hlI : (len2 : Int) ≤ 300 := by omega
  have NW := fun w => new_p a0 a1 w
  have NT := fun (W : World) (g : Grown w W) A Φ h hb => new_two a0 a1 w W g (A := A) (Φ := Φ) h hb
  have hcap : wh (wh a0) = wh a0 := wh_wh a0
  obtain ⟨C, hCC⟩ : ∃ C, C = wh a0 := ⟨_, rfl⟩
  obtain ⟨mw, hmw⟩ : ∃ m, m = mwid a0 := ⟨_, rfl⟩
  rw [← hCC] at hcap
  simp only [← hCC, ← hmw] at NW NT
  have HZ : Hid (Fine C (Ps.zero C)) := zero_fine hcap
  have HPO : Hid (∀ k, Fine C (pl C a1 mw z2 (Ps.zero C) k).1 ∧ 0 ≤ (pl C a1 mw z2 (Ps.zero C) k).1.f.a ∧ (pl C a1 mw z2 (Ps.zero C) k).1.f.a ≤ k ∧ (pl C a1 mw z2 (Ps.zero C) k).2.length ≤ 196608 * k) := fun k => by
    obtain ⟨q1, q2, q3, q4⟩ := pl_ok (C := C) (seed := a1) (mw := mw) (z := z2) HZ.out (show (0 : Int) ≤ (Ps.zero C).f.a from Int.le_refl _) k
    exact ⟨q1, q2, by have : (Ps.zero C).f.a = 0 := rfl; omega, q4⟩
  have HW : Hid (∀ i, i < len2 → (Lit.int .i64 (z2 i 1)).wf = true) := fun i hi => by
    rcases w2 with ⟨_, h, _⟩ | ⟨x, _, _, _, hq⟩
    · omega
    · exact (hq i hi 1 (by decide)).2
  have HC : Hid (wh C = C) := hcap
  obtain ⟨S, hS⟩ : ∃ S, S = (pl C a1 mw z2 (Ps.zero C) len2).1 := ⟨_, rfl⟩
  obtain ⟨G, hG⟩ : ∃ G, G = (pl C a1 mw z2 (Ps.zero C) len2).2 := ⟨_, rfl⟩
  have HS : Hid (S = (pl C a1 mw z2 (Ps.zero C) len2).1 ∧ G = (pl C a1 mw z2 (Ps.zero C) len2).2) := ⟨hS, hG⟩
  have PL : ∀ w5 A B X vs, Two w w5 A B C a1 mw (Ps.zero C) X vs → ∀ p cap, evS p len2 cap z2 ∈ vs → Calls Tryz.prog 8 #[ptr A, .slice p len2 cap] w5 fun e w' => ∃ q g c, e = .returned (.slice q g c) ∧ g = G.length ∧ Two w w' A B C a1 mw S X (nums q g c G :: vs) := fun w5 A B X vs h p cap hV => by
    rw [hS, hG]
    exact play_in h HZ.out ⟨Int.le_refl _, by show (0 : Int) ≤ _; omega⟩ hV HW.out (by have := HL.out; omega)
  have T : Hid True := trivial
  clear hl hc w2 hS hG hcap
  unfold ptr at *
  go_enter Tryz.func3, Tryz.ntmps3
  go_wp2_with (first | (go_at_call 6; refine (SM _).mono ?_; rintro e w1 ⟨rfl, g1⟩) | (go_at_call 7; clear T; refine (NW _).mono ?_; rintro e w4 ⟨A, Φ, rfl, P4, g4, b4⟩; have gA := grownTrans g1 g4; have bA := (fun k hk => Nat.le_trans g1.2.2 (b4 k hk))) | (go_at_call 7; refine (NT _ gA A Φ P4 bA).mono ?_; rintro e w5 ⟨B, rfl, T5⟩; clear P4 g4 b4 gA bA NW NT g1) | (at_builtin; refine wpList_append_any rfl (.tmp 38) (.tmp 39) 22 rfl Tryz.underlying22 infoEv rfl rfl (Vec.laid _ _ #[] 0 4 (by decide) rfl (fun _ => undef) (fun j hj => absurd hj (by omega))) rfl (copy_ev HG.out (grownTrans T5.old ((Grown.refl _).alloc _ _))) (fun j hj => rfl) (by have := HL.out; omega) (by have := HL.out; omega) ?_; intro p6 c6 w6 hv6 ho6 hp6; obtain ⟨e6, g6, n6⟩ := copied hv6 ho6 hp6; have T6 := T5.add g6 e6 n6; clear hv6 ho6 hp6 e6 g6 n6 T5; simp only [Nat.zero_add]) | (go_at_call 8; refine (PL _ _ _ _ _ T6 _ _ List.mem_cons_self).mono ?_; rintro e w7 ⟨q, g, cg, rfl, hg, T7⟩; clear PL T6; have HGG : Hid (g = G.length) := hg; clear hg; replace T7 := T7.swap))
  obtain ⟨base, hbase⟩ : ∃ b, b = [nums q g cg G, evS p6 len2 c6 z2] := ⟨_, rfl⟩
  rw [← hbase] at T7
  have HB : Hid (nums q g cg G ∈ base ∧ evS p6 len2 c6 z2 ∈ base) := by rw [hbase]; exact ⟨List.mem_cons_self, List.mem_cons_of_mem _ List.mem_cons_self⟩
  have H7 : Hid (Two w w7 B A C a1 mw (Ps.zero C) S base) := T7
  clear hbase T7
  go_loopw [12, 13] (fun s i wr => ∃ (k : Nat) (p : Option Addr) (N c : Nat), k ≤ len2 ∧ s = .slice p N c ∧ i = .int .i64 k ∧ Hid (N = (pl C a1 mw z2 (Ps.zero C) k).2.length ∧ Two w wr B A C a1 mw (pl C a1 mw z2 (Ps.zero C) k).1 S (nums p N c (pl C a1 mw z2 (Ps.zero C) k).2 :: base) ∧ ∀ U ∈ base, ∀ j, In U.p j → ¬ In p j)) (fun _ i _ => len2 - (intOf i).toNat)
  case atStart => exact ⟨0, none, 0, 0, by omega, rfl, rfl, rfl, H7.out.add (Grown.refl _) (V := nums none 0 0 []) (Vec.nil _ _ _ _) (fun k hk => absurd hk In.no), fun U _ j _ => In.no⟩
  case round =>
    obtain ⟨k, p, N, c, hk, rfl, rfl, HT⟩ := hrel
    by_cases hlt : k < len2
    · have hd : decide ((k : Int) < (len2 : Int)) = true := by rw [decide_eq_true_eq]; omega
      obtain ⟨q1, q2, q3, q4⟩ := HPO.out k
      obtain ⟨L, hLL⟩ : ∃ L, L = (pl C a1 mw z2 (Ps.zero C) k).2 := ⟨_, rfl⟩
      obtain ⟨y, hy⟩ : ∃ y, y = (pl C a1 mw z2 (Ps.zero C) k).1 := ⟨_, rfl⟩
      rcases grid_open (by decide) HG.out with h0 | ⟨b, off, rfl, hbl, hc⟩
      · omega
      obtain ⟨b6, e6, hb6, hc6⟩ := evS_cell (HT.out.2.1.on (List.mem_cons_of_mem _ HB.out.2)) hlt
      subst e6
      have hid := HW.out k hlt
      obtain ⟨zd, ezd⟩ : ∃ x, x = z2 k 0 := ⟨_, rfl⟩
      obtain ⟨zn, ezn⟩ : ∃ x, x = z2 k 1 := ⟨_, rfl⟩
      obtain ⟨zk, ezk⟩ : ∃ x, x = z2 k 2 := ⟨_, rfl⟩
      obtain ⟨zv, ezv⟩ : ∃ x, x = z2 k 3 := ⟨_, rfl⟩
      have HR : Hid (∀ W, Grown w W → W.rangeAt b (off + k * 4) [.int .i64 zd, .int .i64 zn, .int .i64 zk, .int .i64 zv]) := fun W g => by
        have := Evs.range (w := W) (b := b) (off := off) (k := k) (z := z2) (fun j hj => by rw [cell_same (grown_block g hbl)]; exact hc k hlt j hj)
        rw [← ezd, ← ezn, ← ezk, ← ezv] at this; exact this
      have HQ : Hid (∀ W vs, Two w W B A C a1 mw ((y.ev C a1 mw zd zn zk zv).1) S vs → evS (some ⟨b6, 0, none⟩) len2 c6 z2 ∈ vs → W.rangeAt b6 (0 + k * 4) [.int .i64 zd, .int .i64 zn, .int .i64 zk, .int .i64 zv]) := fun W vs h hm => by
        obtain ⟨b', e', _, h'⟩ := evS_cell (h.on hm) hlt
        cases e'
        have := Evs.range (w := W) (b := b6) (off := 0) (k := k) (z := z2) (fun j hj => h' k hlt j hj)
        rw [← ezd, ← ezn, ← ezk, ← ezv] at this; exact this
      have HN : Hid (pl C a1 mw z2 (Ps.zero C) (k + 1) = ((y.ev C a1 mw zd zn zk zv).1, L ++ (y.ev C a1 mw zd zn zk zv).2)) := by
        rw [hLL, hy, ezd, ezn, ezk, ezv]; rfl
      rw [← hy] at q1 q2 q3
      rw [← hLL] at q4
      rw [← hLL, ← hy] at HT
      rw [← ezn] at hid
      have DO := do_two HT.out.2.1 q1 ⟨q2, by have := HL.out; omega⟩ zd zn zk zv hid
      have q5 := gone_short (C := C) (seed := a1) (mw := mw) q1 zd zn zk zv
      have hNb : N ≤ 196608 * 300 := by rw [HT.out.1]; have := HL.out; omega
      obtain ⟨E, hE⟩ : ∃ E, E = (y.ev C a1 mw zd zn zk zv).2 := ⟨_, rfl⟩
      obtain ⟨ye, hye⟩ : ∃ E, E = (y.ev C a1 mw zd zn zk zv).1 := ⟨_, rfl⟩
      obtain ⟨re, hre⟩ : ∃ E, E = refE y C zd zn zv := ⟨_, rfl⟩
      rw [← hE] at DO HN q5
      rw [← hye] at DO HN HQ
      rw [← hre] at DO
      have hr0 := HR.out _ HT.out.2.1.old
      have HNb : Hid (N ≤ 196608 * 300 ∧ E.length ≤ 196608) := ⟨hNb, q5⟩
      clear hLL hy ezd ezn ezk ezv hE hye hre q1 q2 q3 q4 q5 hid hc hc6 hb6 hNb
      unfold ptr evV at *
      go_wp2_with (first | (refine wpList_load_mid rfl 32 (.tmp 54) rfl b (off + k * 4) rfl [.int .i64 zd, .int .i64 zn, .int .i64 zk, .int .i64 zv] _ hr0 Tryz.underlying32 rfl (infoE zd zn zk zv) ?_) | (go_at_call 9; refine DO.mono ?_; clear DO hr0; rintro e w8 ⟨p8, g8, c8, rfl, hg8, T8⟩; have HG8 : Hid (g8 = E.length ∧ Two w w8 B A C a1 mw ye S (nums p8 g8 c8 E :: nums p N c L :: base)) := ⟨hg8, T8⟩; clear hg8 T8) | (at_builtin; refine wpList_append_any rfl (.tmp 59) (.tmp 60) 26 rfl Tryz.underlying26 infoIntD rfl rfl (HG8.out.2.on (List.mem_cons_of_mem _ List.mem_cons_self)) rfl (nums_cells HG8.out.2 List.mem_cons_self) (fun j hj => rfl) (by have := HG8.out.1; have := HNb.out; omega) (by have := HG8.out.1; have := HNb.out; omega) ?_; intro p9 c9 w9 hv9 ho9 hp9; have H9 : Hid _ := all_add HG8.out.2 HT.out.2.2 HT.out.1 hv9 ho9 hp9; clear hv9 ho9 hp9))
      obtain ⟨T9, ap9⟩ := H9.out
      have h1 := HQ.out _ _ (T9.grown (Grown.refl _).drew) (List.mem_cons_of_mem _ HB.out.2)
      have h2 := HR.out _ (T9.grown (Grown.refl _).drew).old
      have H10 : Hid _ := T9.grown (Grown.refl _).drew
      have HAP : Hid _ := ap9
      have gEv := guardEv
      have hEv := eqEv zd zn zk zv zd zn zk zv
      have b0 : (zd == zd) = true := by simp
      have b1 : (zn == zn) = true := by simp
      have b2 : (zk == zk) = true := by simp
      have b3 : (zv == zv) = true := by simp
      clear T9 ap9 H9 HQ HR
      refine region_flowN [(8, [])] 8 [(62, .slice (some ⟨b6, 0, none⟩) len2 c6), (63, .int .i64 k), (64, .pointer (some ⟨b6, 0 + k * 4, none⟩)), (65, .agg #[.int .i64 zd, .int .i64 zn, .int .i64 zk, .int .i64 zv]), (66, .slice (some ⟨b, off, none⟩) len2 cap2), (67, .int .i64 k), (68, .pointer (some ⟨b, off + k * 4, none⟩)), (69, .agg #[.int .i64 zd, .int .i64 zn, .int .i64 zk, .int .i64 zv])] Cm.hmx (by kernel_rfl) (by decide) (by kernel_rfl) ?_
      simp only [fills, Act.put, List.setIfInBounds_toArray, List.set_cons_zero, List.set_cons_succ]
      refine flowN_only (8, []) [] (by kernel_rfl) (by rfl) ?run (stepN_val _ (some 70) (.bool false) w9.drew [] rfl rfl ?ev (by kernel_rfl) ?nx)
      case run =>
        clear H10 HT HG8 HNb HN HAP
        intro i o ho hi hoff
        iterate 9 (rcases i with _ | i; · first | (exact absurd hi (by decide)) | (exact absurd hoff (by decide)) | (cases ho; exact exec_load_mid 32 (.tmp 64) rfl b6 (0 + k * 4) rfl [.int .i64 zd, .int .i64 zn, .int .i64 zk, .int .i64 zv] _ h1 Tryz.underlying32 rfl (infoE zd zn zk zv)) | (cases ho; exact exec_load_mid 32 (.tmp 68) rfl b (off + k * 4) rfl [.int .i64 zd, .int .i64 zn, .int .i64 zk, .int .i64 zv] _ h2 Tryz.underlying32 rfl (infoE zd zn zk zv)) | (cases ho; go_simp))
        cases ho
      case ev =>
        clear H10 HT HG8 HNb HN HAP h1 h2
        go_simp
      case nx =>
        simp only [fills, Act.put, List.setIfInBounds_toArray, List.set_cons_zero, List.set_cons_succ]
        refine flowN_done ?_
        clear h1 h2 gEv hEv b0 b1 b2 b3
        go_wp2
        refine ⟨⟨k + 1, p9, N + g8, c9, by omega, rfl, by go_num, ?_, ?_, HAP.out⟩, by simp [intOf]; omega⟩
        · rw [HN.out, HT.out.1, HG8.out.1]; simp
        · rw [HN.out]; exact H10.out
    · obtain ⟨M, hM⟩ : ∃ M, M = len2 := ⟨_, rfl⟩
      have hkM : k = M := by omega
      have HK : Hid (N = G.length ∧ Two w wr A B C a1 mw S S (nums p N c G :: base)) := by
        rw [hkM, hM, ← HS.out.1, ← HS.out.2] at HT
        exact ⟨HT.out.1, HT.out.2.1.swap⟩
      have hd : decide ((k : Int) < (len2 : Int)) = false := by rw [decide_eq_false_iff_not]; omega
      obtain ⟨vs, hvs⟩ : ∃ vs, vs = nums p N c G :: base := ⟨_, rfl⟩
      have HV : Hid (nums p N c G ∈ vs ∧ nums q g cg G ∈ vs) := by rw [hvs]; exact ⟨List.mem_cons_self, List.mem_cons_of_mem _ HB.out.1⟩
      rw [← hvs] at HK
      obtain ⟨q1, q2, q3, q4⟩ := HPO.out len2
      rw [← HS.out.1] at q1
      rw [← HS.out.2] at q4
      have hgb : g ≤ 100000000 := by rw [HGG.out]; have := HL.out; omega
      have hNg : N = g := by rw [HK.out.1, HGG.out]
      subst hNg
      have hw3 := q1.wf
      have hT : S.t.tot 3 ≤ 9223372036854775807 := by have := q1.tot; have := wh_le C; rw [HC.out] at this; omega
      have hlen : ∀ row, (S.t.rowI row).length ≤ 1000000 := fun row => by
        unfold Ds.rowI
        split
        · have := hw3.lenD row.toNat; omega
        · simp
      obtain ⟨R, hR⟩ : ∃ L : Int → Nat, L = fun row => (S.t.rowI row).length := ⟨_, rfl⟩
      obtain ⟨D, hD⟩ : ∃ L : Int → List Int, L = fun row => (S.t.rowI row).map (·.1) := ⟨_, rfl⟩
      have RA : ∀ W A B vs, Two w W A B C a1 mw S S vs → ∀ row, Calls Tryz.prog 11 #[ptr A, .int .i64 row] W fun e w' => ∃ p c, e = .returned (.slice p (R row) c) ∧ Two w w' A B C a1 mw S S (nums p (R row) c (D row) :: vs) := fun W A B vs h row => by
        refine (row_two h row).mono ?_
        rintro e w' ⟨p, c, k, rfl, rfl, h'⟩
        exact ⟨p, c, by rw [hR], by rw [hR, hD]; exact h'⟩
      have HLN : Hid (∀ row, R row ≤ 1000000) := by rw [hR]; exact hlen
      have WT : ∀ W A B, Two w W A B C a1 mw S S vs → Calls Tryz.prog 12 #[ptr A] W fun e w' => e = .returned (.int .i64 (S.t.tot 3)) ∧ Two w w' A B C a1 mw S S vs := fun W A B h => weight_two h hT
      have QT : ∀ W A B, Two w W A B C a1 mw S S vs → Calls Tryz.prog 13 #[ptr A] W fun e w' => e = .returned (.agg #[.int .i64 C, .int .i64 S.q.x, .int .i64 (pr C S.q.x)]) ∧ Two w w' A B C a1 mw S S vs := fun W A B h => quota_two h
      obtain ⟨tt, htt⟩ : ∃ t, t = S.t.tot 3 := ⟨_, rfl⟩
      obtain ⟨xx, hxx⟩ : ∃ t, t = S.q.x := ⟨_, rfl⟩
      obtain ⟨pp, hpp⟩ : ∃ t, t = pr C S.q.x := ⟨_, rfl⟩
      rw [← htt] at WT
      rw [← hxx] at QT hpp
      rw [← hpp] at QT
      have H3 : Hid (Two w wr A B C a1 mw S S vs) := HK.out.2
      unfold ptr at *
      clear HT hvs q1 q2 q3 q4 hw3 hT hlen hR hD htt hxx hpp HK hM hkM HPO HZ HW HG HB H7 HL HC hlI
      go_wp2
      go_loopw [16] (fun i wr => ∃ k : Nat, k ≤ 3 ∧ i = .int .i64 k ∧ Hid (Two w wr A B C a1 mw S S vs)) (fun i _ => 3 - (intOf i).toNat)
      case atStart => exact ⟨0, by omega, rfl, H3.out⟩
      case round =>
        clear hk hd
        obtain ⟨k, hk, rfl, HT0⟩ := hrel
        have T0 := HT0.out
        by_cases hlt : k < 3
        · have hd : decide ((k : Int) < 3) = true := by rw [decide_eq_true_eq]; omega
          go_wp2_with (first | (go_at_call 11; with_reducible refine (RA _ _ _ _ T0 _).mono ?_; rintro e wa ⟨pa, ca, rfl, Ta⟩; clear T0; replace Ta := Ta.swap) | (go_at_call 11; with_reducible refine (RA _ _ _ _ Ta _).mono ?_; rintro e wb ⟨pb, cb, rfl, Tb⟩) | (go_at_call 10; refine (ints_two Tb (l := D k) (List.mem_cons_of_mem _ List.mem_cons_self) List.mem_cons_self (HLN.out _)).mono ?_; rintro e wc ⟨rfl, Tc⟩))
          go_roundw
          case rel => exact ⟨k + 1, by omega, by go_num, (Tc.swap.less fun V hV => List.mem_cons_of_mem _ (List.mem_cons_of_mem _ hV))⟩
          case measure => simp [intOf]; omega
        · obtain rfl : k = 3 := by omega
          have gq := guardQ
          have he := eqQ
          go_wp2_with (first | (go_at_call 10; refine (ints_tw T0 (l := G) HV.out.2 HV.out.1 hgb).mono ?_; rintro e wa ⟨rfl, Ta⟩; clear T0) | (go_at_call 12; with_reducible refine (WT _ _ _ Ta).mono ?_; rintro e wb ⟨rfl, Tb⟩; clear Ta; replace Tb := Tb.swap) | (go_at_call 12; with_reducible refine (WT _ _ _ Tb).mono ?_; rintro e wc ⟨rfl, Tc⟩; clear Tb; replace Tc := Tc.swap) | (go_at_call 13; with_reducible refine (QT _ _ _ Tc).mono ?_; rintro e wd ⟨rfl, Td⟩; clear Tc; replace Td := Td.swap) | (go_at_call 13; with_reducible refine (QT _ _ _ Td).mono ?_; rintro e we ⟨rfl, Te⟩; clear Td))
          go_ret
          exact ⟨rfl, Te.old⟩

/-! ### The row's step -/
set_option maxRecDepth 100000 in
theorem lifted (os : Os) (started : os.Started) (H : Type) (enc : TypeId × Value → H) :
    ReturnsInHanded {} Tryz.checked os 3 .any (Rows.policyRowSpec.pre6 enc Tryz.prog Tryz.f3 Rows.policyRowRow.domain false) (Rows.policyRowSpec.post enc Tryz.prog Tryz.f3 false true false false) := by
  refine returnsInHanded_of_change (C := Tryz.checked) own started (by kernel_rfl) Tryz.func3
    (ChangeSpec.witness6 (enc := enc) (C := Tryz.checked) false ⟨#[], #[.int .i64 0, .int .i64 0, .slice none 0 0], []⟩ 8 (by kernel_rfl) (by kernel_rfl) (by kernel_rfl) (by kernel_rfl)) ?_
  intro W base args ds gs before hval0 hW hcnd _
  have hval : ∀ (j : Nat) t v, Tryz.f3.params[j]? = some t → args[j]? = some v → Value.okWide Tryz.prog W .any base t v := hval0
  have hW' := hW
  obtain ⟨p, q, hA0, hV, rfl, hfz, hnd⟩ := hW
  have hA : DataW.TrodAll enc Tryz.prog W 0 (fun _ => true) true Tryz.f3.params.toList args.toList ds p := hA0
  rw [Tryz.params3] at hA hval
  obtain ⟨v0, vs0, d0, ds0, p0, q0, hargs, rfl, rfl, h0, r0⟩ := trodAll_cons hA
  obtain ⟨v1, vs1, d1, ds1, p1, q1, rfl, rfl, rfl, h1, r1⟩ := trodAll_cons r0
  obtain ⟨v2, vs2, d2, ds2, p2, q2, rfl, rfl, rfl, h2, r2⟩ := trodAll_cons r1
  obtain ⟨rfl, rfl, rfl⟩ := trodAll_nil r2
  obtain rfl : args = #[v0, v1, v2] := by cases args; simp_all
  obtain ⟨rfl, rfl⟩ := trodVars_none hV
  obtain ⟨a0, rfl, rfl, rfl, w0⟩ := open_int Tryz.underlying3 (hval 0 3 v0 rfl rfl) h0
  obtain ⟨a1, rfl, rfl, rfl, w1⟩ := open_int Tryz.underlying3 (hval 1 3 v1 rfl rfl) h1
  obtain ⟨a2, len2, cap2, rfl⟩ := okWide_slice Tryz.underlying22 (hval 2 22 v2 rfl rfl)
  have k2 := h2
  have lt2 : ∀ x ∈ p2, x.block < W.heap.size := by obtain ⟨m, hm⟩ := k2; exact DataW.trod_lt m _ _ _ hm
  obtain ⟨z2, w2⟩ := open_structs (n := 4) (k := .i64) Tryz.underlying22 Tryz.underlying32 (by kernel_rfl) (by
    intro i hi
    match i, hi with
    | 0, _ => exact ⟨_, rfl, Tryz.underlying3, by kernel_rfl, rfl⟩
    | 1, _ => exact ⟨_, rfl, Tryz.underlying3, by kernel_rfl, rfl⟩
    | 2, _ => exact ⟨_, rfl, Tryz.underlying3, by kernel_rfl, rfl⟩
    | 3, _ => exact ⟨_, rfl, Tryz.underlying3, by kernel_rfl, rfl⟩) h2
  clear hA0 hval0
  refine (walk a0 a1 a2 len2 cap2 z2 W w0 w1 w2).mono fun e W' ⟨he, bel⟩ => ?_
  subst he
  exact ⟨_, rfl, _, _, _, [], _, [], hW', trodAll_mk1 (shut_bool Tryz.underlying4 _), (trodAll_cons_mk (shut_int Tryz.underlying3 w0) (trodAll_cons_mk (shut_int Tryz.underlying3 w1) (trodAll_cons_mk (grown_trod laidOut (by kernel_rfl) (of_decide_eq_true (by kernel_rfl)) k2 bel lt2) trodAll_mk0))), rfl, bel.frame _, fun h => by cases h⟩

theorem over : Rows.policyRowRow.holds Tryz.pinned (OpenSpec.ofChange Rows.policyRowSpec) :=
  OpenClaim.holds_of_wide 3 Tryz.f3 rfl rfl rfl rfl rfl rfl rfl ⟨rfl, rfl, rfl, rfl, rfl⟩ rfl rfl rfl rfl rfl (by kernel_rfl) Tryz.func3 (by kernel_rfl)
    (of_decide_eq_true (by kernel_rfl)) (by unfold Func.isWrapper; first | (rw [if_pos (by decide +kernel)]; kernel_rfl) | (rw [if_neg (by decide +kernel)]; exact ⟨rfl, rfl⟩))
    (fun os started H enc _ => lifted os started H enc)

/-- The statement. -/
theorem proved : Rows.PolicyRowSaid := over
end Go.Proofs.YtlmcopenbeammaaGreat.policyRow

namespace Go.Proofs.YtlmcopenbeammaaGreat
/-- The given statement. -/
theorem policyRow_holds : Rows.PolicyRowSaid := policyRow.proved
#print axioms policyRow_holds
end Go.Proofs.YtlmcopenbeammaaGreat
