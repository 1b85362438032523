/-
  What Do of package policy does when it is called: any event. Condition: the policy is one that New and events made, and had less than 2^61 ages.
-/
import Derived.Test.YtlmcopenbeammaaPoEv
namespace Go.Proofs.Ytlmcopenbeammaa.Po
open Go.RowKit Go.Deep Cm

variable {w w' : World} {A S F X M mw : Nat} {G : Nat → Prop} {C seed : Int} {y : Ps}
set_option maxHeartbeats 1000000 in
theorem refuse_p (h : Pof w A S F X M G C seed mw y) (d n k v : Int) (hid : (Lit.int .i64 n).wf = true) :
    Calls Try.prog 21 #[ptr A, evV d n k v] w fun e w' => e = .returned (.int .i64 (refE y C d n v)) ∧ Grown w w' := by
  have hg := grown_ev w d n k v
  have AD := refAdd_p (h.grown hg) d n k v hid
  have HA := has_p (h.grown hg) hid
  have HW := heavy_p (h.grown hg) v
  clear h
  unfold ptr evV at *
  have ev : refE y C d n v = if d = 1 then refAdd y C n v else if d = 2 ∨ d = 3 ∨ d = 4 then (if (y.k n).isSome = false then 3 else if d = 3 then heavyE C v else 0) else 1 := rfl
  obtain ⟨ra, era⟩ : ∃ x, x = refAdd y C n v := ⟨_, rfl⟩
  obtain ⟨hv, ehv⟩ : ∃ x, x = heavyE C v := ⟨_, rfl⟩
  obtain ⟨b, eb⟩ : ∃ b, b = (y.k n).isSome := ⟨_, rfl⟩
  rw [← ehv] at HW ev
  rw [← eb] at HA ev
  rw [← era] at AD ev
  obtain ⟨r, er⟩ : ∃ r, r = refE y C d n v := ⟨_, rfl⟩
  rw [← er] at ev ⊢
  have EV : Hid (r = if d = 1 then ra else if d = 2 ∨ d = 3 ∨ d = 4 then (if b = false then 3 else if d = 3 then hv else 0) else 1) := ev
  clear ehv eb er ev era
  have done : ∀ z, r = z → Ending.returned (.int .i64 z) = Ending.returned (.int .i64 r) := fun z e => by rw [e]
  by_cases h1 : d = 1
  · have d1 : (d == 1) = true := by simpa using h1
    have e := EV.out
    rw [if_pos h1] at e
    have E : Hid (r = ra) := e
    clear e h1 EV HA HW
    go_enter Try.func21, Try.ntmps21
    go_wp2_with (go_at_call 40; refine AD.mono ?_; rintro e w2 ⟨rfl, g2⟩)
    go_ret
    exact ⟨done _ E.out, grownTrans hg g2⟩
  · have d1 : (d == 1) = false := by simpa using h1
    have e := EV.out
    rw [if_neg h1] at e
    clear EV AD
    by_cases h2 : d = 2
    · subst h2
      rw [if_pos (.inl rfl), if_neg (show ¬ (2 : Int) = 3 by decide)] at e
      cases b with
      | false =>
        have E : Hid (r = 3) := e
        clear e h1
        go_enter Try.func21, Try.ntmps21
        go_wp2_with (go_at_call 41; refine HA.mono ?_; rintro e w2 ⟨rfl, hw⟩; have hw := hw.symm; subst hw)
        go_ret
        exact ⟨done _ E.out, hg⟩
      | true =>
        have E : Hid (r = 0) := e
        clear e h1
        go_enter Try.func21, Try.ntmps21
        go_wp2_with (go_at_call 41; refine HA.mono ?_; rintro e w2 ⟨rfl, hw⟩; have hw := hw.symm; subst hw)
        go_ret
        exact ⟨done _ E.out, hg⟩
    · have d2 : (d == 2) = false := by simpa using h2
      by_cases h3 : d = 3
      · subst h3
        rw [if_pos (.inr (.inl rfl)), if_pos rfl] at e
        cases b with
        | false =>
          have E : Hid (r = 3) := e
          clear e h1 h2
          go_enter Try.func21, Try.ntmps21
          go_wp2_with (go_at_call 41; refine HA.mono ?_; rintro e w2 ⟨rfl, hw⟩; have hw := hw.symm; subst hw)
          go_ret
          exact ⟨done _ E.out, hg⟩
        | true =>
          have E : Hid (r = hv) := e
          clear e h1 h2
          go_enter Try.func21, Try.ntmps21
          go_wp2_with (first | (go_at_call 41; refine HA.mono ?_; rintro e w2 ⟨rfl, hw⟩; have hw := hw.symm; subst hw) | (go_at_call 42; refine HW.mono ?_; rintro e w3 ⟨rfl, hw⟩; have hw := hw.symm; subst hw))
          go_ret
          exact ⟨done _ E.out, hg⟩
      · have d3 : (d == 3) = false := by simpa using h3
        by_cases h4 : d = 4
        · subst h4
          rw [if_pos (.inr (.inr rfl)), if_neg (show ¬ (4 : Int) = 3 by decide)] at e
          cases b with
          | false =>
            have E : Hid (r = 3) := e
            clear e h1 h2 h3
            go_enter Try.func21, Try.ntmps21
            go_wp2_with (go_at_call 41; refine HA.mono ?_; rintro e w2 ⟨rfl, hw⟩; have hw := hw.symm; subst hw)
            go_ret
            exact ⟨done _ E.out, hg⟩
          | true =>
            have E : Hid (r = 0) := e
            clear e h1 h2 h3
            go_enter Try.func21, Try.ntmps21
            go_wp2_with (go_at_call 41; refine HA.mono ?_; rintro e w2 ⟨rfl, hw⟩; have hw := hw.symm; subst hw)
            go_ret
            exact ⟨done _ E.out, hg⟩
        · have d4 : (d == 4) = false := by simpa using h4
          rw [if_neg (fun h => h.elim h2 (fun h => h.elim h3 h4))] at e
          have E : Hid (r = 1) := e
          clear e h1 h2 h3 h4
          go_enter Try.func21, Try.ntmps21
          go_wp2
          go_ret
          exact ⟨done _ E.out, hg⟩

theorem heavy_zero {v : Int} (h : heavyE C v = 0) : 0 ≤ v ∧ v ≤ 2147483648 ∧ v ≤ C := by
  unfold heavyE at h
  split at h
  · exact absurd h (by omega)
  · split at h
    · exact absurd h (by omega)
    · omega
theorem refE_zero {d n v : Int} (h : refE y C d n v = 0) : (d = 1 ∧ 1 ≤ n ∧ n ≤ 65536 ∧ heavyE C v = 0 ∧ (y.k n).isSome = false) ∨ (d = 3 ∧ (y.k n).isSome = true ∧ heavyE C v = 0) ∨ (d = 2 ∧ (y.k n).isSome = true) ∨ (d = 4 ∧ (y.k n).isSome = true) := by
  unfold refE refAdd at h
  by_cases h1 : d = 1
  · rw [if_pos h1] at h
    split at h
    · exact absurd h (by omega)
    · split at h
      · exact absurd h (by assumption)
      · cases hk : (y.k n).isSome with
        | true => rw [hk] at h; exact absurd h (by decide)
        | false => exact .inl ⟨h1, by omega, by omega, by have := Decidable.of_not_not (by assumption : ¬ heavyE C v ≠ 0); exact this, rfl⟩
  · rw [if_neg h1] at h
    split at h
    · have hd : d = 2 ∨ d = 3 ∨ d = 4 := by assumption
      cases hk : (y.k n).isSome with
      | false => rw [hk, if_pos rfl] at h; exact absurd h (by decide)
      | true =>
        rw [hk, if_neg (by decide)] at h
        rcases hd with e | e | e
        · exact .inr (.inr (.inl ⟨e, rfl⟩))
        · rw [if_pos e] at h; exact .inr (.inl ⟨e, rfl, h⟩)
        · exact .inr (.inr (.inr ⟨e, rfl⟩))
    · exact absurd h (by decide)
/-- What Do leaves. -/
def Done (w : World) (A S F X M : Nat) (G : Nat → Prop) (C seed : Int) (mw : Nat) (y : Ps) (d n k v : Int) (p : Option Addr) (g c : Nat) (w' : World) : Prop :=
  ∃ G', g = (y.ev C seed mw d n k v).2.length ∧ Vec w' 3 1 p g c (idL (y.ev C seed mw d n k v).2) ∧ Pof w' A S F X M G' C seed mw (y.ev C seed mw d n k v).1 ∧ Step (foot A S F M G) (foot A S F M G') w w' ∧ ∀ i, In p i → ¬ foot A S F M G' i ∧ w.heap.size ≤ i
theorem Done.nil {d n k v : Int} {G' : Nat → Prop} (e : (y.ev C seed mw d n k v).2 = []) (P : Pof w' A S F X M G' C seed mw (y.ev C seed mw d n k v).1) (st : Step (foot A S F M G) (foot A S F M G') w w') : Done w A S F X M G C seed mw y d n k v none 0 0 w' :=
  ⟨G', by rw [e]; rfl, Vec.nil _ _ _ _, P, st, fun i hi => absurd hi In.no⟩
set_option maxRecDepth 100000 in
set_option maxHeartbeats 8000000 in
theorem do_p (h : Pof w A S F X M G C seed mw y) (hf : Fine C y) (ha : 0 ≤ y.f.a ∧ y.f.a ≤ 2305843009213693952) (d n k v : Int) (hid : (Lit.int .i64 n).wf = true) :
    Calls Try.prog 9 #[ptr A, evV d n k v] w fun e w' => ∃ p g c, e = .returned (.tuple #[.slice p g c, .int .i64 (refE y C d n v)]) ∧ Done w A S F X M G C seed mw y d n k v p g c w' := by
  have hg := grown_ev w d n k v
  have E0 := EvB.new w d n k v
  have RF := refuse_p (h.grown hg) d n k v hid
  have HP : Hid (Pof w A S F X M G C seed mw y) := h
  have HF : Hid (Fine C y ∧ (0 ≤ y.f.a ∧ y.f.a ≤ 4611686018427387903)) := ⟨hf, ha.1, by omega⟩
  have HB : Hid (¬ foot A S F M G w.heap.size) := fun hh => Nat.lt_irrefl _ (h.lt _ hh)
  have hC0 := (wh_le C).1
  rw [hf.cap] at hC0
  have hx0 := hf.win
  clear h hf ha
  by_cases hz : refE y C d n v = 0
  · have hev : y.ev C seed mw d n k v = if d = 1 then (y.ad C seed mw n k v).set C seed mw else if d = 3 then ((y.wtd n v).rd C seed mw n).set C seed mw else if d = 2 then (y.rd C seed mw n, []) else (y.rm n, []) := by unfold Ps.ev; rw [if_pos hz]
    have hcs := refE_zero hz
    rw [hz] at RF ⊢
    clear hz
    rcases hcs with ⟨rfl, n1, n2, hv, hk⟩ | ⟨rfl, hk, hv⟩ | ⟨rfl, hk⟩ | ⟨rfl, hk⟩
    · rw [if_pos rfl] at hev
      have HEV : Hid (y.ev C seed mw 1 n k v = (y.ad C seed mw n k v).set C seed mw) := hev
      obtain ⟨v0, v1, v2⟩ := heavy_zero hv
      have hb : Half C (y.ad C seed mw n k v) := by
        have h1 := (HF.out.1.half.rec1 (seed := seed) (mw := mw) k).hit false
        refine (h1.put n k v ⟨n1, n2⟩ ⟨v0, v1⟩ hk ?_).1
        have s := (hit_sm (C := C) (y := y.rec1 seed mw k) HF.out.1.wf false).tot
        rw [show (y.rec1 seed mw k).t.n = 3 from HF.out.1.n] at s
        rw [s]
        have := HF.out.1.tot
        have hc := wh_le C
        rw [HF.out.1.cap] at hc
        show y.t.tot 3 + v ≤ _
        omega
      have HH : Hid (Half C (y.ad C seed mw n k v) ∧ 1 ≤ n ∧ n ≤ 65536) := ⟨hb, n1, n2⟩
      clear hev hv hk v0 v1 v2 hb n1 n2
      unfold ptr evV at *
      go_enter Try.func9, Try.ntmps9
      go_wp2_with (first | (refine wpList_load_row rfl 28 (.tmp 3) rfl w.heap.size rfl 28 _ (0, 0) _ E0 Try.underlying28 rfl (infoE _ _ _ _) ?_) | (refine wpList_load_row rfl 28 (.tmp 3) rfl w.heap.size rfl 28 _ (0, 0) _ E2 Try.underlying28 rfl (infoE _ _ _ _) ?_) | (go_at_call 21; refine RF.mono ?_; rintro e w2 ⟨rfl, g2⟩; have P2 := (HP.out.grown hg).grown g2; have E2 : EvB w2 w.heap.size 1 n k v := (grown_block g2 (lt_of E0)).trans E0; have S2 := Step.grown (foot A S F M G) (grownTrans hg g2); clear E0; obtain ⟨e0, e1, e2, e3⟩ := E2.cells) | (go_at_call 22; have AD := add_p P2 (by rw [HF.out.1.n]; decide) HF.out.1.cap HF.out.1.win HF.out.2 1 n k v HH.out.2.1 HH.out.2.2; unfold ptr evV at AD; refine AD.mono ?_; clear AD; rintro e w3 ⟨rfl, G3, P3, T3⟩; have E3 := E2.out T3.out HB.out; have S3 := S2.trans T3; clear e0 e1 e2 e3 E2 P2; obtain ⟨e0, e1, e2, e3⟩ := E3.cells) | (go_at_call 26; have ST := settle_p P3 HH.out.1.n hC0 (pr_pos HH.out.1.cap HH.out.1.win).2.2 (by have := HH.out.1.tot; omega); unfold ptr at ST; refine ST.mono ?_; clear ST; rintro e w4 ⟨p, c, g, G4, rfl, hg4, hv4, P4, T4, hi4⟩; have HD : Hid (Done w A S F X M G C seed mw y 1 n k v p g c w4) := (by unfold Done; rw [HEV.out]; exact ⟨G4, hg4, hv4, P4, S3.trans T4, fun i hi => ⟨(hi4 i hi).1, Nat.le_trans S3.out.size (hi4 i hi).2⟩⟩); clear hg4 hv4 P4 T4 hi4))
      go_ret2
      exact ⟨p, g, c, rfl, HD.out⟩
    · rw [if_neg (by decide), if_pos rfl] at hev
      have HEV : Hid (y.ev C seed mw 3 n k v = ((y.wtd n v).rd C seed mw n).set C seed mw) := hev
      obtain ⟨v0, v1, v2⟩ := heavy_zero hv
      have hb1 : Half C (y.wtd n v) := (HF.out.1.half.wtd n v ⟨v0, v1⟩ hk (by
        have := HF.out.1.tot
        have hc := wh_le C
        rw [HF.out.1.cap] at hc
        omega)).1
      have HH : Hid (Half C (y.wtd n v) ∧ Half C ((y.wtd n v).rd C seed mw n) ∧ (Lit.int .i64 n).wf = true) := ⟨hb1, hb1.rd n, hid⟩
      clear hev hv hk v0 v1 v2 hb1
      unfold ptr evV at *
      go_enter Try.func9, Try.ntmps9
      go_wp2_with (first | (refine wpList_load_row rfl 28 (.tmp 3) rfl w.heap.size rfl 28 _ (0, 0) _ E0 Try.underlying28 rfl (infoE _ _ _ _) ?_) | (go_at_call 21; refine RF.mono ?_; rintro e w2 ⟨rfl, g2⟩; have P2 := (HP.out.grown hg).grown g2; have E2 : EvB w2 w.heap.size 3 n k v := (grown_block g2 (lt_of E0)).trans E0; have S2 := Step.grown (foot A S F M G) (grownTrans hg g2); clear E0; obtain ⟨e0, e1, e2, e3⟩ := E2.cells))
      have P3 := P2.grown (Grown.refl _).drew
      have E3 : EvB w2.drew w.heap.size 3 n k v := (grown_block (Grown.refl w2).drew (lt_of E2)).trans E2
      have S3 := S2.more (Grown.refl _).drew
      clear e0 e1 e2 e3 E2 P2 S2
      obtain ⟨c0, c1, c2, _⟩ := P3.pb.cells
      obtain ⟨e0, e1, e2, e3⟩ := E3.cells
      have RW := reweigh_a P3.dq v HH.out.2.2
      unfold ptr at RW
      refine region_flowN [(8, [])] 8 [(26, .pointer (some ⟨A, 0, none⟩)), (27, .pointer (some ⟨A, 0, none⟩)), (28, .pointer (some ⟨A, 1, none⟩)), (29, .pointer (some ⟨X, 0, none⟩)), (30, .pointer (some ⟨w.heap.size, 1, none⟩)), (31, .int .i64 n), (32, .pointer (some ⟨w.heap.size, 3, none⟩)), (33, .int .i64 v)] Cm.hmx (by kernel_rfl) (by decide) (by kernel_rfl) ?_
      simp only [fills, Act.put, List.setIfInBounds_toArray, List.set_cons_zero, List.set_cons_succ]
      refine flowN_only (8, []) [] (by kernel_rfl) (by rfl) ?r3 (stepN_call _ (some 34) 23 _ rfl rfl (by go_simp) (RW.mono ?_))
      case r3 =>
        clear HP HF HB RW P3 S3 E3 RF HEV HH hg
        intro i o ho hi hoff
        iterate 9 (rcases i with _ | i; · first | (exact absurd hi (by decide)) | (exact absurd hoff (by decide)) | (cases ho; go_simp))
        cases ho
      rintro e w4 ⟨rfl, G4, d4, t4⟩
      obtain ⟨P4, T4⟩ := P3.rows d4 t4
      have E4 := E3.out T4.out HB.out
      have S4 := S3.trans T4
      have b4 := T4.apart (G := fun i => i = w.heap.size) (fun i hi => by rw [hi]; exact lt_of E3) (fun i hi hf => by rw [hi] at hf; exact HB.out hf) w.heap.size rfl
      have HB4 : Hid (¬ foot A S F M G4 w.heap.size) := b4
      have P4' : Pof w4 A S F X M G4 C seed mw (y.wtd n v) := P4
      refine ⟨_, rfl, [], by kernel_rfl, ?_⟩
      simp only [fills, Act.put, List.setIfInBounds_toArray, List.set_cons_zero, List.set_cons_succ]
      refine flowN_done ?_
      clear RW c0 c1 c2 e0 e1 e2 e3 d4 t4 T4 P4 P3 S3 E3 b4
      obtain ⟨e0, e1, e2, e3⟩ := E4.cells
      go_wp2_with (first | (go_at_call 24; have RD := read_p P4' (by rw [HH.out.1.n]; decide) HH.out.1.cap HH.out.1.win HF.out.2 HH.out.2.2; unfold ptr at RD; refine RD.mono ?_; clear RD; rintro e w5 ⟨rfl, G5, P5, T5⟩; have E5 := E4.out T5.out HB4.out; have S5 := S4.trans T5; clear e0 e1 e2 e3 E4 P4'; obtain ⟨e0, e1, e2, e3⟩ := E5.cells) | (go_at_call 26; have ST := settle_p P5 HH.out.2.1.n hC0 (pr_pos HH.out.2.1.cap HH.out.2.1.win).2.2 (by have := HH.out.2.1.tot; omega); unfold ptr at ST; refine ST.mono ?_; clear ST; rintro e w6 ⟨p, c, g, G6, rfl, hg6, hv6, P6, T6, hi6⟩; have HD : Hid (Done w A S F X M G C seed mw y 3 n k v p g c w6) := (by unfold Done; rw [HEV.out]; exact ⟨G6, hg6, hv6, P6, S5.trans T6, fun i hi => ⟨(hi6 i hi).1, Nat.le_trans S5.out.size (hi6 i hi).2⟩⟩); clear hg6 hv6 P6 T6 hi6))
      go_ret2
      exact ⟨p, g, c, rfl, HD.out⟩
    · rw [if_neg (by decide), if_neg (by decide), if_pos rfl] at hev
      have HEV : Hid (y.ev C seed mw 2 n k v = (y.rd C seed mw n, [])) := hev
      have HI : Hid ((Lit.int .i64 n).wf = true) := hid
      clear hev hk
      unfold ptr evV at *
      go_enter Try.func9, Try.ntmps9
      go_wp2_with (first | (refine wpList_load_row rfl 28 (.tmp 3) rfl w.heap.size rfl 28 _ (0, 0) _ E0 Try.underlying28 rfl (infoE _ _ _ _) ?_) | (go_at_call 21; refine RF.mono ?_; rintro e w2 ⟨rfl, g2⟩; have P2 := (HP.out.grown hg).grown g2; have E2 : EvB w2 w.heap.size 2 n k v := (grown_block g2 (lt_of E0)).trans E0; have S2 := Step.grown (foot A S F M G) (grownTrans hg g2); clear E0; obtain ⟨e0, e1, e2, e3⟩ := E2.cells) | (go_at_call 24; have RD := read_p P2 (by rw [HF.out.1.n]; decide) HF.out.1.cap HF.out.1.win HF.out.2 HI.out; unfold ptr at RD; refine RD.mono ?_; clear RD; rintro e w5 ⟨rfl, G5, P5, T5⟩; have E5 := E2.out T5.out HB.out; have S5 := S2.trans T5; clear e0 e1 e2 e3 E2 P2; obtain ⟨e0, e1, e2, e3⟩ := E5.cells))
      go_ret2
      exact ⟨none, 0, 0, rfl, Done.nil (by rw [HEV.out]) (by rw [HEV.out]; exact P5) S5⟩
    · rw [if_neg (by decide), if_neg (by decide), if_neg (by decide)] at hev
      have HEV : Hid (y.ev C seed mw 4 n k v = (y.rm n, [])) := hev
      have HI : Hid ((Lit.int .i64 n).wf = true) := hid
      clear hev hk
      unfold ptr evV at *
      go_enter Try.func9, Try.ntmps9
      go_wp2_with (first | (refine wpList_load_row rfl 28 (.tmp 3) rfl w.heap.size rfl 28 _ (0, 0) _ E0 Try.underlying28 rfl (infoE _ _ _ _) ?_) | (go_at_call 21; refine RF.mono ?_; rintro e w2 ⟨rfl, g2⟩; have P2 := (HP.out.grown hg).grown g2; have E2 : EvB w2 w.heap.size 4 n k v := (grown_block g2 (lt_of E0)).trans E0; have S2 := Step.grown (foot A S F M G) (grownTrans hg g2); clear E0; obtain ⟨e0, e1, e2, e3⟩ := E2.cells) | (go_at_call 25; have RD := remove_p P2 HI.out; unfold ptr at RD; refine RD.mono ?_; clear RD; rintro e w5 ⟨rfl, G5, P5, T5⟩; have E5 := E2.out T5.out HB.out; have S5 := S2.trans T5; clear e0 e1 e2 e3 E2 P2; obtain ⟨e0, e1, e2, e3⟩ := E5.cells))
      go_ret2
      exact ⟨none, 0, 0, rfl, Done.nil (by rw [HEV.out]) (by rw [HEV.out]; exact P5) S5⟩
  · have HEV : Hid (y.ev C seed mw d n k v = (y, [])) := by unfold Hid Ps.ev; rw [if_neg hz]
    obtain ⟨r, hr⟩ : ∃ r, r = refE y C d n v := ⟨_, rfl⟩
    rw [← hr] at RF hz ⊢
    have hd : (r == 0) = false := by simpa using hz
    clear hr hz
    unfold ptr evV at *
    go_enter Try.func9, Try.ntmps9
    go_wp2_with (first | (refine wpList_load_row rfl 28 (.tmp 3) rfl w.heap.size rfl 28 _ (0, 0) _ E0 Try.underlying28 rfl (infoE _ _ _ _) ?_) | (go_at_call 21; refine RF.mono ?_; rintro e w2 ⟨rfl, g2⟩; have P2 := (HP.out.grown hg).grown g2; have E2 : EvB w2 w.heap.size d n k v := (grown_block g2 (lt_of E0)).trans E0; have S2 := Step.grown (foot A S F M G) (grownTrans hg g2); clear E0; obtain ⟨e0, e1, e2, e3⟩ := E2.cells))
    go_ret2
    exact ⟨none, 0, 0, rfl, Done.nil (by rw [HEV.out]) (by rw [HEV.out]; exact P2) S2⟩
end Go.Proofs.Ytlmcopenbeammaa.Po
