/-
  Proved: pantrylaw13.StripesPlay returns true for every count, size, seed and slice of pairs: stripes answer as the document's own, call by call (P13.1, P13.2). No condition.
-/
import Derived.Test.YtbboomhgigaobaaRows
import Derived.WalkKit
import Derived.ProofKit
import Derived.OpenShut
import Derived.Test.YtbboomhgigaobaaSpPlay
import Derived.Deep.CutRange
import Derived.ShutString
import Derived.ChangeOld
import Derived.Below
import Derived.Test.YtbboomhgigaobaaGenArgs
namespace Go.Proofs.Ytbboomhgigaobaa.stripesPlay
open Go.ChangeShapes Go.WideShapes Go.ChangeAt Go.RowKit
set_option linter.unusedVariables false

theorem own : ownKnob Try.prog.godebug = none := by kernel_rfl
theorem laidOut : laidOutB Try.prog = true := by kernel_rfl

/-! ### The walk: the law returns true, and writes nothing that was there -/
open Go.Proofs.Ytbboomhgigaobaa.Rn in set_option maxRecDepth 100000 in set_option maxHeartbeats 16000000 in
theorem walk (a0 : Int) (a1 : Int) (a2 : Int) (a3 : Option Addr) (len3 cap3 : Nat) (z3 : Nat → Nat → Int) (w : World) (w0 : (Lit.int .i64 a0).wf = true) (w1 : (Lit.int .i64 a1).wf = true) (w2 : (Lit.int .i64 a2).wf = true) (w3 : IsGrid .i64 2 w a3 len3 cap3 z3) :
    Calls Try.prog 3 #[.int .i64 a0, .int .i64 a1, .int .i64 a2, .slice a3 len3 cap3] w fun e w' => e = .returned (.bool true) ∧ Grown w w' := by
  have hk1 := grid_open (by decide) w3
  clear w0 w1 w2 w3
  obtain ⟨N, n1, n2, eN, _, _, _⟩ := size_all a1
  obtain ⟨kk, k1, k2, ek⟩ := count_all a0
  have nx := fun (w1 : World) (g : Grown w w1) => new_x (Apt.none g) a0 a1 a2 k1 k2 ek n1 n2 eN
  have ny := fun (X : Sp) (w1 : World) (h : Apt w w1 [obSp X (freshN kk)]) => rnew_p h a0 a1 a2 k1 k2 ek eN
  clear eN ek
  unfold ptr at nx ny
  by_cases hl : 200 < len3
  · clear hk1
    have d1 : decide (200 < (len3 : Int)) = true := by rw [decide_eq_true_eq]; omega
    go_enter Try.func3, Try.ntmps3
    go_wp2_with (first | (go_at_call 7; refine (small_s _).mono ?_; rintro e ws ⟨rfl, hgs⟩) | (go_at_call 8; refine (nx _ hgs).mono ?_; rintro e wx ⟨X, rfl, hX, hx⟩; clear nx hX hgs; have hx : Hid (Apt w wx [obSp X (freshN kk)]) := hx) | (go_at_call 9; refine (ny _ _ hx.out).mono ?_; rintro e wy ⟨Y, ds, rfl, _, _, _, _, hy⟩; clear ny hx; have hy : Hid (Apt w wy [obSp X (freshN kk), obDp Y ds]) := hy))
    go_ret
    exact ⟨rfl, hy.out.grown⟩
  · have d1 : decide (200 < (len3 : Int)) = false := by rw [decide_eq_false_iff_not]; omega
    have hlen : len3 ≤ 200 := by omega
    have hkk : ∀ k, k < len3 → ∃ kb off, a3 = some ⟨kb, off, none⟩ ∧ ∀ W, Grown w W → W.cell? ⟨kb, off + k * 2, none⟩ = some (.int .i64 (z3 k 0)) ∧ W.cell? ⟨kb, off + k * 2 + 1, none⟩ = some (.int .i64 (z3 k 1)) := fun k hlt => by
      rcases hk1 with h | ⟨kb, off, h1, h2, h3⟩
      · omega
      · exact ⟨kb, off, h1, fun W g => ⟨keys_cell (h3 k hlt 0 (by decide)) h2 g, keys_cell (h3 k hlt 1 (by decide)) h2 g⟩⟩
    have hmx : Try.prog.follows .mixedOrders = true := by kernel_rfl
    clear hk1 hl
    go_enter Try.func3, Try.ntmps3
    go_wp2_with (first | (go_at_call 7; refine (small_s _).mono ?_; rintro e ws ⟨rfl, hgs⟩) | (go_at_call 8; refine (nx _ hgs).mono ?_; rintro e wx ⟨X, rfl, hX, hx⟩; clear nx hgs; have hX : Hid (Is X kk N a2) := hX; have hx : Hid (Apt w wx [obSp X (freshN kk)]) := hx) | (go_at_call 9; refine (ny _ _ hx.out).mono ?_; rintro e wy ⟨Y, ds0, rfl, h1, h2, h3, hs0, hy⟩; clear ny hx; have hY : Hid (IsD Y kk N a2) := ⟨h1, h2, h3⟩; clear h1 h2 h3; have hs0 : Hid (absD ds0 = freshN kk) := hs0; have hy : Hid (Apt w wy [obSp X (freshN kk), obDp Y ds0]) := hy))
    go_loopw [12, 13, 14, 15, 16, 17] (fun iv _ _ _ _ _ wr => ∃ (k : Nat) (st : St) (ds : Ds), k ≤ len3 ∧ iv = .int .i64 (k : Int) ∧ Lo st k ∧ absD ds = st ∧ Apt w wr [obSp X st, obDp Y ds]) (fun iv _ _ _ _ _ _ => len3 - (intOf iv).toNat)
    case atStart => exact ⟨0, freshN kk, ds0, by omega, rfl, lo_zero kk, hs0.out, hy.out⟩
    case round =>
      clear hy hs0
      obtain ⟨k, st, ds, hk, rfl, hlo, hs, hx⟩ := hrel
      have hx : Hid (Apt w _ [obSp X st, obDp Y ds]) := hx
      have hlo : Hid (Lo st k) := hlo
      have hs : Hid (absD ds = st) := hs
      have hrm : Hid (∀ s ∈ st, s.1.length ≤ N ∧ N ≤ 4096) := by
        have := st_room hx.out (i := 0) rfl
        rw [hX.out.2.1] at this
        exact this
      have hr4 : Hid (∀ s ∈ st, s.1.length ≤ 4096) := fun s hs => by have := hrm.out s hs; omega
      have hab : Hid ((allN st).length ≤ 262144) := allN_bd hx.out (i := 0) rfl
      by_cases hlt : k < len3
      · have hd : decide ((k : Int) < (len3 : Int)) = true := by rw [decide_eq_true_eq]; omega
        obtain ⟨kb, off, rfl, ck⟩ := hkk k hlt
        obtain ⟨z, hz⟩ : ∃ z, z = z3 k 0 := ⟨_, rfl⟩
        obtain ⟨v, hv⟩ : ∃ v, v = z3 k 1 := ⟨_, rfl⟩
        rw [← hz, ← hv] at ck
        obtain ⟨ck0, ck1⟩ := ck _ hx.out.grown
        clear hkk hz hv
        go_upto_if 50 with fail
        go_cut [13] from 39 to 145 (fun sv wc => sv = .bool true ∧ ∃ (st : St) (ds : Ds), Lo st (k + 1) ∧ absD ds = st ∧ Apt w wc [obSp X st, obDp Y ds])
        case first =>
          have hlo1 : Hid (Lo st (k + 1)) := hlo.out.more (Nat.le_succ k)
          by_cases hv1 : v = -1
          · have q1 : (v == -1) = true := by rw [hv1]; rfl
            have ta := take_p hx.out (i := 0) rfl
            have tb := fun w1 (h : Apt w w1 [obSp X (takeN st).2.2, obDp Y ds]) => rtake_p h (i := 1) rfl hs.out hr4.out
            have hl2 : Hid (Lo (takeN st).2.2 (k + 1)) := lo_take hlo1.out
            obtain ⟨x, hx0⟩ : ∃ x, x = (takeN st).1 := ⟨_, rfl⟩
            obtain ⟨b, hb⟩ : ∃ b, b = (takeN st).2.1 := ⟨_, rfl⟩
            obtain ⟨st2, hst2⟩ : ∃ st2, st2 = (takeN st).2.2 := ⟨_, rfl⟩
            have qx : (x == x) = true := by simp
            have qb : (b == b) = true := by simp
            simp only [← hx0, ← hb, ← hst2] at ta tb hl2
            unfold ptr at ta tb
            clear hx0 hb hst2
            go_wp2_with (first
              | (go_at_call 10; refine ta.mono ?_; rintro e w2 ⟨rfl, h2⟩; clear ta; have h2 : Hid (Apt w w2 [obSp X st2, obDp Y ds]) := h2)
              | (go_at_call 11; refine (tb _ h2.out).mono ?_; rintro e w3 ⟨ds2, rfl, hs2, h3⟩; clear tb h2; have hs2 : Hid (absD ds2 = st2) := hs2; have h3 : Hid (Apt w w3 [obSp X st2, obDp Y ds2]) := h3))
            all_goals
              go_meet
              exact ⟨rfl, st2, ds2, hl2.out, hs2.out, h3.out⟩
          · have q1 : (v == -1) = false := by rw [beq_eq_false_iff_ne]; exact hv1
            by_cases hv2 : v = -2
            · have q2 : (v == -2) = true := by rw [hv2]; rfl
              have ta := drain_p hx.out (i := 0) rfl
              have tb := fun w1 p1 c1 (h : Apt w w1 [obSp X (emptyN st), obDp Y ds, obV p1 c1 (allN st)]) => rdrain_p h (i := 1) rfl hs.out hr4.out
              have ti := fun w1 ds2 p1 c1 p2 c2 (h : Apt w w1 [obSp X (emptyN st), obDp Y ds2, obV p1 c1 (allN st), obV p2 c2 (allN st)]) => ints_s h (i := 2) (j := 3) rfl rfl (by have := hab.out; omega)
              have hl2 : Hid (Lo (emptyN st) (k + 1)) := lo_empty hlo1.out
              obtain ⟨n, hn⟩ : ∃ n, n = (allN st).length := ⟨_, rfl⟩
              simp only [← hn] at ta tb ti
              unfold ptr at ta tb
              clear hn
              go_wp2_with (first
                | (go_at_call 13; refine ta.mono ?_; rintro e w2 ⟨p1, c1, rfl, h2⟩; clear ta; have h2 : Hid (Apt w w2 [obSp X (emptyN st), obDp Y ds, obV p1 c1 (allN st)]) := h2)
                | (go_at_call 14; refine (tb _ _ _ h2.out).mono ?_; rintro e w3 ⟨ds2, p2, c2, rfl, hs2, h3⟩; clear tb h2; have hs2 : Hid (absD ds2 = emptyN st) := hs2; have h3 : Hid (Apt w w3 [obSp X (emptyN st), obDp Y ds2, obV p1 c1 (allN st), obV p2 c2 (allN st)]) := h3)
                | (go_at_call 12; refine (ti _ _ _ _ _ _ h3.out).mono ?_; rintro e w4 ⟨rfl, h4⟩; clear ti h3; have h4 : Hid (Apt w w4 [obSp X (emptyN st), obDp Y ds2, obV p1 c1 (allN st), obV p2 c2 (allN st)]) := h4))
              go_meet
              exact ⟨rfl, emptyN st, ds2, hl2.out, hs2.out, (Apt.front (l := [obSp X (emptyN st), obDp Y ds2, obV p1 c1 (allN st)]) h4.out).front (l := [obSp X (emptyN st), obDp Y ds2])⟩
            · have q2 : (v == -2) = false := by rw [beq_eq_false_iff_ne]; exact hv2
              have o1 := x_offer hx.out.drew hX.out hlo.out (by omega) z v
              have oy := fun w1 (h : Apt w w1 [obSp X (offerN N kk a2 st z v).2, obDp Y ds]) => y_offer h hY.out hs.out hrm.out z (len_abs hx.out (i := 0) rfl hX.out z) hlo.out (by omega) v
              have hl2 : Hid (Lo (offerN N kk a2 st z v).2 (k + 1)) := lo_offer hlo.out
              obtain ⟨b, hb⟩ : ∃ b, b = (offerN N kk a2 st z v).1 := ⟨_, rfl⟩
              obtain ⟨st2, hst2⟩ : ∃ st2, st2 = (offerN N kk a2 st z v).2 := ⟨_, rfl⟩
              simp only [← hb, ← hst2] at o1 oy hl2
              unfold ptr at o1 oy
              have qb : (b == b) = true := by simp
              clear hb hst2
              go_wp2_with fail
              refine region_fill [11, 23, 24, 25] [(80, .pointer (some ⟨X.S, 0, none⟩)), (81, .slice (some ⟨kb, off, none⟩) len3 cap3), (82, .int .i64 (k : Int)), (83, .pointer (some ⟨kb, off + k * 2, none⟩)), (84, .pointer (some ⟨kb, off + k * 2, none⟩)), (85, .int .i64 z), (86, .slice (some ⟨kb, off, none⟩) len3 cap3), (87, .int .i64 (k : Int)), (88, .pointer (some ⟨kb, off + k * 2, none⟩)), (89, .pointer (some ⟨kb, off + k * 2 + 1, none⟩)), (90, .int .i64 v), (92, .pointer (some ⟨Y.Y, 0, none⟩)), (93, .slice (some ⟨kb, off, none⟩) len3 cap3), (94, .int .i64 (k : Int)), (95, .pointer (some ⟨kb, off + k * 2, none⟩)), (96, .pointer (some ⟨kb, off + k * 2, none⟩)), (97, .int .i64 z), (98, .slice (some ⟨kb, off, none⟩) len3 cap3), (99, .int .i64 (k : Int)), (100, .pointer (some ⟨kb, off + k * 2, none⟩)), (101, .pointer (some ⟨kb, off + k * 2 + 1, none⟩)), (102, .int .i64 v)] hmx (by kernel_rfl) (by kernel_rfl) ?_
              simp only [fills, Act.put, List.setIfInBounds_toArray, List.set_cons_zero, List.set_cons_succ]
              refine flow_ent (some 91) 15 #[.pointer (some ⟨X.S, 0, none⟩), .int .i64 z, .int .i64 v] _ rfl rfl ?run (by go_simp) (o1.mono ?_)
              case run =>
                clear o1 oy
                intro i o ho hi
                iterate 26 (rcases i with _ | i; · first | (exact absurd hi (by decide)) | (cases ho; go_simp))
                cases ho
              rintro e w2 ⟨rfl, h2⟩
              refine ⟨_, rfl, ?_⟩
              simp only [Act.put, List.setIfInBounds_toArray, List.set_cons_zero, List.set_cons_succ]
              have o2 := oy _ h2
              clear o1
              obtain ⟨ck0, ck1⟩ := ck _ h2.grown
              clear h2
              refine flow_ent (some 103) 16 #[.pointer (some ⟨Y.Y, 0, none⟩), .int .i64 z, .int .i64 v] _ rfl rfl ?run (by go_simp) (o2.mono ?_)
              case run =>
                clear o2 oy
                intro i o ho hi
                iterate 26 (rcases i with _ | i; · first | (exact absurd hi (by decide)) | (cases ho; go_simp))
                cases ho
              rintro e w3 ⟨ds2, rfl, hs2, h3⟩
              refine ⟨_, rfl, ?_⟩
              simp only [Act.put, List.setIfInBounds_toArray, List.set_cons_zero, List.set_cons_succ]
              clear o2 oy
              obtain ⟨ck0, ck1⟩ := ck _ h3.grown
              have h3 : Hid (Apt w w3 [obSp X st2, obDp Y ds2]) := h3
              have hs2 : Hid (absD ds2 = st2) := hs2
              refine flow_val (some 104) (.bool true) w3 _ rfl rfl ?run (by go_simp) ?_
              case run =>
                intro i o ho hi
                iterate 26 (rcases i with _ | i; · first | (exact absurd hi (by decide)) | (cases ho; go_simp))
                cases ho
              simp only [Act.put, List.setIfInBounds_toArray, List.set_cons_zero, List.set_cons_succ]
              refine flow_val (some 13) (.bool true) w3 _ rfl rfl ?run (by go_simp) ?_
              case run =>
                intro i o ho hi
                iterate 26 (rcases i with _ | i; · first | (exact absurd hi (by decide)) | (cases ho; go_simp))
                cases ho
              simp only [Act.put, List.setIfInBounds_toArray, List.set_cons_zero, List.set_cons_succ]
              show Exit.then _ _ Exit.normal _ _
              go_wp2_with fail
              go_meet
              exact ⟨rfl, st2, ds2, hl2.out, hs2.out, h3.out⟩
        case rest =>
          clear hx hlo hs hrm hr4 hab ck0 ck1
          obtain ⟨rfl, st, ds, hlo, hs, hx⟩ := hcut
          have hr4 : ∀ s ∈ st, s.1.length ≤ 4096 := fun s hs => by
            have := st_room hx (i := 0) rfl s hs
            omega
          have hlq : (st.map lenO).length = kk := by
            rw [List.length_map, ← hX.out.1]
            exact (sp_head hx (i := 0) rfl).1
          have hL : ∀ s ∈ st, 0 ≤ s.2 ∧ s.2 ≤ 10000 := fun s hs => by have := hlo s hs; omega
          have g1 : ∀ w1, Apt w w1 [obSp X st, obDp Y ds] → Calls Try.prog 17 #[.pointer (some ⟨X.S, 0, none⟩), .int .i64 z] w1 fun e w' => e = .returned (.int .i64 (ofT a2 kk z : Int)) ∧ Apt w w' [obSp X st, obDp Y ds] := fun w1 h => place_x h (i := 0) rfl hX.out z
          have g2 : ∀ w1, Apt w w1 [obSp X st, obDp Y ds] → Calls Try.prog 18 #[.pointer (some ⟨Y.Y, 0, none⟩), .int .i64 z] w1 fun e w' => e = .returned (.int .i64 (ofT a2 kk z : Int)) ∧ Apt w w' [obSp X st, obDp Y ds] := fun w1 h => by
            refine (rplace_s h (i := 1) rfl z).mono ?_
            rintro e w' ⟨rfl, m, rfl⟩
            exact ⟨by rw [hY.out.1, hY.out.2.2], h.drewN m⟩
          have g3 : ∀ w1, Apt w w1 [obSp X st, obDp Y ds] → Calls Try.prog 19 #[.pointer (some ⟨X.S, 0, none⟩)] w1 fun e w' => e = .returned (.int .i64 (st.map lenO).sum) ∧ Apt w w' [obSp X st, obDp Y ds] := fun w1 h => (len_p h (i := 0) rfl).mono fun e w' k => ⟨k.1, by rw [k.2]; exact h⟩
          have g4 : ∀ w1, Apt w w1 [obSp X st, obDp Y ds] → Calls Try.prog 20 #[.pointer (some ⟨Y.Y, 0, none⟩)] w1 fun e w' => e = .returned (.int .i64 (st.map lenO).sum) ∧ Apt w w' [obSp X st, obDp Y ds] := fun w1 h => (rlen_p h (i := 1) rfl hs hr4).mono fun e w' k => ⟨k.1, by rw [k.2]; exact h⟩
          have g5 : ∀ w1, Apt w w1 [obSp X st, obDp Y ds] → Calls Try.prog 21 #[.pointer (some ⟨X.S, 0, none⟩)] w1 fun e w' => e = .returned (.int .i64 (st.map lostO).sum) ∧ Apt w w' [obSp X st, obDp Y ds] := fun w1 h => (lost_p h (i := 0) rfl hL).mono fun e w' k => ⟨k.1, by rw [k.2]; exact h⟩
          have g6 : ∀ w1, Apt w w1 [obSp X st, obDp Y ds] → Calls Try.prog 22 #[.pointer (some ⟨Y.Y, 0, none⟩)] w1 fun e w' => e = .returned (.int .i64 (st.map lostO).sum) ∧ Apt w w' [obSp X st, obDp Y ds] := fun w1 h => (rlost_p h (i := 1) rfl hs hL).mono fun e w' k => ⟨k.1, by rw [k.2]; exact h⟩
          have g7 : ∀ w1, Apt w w1 [obSp X st, obDp Y ds] → Calls Try.prog 23 #[.pointer (some ⟨X.S, 0, none⟩)] w1 fun e w' => ∃ pa ca, e = .returned (.slice pa kk ca) ∧ Apt w w' [obSp X st, obDp Y ds, obV pa ca (st.map lenO)] := fun w1 h => (lens_x h (i := 0) rfl hX.out).mono fun e w' ⟨pa, ca, k1, _, k2⟩ => ⟨pa, ca, k1, k2⟩
          have g8 : ∀ w1 pa ca, Apt w w1 [obSp X st, obDp Y ds, obV pa ca (st.map lenO)] → Calls Try.prog 24 #[.pointer (some ⟨Y.Y, 0, none⟩)] w1 fun e w' => ∃ pb cb, e = .returned (.slice pb kk cb) ∧ Apt w w' [obSp X st, obDp Y ds, obV pa ca (st.map lenO), obV pb cb (st.map lenO)] := fun w1 pa ca h => by
            have := rlens_p h (i := 1) rfl hs
            rw [hY.out.1] at this
            exact this.mono fun e w' ⟨pb, cb, k1, _, k2⟩ => ⟨pb, cb, k1, k2⟩
          have g9 : ∀ w1 pa ca pb cb, Apt w w1 [obSp X st, obDp Y ds, obV pa ca (st.map lenO), obV pb cb (st.map lenO)] → Calls Try.prog 12 #[.slice pa kk ca, .slice pb kk cb] w1 fun e w' => e = .returned (.bool true) ∧ Apt w w' [obSp X st, obDp Y ds] := fun w1 pa ca pb cb h => by
            have := ints_s h (i := 2) (j := 3) rfl rfl (by omega)
            rw [hlq] at this
            exact this.mono fun e w' k => ⟨k.1, (Apt.front (l := [obSp X st, obDp Y ds, obV pa ca (st.map lenO)]) k.2).front (l := [obSp X st, obDp Y ds])⟩
          obtain ⟨y, hy⟩ : ∃ y, y = ofT a2 kk z := ⟨_, rfl⟩
          obtain ⟨s1, hs1⟩ : ∃ s1, s1 = (st.map lenO).sum := ⟨_, rfl⟩
          obtain ⟨s2, hs2⟩ : ∃ s2, s2 = (st.map lostO).sum := ⟨_, rfl⟩
          simp only [← hy, ← hs1, ← hs2] at g1 g2 g3 g4 g5 g6
          have hx : Hid (Apt w _ [obSp X st, obDp Y ds]) := hx
          have hlo : Hid (Lo st (k + 1)) := hlo
          have hs : Hid (absD ds = st) := hs
          clear hy hs1 hs2 hr4 hlq hL
          obtain ⟨ck0, ck1⟩ := ck _ hx.out.grown
          go_wp2_with fail
          refine region_flowG [(9, []), (16, [17, 18, 19, 20, 22]), (21, []), (23, [24, 25, 26, 27, 29]), (28, []), (30, [31, 32, 33, 34, 36]), (35, []), (37, []), (38, [39]), (40, [])] 40 [(105, .bool true), (106, .bool false), (107, .bool false), (108, .pointer (some ⟨X.S, 0, none⟩)), (109, .slice (some ⟨kb, off, none⟩) len3 cap3), (110, .int .i64 (k : Int)), (111, .pointer (some ⟨kb, off + k * 2, none⟩)), (112, .pointer (some ⟨kb, off + k * 2, none⟩)), (113, .int .i64 z), (115, .pointer (some ⟨Y.Y, 0, none⟩)), (116, .slice (some ⟨kb, off, none⟩) len3 cap3), (117, .int .i64 (k : Int)), (118, .pointer (some ⟨kb, off + k * 2, none⟩)), (119, .pointer (some ⟨kb, off + k * 2, none⟩)), (120, .int .i64 z)] hmx (by kernel_rfl) (by decide) (by kernel_rfl) ?_
          simp only [fills, Act.put, List.setIfInBounds_toArray, List.set_cons_zero, List.set_cons_succ]
          have o0 := g1 _ hx.out.drew
          clear ck0 ck1
          obtain ⟨ck0, ck1⟩ := ck _ hx.out.drew.grown
          refine flowG_only (9, []) [(16, [17, 18, 19, 20, 22]), (21, []), (23, [24, 25, 26, 27, 29]), (28, []), (30, [31, 32, 33, 34, 36]), (35, []), (37, []), (38, [39]), (40, [])] (by kernel_rfl) rfl ?run (stepG_call _ (some 114) 17 #[.pointer (some ⟨X.S, 0, none⟩), .int .i64 z] rfl rfl (wanted_ev rfl rfl rfl rfl) (by go_simp) ((o0).mono ?_))
          case run =>
            clear o0 g1 g2 g3 g4 g5 g6 g7 g8 g9
            refine runsG_hide [(3, .slice (some ⟨kb, off, none⟩) len3 cap3), (10, .pointer (some ⟨X.S, 0, none⟩)), (11, .pointer (some ⟨Y.Y, 0, none⟩)), (12, .int .i64 (k : Int)), (13, .bool true), (105, .bool true), (106, .bool false), (107, .bool false), (108, .pointer (some ⟨X.S, 0, none⟩)), (109, .slice (some ⟨kb, off, none⟩) len3 cap3), (110, .int .i64 (k : Int)), (111, .pointer (some ⟨kb, off + k * 2, none⟩)), (112, .pointer (some ⟨kb, off + k * 2, none⟩)), (113, .int .i64 z), (115, .pointer (some ⟨Y.Y, 0, none⟩)), (116, .slice (some ⟨kb, off, none⟩) len3 cap3), (117, .int .i64 (k : Int)), (118, .pointer (some ⟨kb, off + k * 2, none⟩)), (119, .pointer (some ⟨kb, off + k * 2, none⟩)), (120, .int .i64 z)] ⟨rfl, rfl, rfl, rfl, rfl, rfl, rfl, rfl, rfl, rfl, rfl, rfl, rfl, rfl, rfl, rfl, rfl, rfl, rfl, rfl, trivial⟩ ?_
            rintro A ⟨e3, e10, e11, e12, e13, e105, e106, e107, e108, e109, e110, e111, e112, e113, e115, e116, e117, e118, e119, e120, _⟩
            intro i o ho h1 h2
            rcases i with _ | i
            · cases ho; exact Or.inl ⟨wanted_none rfl, by go_simp⟩
            rcases i with _ | i
            · cases ho; exact Or.inl ⟨wanted_none rfl, by go_simp⟩
            rcases i with _ | i
            · cases ho; exact Or.inl ⟨wanted_none rfl, by go_simp⟩
            rcases i with _ | i
            · cases ho; exact Or.inl ⟨wanted_ev rfl rfl rfl (by assumption), by go_simp⟩
            rcases i with _ | i
            · cases ho; exact Or.inl ⟨wanted_ev rfl rfl rfl (by assumption), by go_simp⟩
            rcases i with _ | i
            · cases ho; exact Or.inl ⟨wanted_ev rfl rfl rfl (by assumption), by go_simp⟩
            rcases i with _ | i
            · cases ho; exact Or.inl ⟨wanted_ev rfl rfl rfl (by assumption), by go_simp⟩
            rcases i with _ | i
            · cases ho; exact Or.inl ⟨wanted_ev rfl rfl rfl (by assumption), by go_simp⟩
            rcases i with _ | i
            · cases ho; exact Or.inl ⟨wanted_ev rfl rfl rfl (by assumption), by go_simp⟩
            rcases i with _ | i
            · exact absurd h1 (by decide)
            rcases i with _ | i
            · cases ho; exact Or.inl ⟨wanted_ev rfl rfl rfl (by assumption), by go_simp⟩
            rcases i with _ | i
            · cases ho; exact Or.inl ⟨wanted_ev rfl rfl rfl (by assumption), by go_simp⟩
            rcases i with _ | i
            · cases ho; exact Or.inl ⟨wanted_ev rfl rfl rfl (by assumption), by go_simp⟩
            rcases i with _ | i
            · cases ho; exact Or.inl ⟨wanted_ev rfl rfl rfl (by assumption), by go_simp⟩
            rcases i with _ | i
            · cases ho; exact Or.inl ⟨wanted_ev rfl rfl rfl (by assumption), by go_simp⟩
            rcases i with _ | i
            · cases ho; exact Or.inl ⟨wanted_ev rfl rfl rfl (by assumption), by go_simp⟩
            rcases i with _ | i
            · exact absurd h1 (by decide)
            rcases i with _ | i
            · exact absurd h2 (by decide)
            rcases i with _ | i
            · exact absurd h2 (by decide)
            rcases i with _ | i
            · exact absurd h2 (by decide)
            rcases i with _ | i
            · exact absurd h2 (by decide)
            rcases i with _ | i
            · exact absurd h1 (by decide)
            rcases i with _ | i
            · exact absurd h2 (by decide)
            rcases i with _ | i
            · exact absurd h1 (by decide)
            rcases i with _ | i
            · exact absurd h2 (by decide)
            rcases i with _ | i
            · exact absurd h2 (by decide)
            rcases i with _ | i
            · exact absurd h2 (by decide)
            rcases i with _ | i
            · exact absurd h2 (by decide)
            rcases i with _ | i
            · exact absurd h1 (by decide)
            rcases i with _ | i
            · exact absurd h2 (by decide)
            rcases i with _ | i
            · exact absurd h1 (by decide)
            rcases i with _ | i
            · exact absurd h2 (by decide)
            rcases i with _ | i
            · exact absurd h2 (by decide)
            rcases i with _ | i
            · exact absurd h2 (by decide)
            rcases i with _ | i
            · exact absurd h2 (by decide)
            rcases i with _ | i
            · exact absurd h1 (by decide)
            rcases i with _ | i
            · exact absurd h2 (by decide)
            rcases i with _ | i
            · exact absurd h1 (by decide)
            rcases i with _ | i
            · exact absurd h1 (by decide)
            rcases i with _ | i
            · exact absurd h2 (by decide)
            rcases i with _ | i
            · exact absurd h1 (by decide)
            cases ho
          rintro e w10 ⟨rfl, h1⟩
          refine ⟨_, rfl, [], by kernel_rfl, ?_⟩
          simp only [fills, Act.put, List.setIfInBounds_toArray, List.set_cons_zero, List.set_cons_succ]
          have o1 := g2 _ h1
          clear ck0 ck1 o0
          obtain ⟨ck0, ck1⟩ := ck _ h1.grown
          refine flowG_only (16, [17, 18, 19, 20, 22]) [(21, []), (23, [24, 25, 26, 27, 29]), (28, []), (30, [31, 32, 33, 34, 36]), (35, []), (37, []), (38, [39]), (40, [])] (by kernel_rfl) rfl ?run (stepG_call _ (some 121) 18 #[.pointer (some ⟨Y.Y, 0, none⟩), .int .i64 z] rfl rfl (wanted_ev rfl rfl rfl rfl) (by go_simp) ((o1).mono ?_))
          case run =>
            clear o1 g1 g2 g3 g4 g5 g6 g7 g8 g9
            refine runsG_hide [(3, .slice (some ⟨kb, off, none⟩) len3 cap3), (10, .pointer (some ⟨X.S, 0, none⟩)), (11, .pointer (some ⟨Y.Y, 0, none⟩)), (12, .int .i64 (k : Int)), (13, .bool true), (105, .bool true), (106, .bool false), (107, .bool false), (108, .pointer (some ⟨X.S, 0, none⟩)), (109, .slice (some ⟨kb, off, none⟩) len3 cap3), (110, .int .i64 (k : Int)), (111, .pointer (some ⟨kb, off + k * 2, none⟩)), (112, .pointer (some ⟨kb, off + k * 2, none⟩)), (113, .int .i64 z), (115, .pointer (some ⟨Y.Y, 0, none⟩)), (116, .slice (some ⟨kb, off, none⟩) len3 cap3), (117, .int .i64 (k : Int)), (118, .pointer (some ⟨kb, off + k * 2, none⟩)), (119, .pointer (some ⟨kb, off + k * 2, none⟩)), (120, .int .i64 z), (114, .int .i64 (y : Int))] ⟨rfl, rfl, rfl, rfl, rfl, rfl, rfl, rfl, rfl, rfl, rfl, rfl, rfl, rfl, rfl, rfl, rfl, rfl, rfl, rfl, rfl, trivial⟩ ?_
            rintro A ⟨e3, e10, e11, e12, e13, e105, e106, e107, e108, e109, e110, e111, e112, e113, e115, e116, e117, e118, e119, e120, e114, _⟩
            intro i o ho h1 h2
            rcases i with _ | i
            · cases ho; exact Or.inl ⟨wanted_none rfl, by go_simp⟩
            rcases i with _ | i
            · cases ho; exact Or.inl ⟨wanted_none rfl, by go_simp⟩
            rcases i with _ | i
            · cases ho; exact Or.inl ⟨wanted_none rfl, by go_simp⟩
            rcases i with _ | i
            · cases ho; exact Or.inl ⟨wanted_ev rfl rfl rfl (by assumption), by go_simp⟩
            rcases i with _ | i
            · cases ho; exact Or.inl ⟨wanted_ev rfl rfl rfl (by assumption), by go_simp⟩
            rcases i with _ | i
            · cases ho; exact Or.inl ⟨wanted_ev rfl rfl rfl (by assumption), by go_simp⟩
            rcases i with _ | i
            · cases ho; exact Or.inl ⟨wanted_ev rfl rfl rfl (by assumption), by go_simp⟩
            rcases i with _ | i
            · cases ho; exact Or.inl ⟨wanted_ev rfl rfl rfl (by assumption), by go_simp⟩
            rcases i with _ | i
            · cases ho; exact Or.inl ⟨wanted_ev rfl rfl rfl (by assumption), by go_simp⟩
            rcases i with _ | i
            · exact absurd h1 (by decide)
            rcases i with _ | i
            · cases ho; exact Or.inl ⟨wanted_ev rfl rfl rfl (by assumption), by go_simp⟩
            rcases i with _ | i
            · cases ho; exact Or.inl ⟨wanted_ev rfl rfl rfl (by assumption), by go_simp⟩
            rcases i with _ | i
            · cases ho; exact Or.inl ⟨wanted_ev rfl rfl rfl (by assumption), by go_simp⟩
            rcases i with _ | i
            · cases ho; exact Or.inl ⟨wanted_ev rfl rfl rfl (by assumption), by go_simp⟩
            rcases i with _ | i
            · cases ho; exact Or.inl ⟨wanted_ev rfl rfl rfl (by assumption), by go_simp⟩
            rcases i with _ | i
            · cases ho; exact Or.inl ⟨wanted_ev rfl rfl rfl (by assumption), by go_simp⟩
            rcases i with _ | i
            · exact absurd h1 (by decide)
            rcases i with _ | i
            · exact absurd h2 (by decide)
            rcases i with _ | i
            · exact absurd h2 (by decide)
            rcases i with _ | i
            · exact absurd h2 (by decide)
            rcases i with _ | i
            · exact absurd h2 (by decide)
            rcases i with _ | i
            · exact absurd h1 (by decide)
            rcases i with _ | i
            · exact absurd h2 (by decide)
            rcases i with _ | i
            · exact absurd h1 (by decide)
            rcases i with _ | i
            · exact absurd h2 (by decide)
            rcases i with _ | i
            · exact absurd h2 (by decide)
            rcases i with _ | i
            · exact absurd h2 (by decide)
            rcases i with _ | i
            · exact absurd h2 (by decide)
            rcases i with _ | i
            · exact absurd h1 (by decide)
            rcases i with _ | i
            · exact absurd h2 (by decide)
            rcases i with _ | i
            · exact absurd h1 (by decide)
            rcases i with _ | i
            · exact absurd h2 (by decide)
            rcases i with _ | i
            · exact absurd h2 (by decide)
            rcases i with _ | i
            · exact absurd h2 (by decide)
            rcases i with _ | i
            · exact absurd h2 (by decide)
            rcases i with _ | i
            · exact absurd h1 (by decide)
            rcases i with _ | i
            · exact absurd h2 (by decide)
            rcases i with _ | i
            · exact absurd h1 (by decide)
            rcases i with _ | i
            · exact absurd h1 (by decide)
            rcases i with _ | i
            · exact absurd h2 (by decide)
            rcases i with _ | i
            · exact absurd h1 (by decide)
            cases ho
          rintro e w11 ⟨rfl, h2⟩
          refine ⟨_, rfl, [(122, .bool false), (123, .bool false), (124, .bool false), (125, .pointer (some ⟨X.S, 0, none⟩)), (127, .pointer (some ⟨Y.Y, 0, none⟩))], by kernel_rfl, ?_⟩
          simp only [fills, Act.put, List.setIfInBounds_toArray, List.set_cons_zero, List.set_cons_succ]
          have o2 := g3 _ h2
          clear ck0 ck1 o1
          obtain ⟨ck0, ck1⟩ := ck _ h2.grown
          refine flowG_only (21, []) [(23, [24, 25, 26, 27, 29]), (28, []), (30, [31, 32, 33, 34, 36]), (35, []), (37, []), (38, [39]), (40, [])] (by kernel_rfl) rfl ?run (stepG_call _ (some 126) 19 #[.pointer (some ⟨X.S, 0, none⟩)] rfl rfl (wanted_ev rfl rfl rfl rfl) (by go_simp) ((o2).mono ?_))
          case run =>
            clear o2 g1 g2 g3 g4 g5 g6 g7 g8 g9
            refine runsG_hide [(3, .slice (some ⟨kb, off, none⟩) len3 cap3), (10, .pointer (some ⟨X.S, 0, none⟩)), (11, .pointer (some ⟨Y.Y, 0, none⟩)), (12, .int .i64 (k : Int)), (13, .bool true), (105, .bool true), (106, .bool false), (107, .bool false), (108, .pointer (some ⟨X.S, 0, none⟩)), (109, .slice (some ⟨kb, off, none⟩) len3 cap3), (110, .int .i64 (k : Int)), (111, .pointer (some ⟨kb, off + k * 2, none⟩)), (112, .pointer (some ⟨kb, off + k * 2, none⟩)), (113, .int .i64 z), (115, .pointer (some ⟨Y.Y, 0, none⟩)), (116, .slice (some ⟨kb, off, none⟩) len3 cap3), (117, .int .i64 (k : Int)), (118, .pointer (some ⟨kb, off + k * 2, none⟩)), (119, .pointer (some ⟨kb, off + k * 2, none⟩)), (120, .int .i64 z), (114, .int .i64 (y : Int)), (121, .int .i64 (y : Int)), (122, .bool false), (123, .bool false), (124, .bool false), (125, .pointer (some ⟨X.S, 0, none⟩)), (127, .pointer (some ⟨Y.Y, 0, none⟩))] ⟨rfl, rfl, rfl, rfl, rfl, rfl, rfl, rfl, rfl, rfl, rfl, rfl, rfl, rfl, rfl, rfl, rfl, rfl, rfl, rfl, rfl, rfl, rfl, rfl, rfl, rfl, rfl, trivial⟩ ?_
            rintro A ⟨e3, e10, e11, e12, e13, e105, e106, e107, e108, e109, e110, e111, e112, e113, e115, e116, e117, e118, e119, e120, e114, e121, e122, e123, e124, e125, e127, _⟩
            intro i o ho h1 h2
            rcases i with _ | i
            · cases ho; exact Or.inl ⟨wanted_none rfl, by go_simp⟩
            rcases i with _ | i
            · cases ho; exact Or.inl ⟨wanted_none rfl, by go_simp⟩
            rcases i with _ | i
            · cases ho; exact Or.inl ⟨wanted_none rfl, by go_simp⟩
            rcases i with _ | i
            · cases ho; exact Or.inl ⟨wanted_ev rfl rfl rfl (by assumption), by go_simp⟩
            rcases i with _ | i
            · cases ho; exact Or.inl ⟨wanted_ev rfl rfl rfl (by assumption), by go_simp⟩
            rcases i with _ | i
            · cases ho; exact Or.inl ⟨wanted_ev rfl rfl rfl (by assumption), by go_simp⟩
            rcases i with _ | i
            · cases ho; exact Or.inl ⟨wanted_ev rfl rfl rfl (by assumption), by go_simp⟩
            rcases i with _ | i
            · cases ho; exact Or.inl ⟨wanted_ev rfl rfl rfl (by assumption), by go_simp⟩
            rcases i with _ | i
            · cases ho; exact Or.inl ⟨wanted_ev rfl rfl rfl (by assumption), by go_simp⟩
            rcases i with _ | i
            · exact absurd h1 (by decide)
            rcases i with _ | i
            · cases ho; exact Or.inl ⟨wanted_ev rfl rfl rfl (by assumption), by go_simp⟩
            rcases i with _ | i
            · cases ho; exact Or.inl ⟨wanted_ev rfl rfl rfl (by assumption), by go_simp⟩
            rcases i with _ | i
            · cases ho; exact Or.inl ⟨wanted_ev rfl rfl rfl (by assumption), by go_simp⟩
            rcases i with _ | i
            · cases ho; exact Or.inl ⟨wanted_ev rfl rfl rfl (by assumption), by go_simp⟩
            rcases i with _ | i
            · cases ho; exact Or.inl ⟨wanted_ev rfl rfl rfl (by assumption), by go_simp⟩
            rcases i with _ | i
            · cases ho; exact Or.inl ⟨wanted_ev rfl rfl rfl (by assumption), by go_simp⟩
            rcases i with _ | i
            · exact absurd h1 (by decide)
            rcases i with _ | i
            · cases ho; exact Or.inl ⟨wanted_ev rfl rfl rfl (by assumption), by go_simp⟩
            rcases i with _ | i
            · cases ho; exact Or.inl ⟨wanted_none rfl, by go_simp⟩
            rcases i with _ | i
            · cases ho; exact Or.inl ⟨wanted_none rfl, by go_simp⟩
            rcases i with _ | i
            · cases ho; exact Or.inl ⟨wanted_ev rfl rfl rfl (by assumption), by go_simp⟩
            rcases i with _ | i
            · exact absurd h1 (by decide)
            rcases i with _ | i
            · cases ho; exact Or.inl ⟨wanted_ev rfl rfl rfl (by assumption), by go_simp⟩
            rcases i with _ | i
            · exact absurd h1 (by decide)
            rcases i with _ | i
            · exact absurd h2 (by decide)
            rcases i with _ | i
            · exact absurd h2 (by decide)
            rcases i with _ | i
            · exact absurd h2 (by decide)
            rcases i with _ | i
            · exact absurd h2 (by decide)
            rcases i with _ | i
            · exact absurd h1 (by decide)
            rcases i with _ | i
            · exact absurd h2 (by decide)
            rcases i with _ | i
            · exact absurd h1 (by decide)
            rcases i with _ | i
            · exact absurd h2 (by decide)
            rcases i with _ | i
            · exact absurd h2 (by decide)
            rcases i with _ | i
            · exact absurd h2 (by decide)
            rcases i with _ | i
            · exact absurd h2 (by decide)
            rcases i with _ | i
            · exact absurd h1 (by decide)
            rcases i with _ | i
            · exact absurd h2 (by decide)
            rcases i with _ | i
            · exact absurd h1 (by decide)
            rcases i with _ | i
            · exact absurd h1 (by decide)
            rcases i with _ | i
            · exact absurd h2 (by decide)
            rcases i with _ | i
            · exact absurd h1 (by decide)
            cases ho
          rintro e w12 ⟨rfl, h3⟩
          refine ⟨_, rfl, [], by kernel_rfl, ?_⟩
          simp only [fills, Act.put, List.setIfInBounds_toArray, List.set_cons_zero, List.set_cons_succ]
          have o3 := g4 _ h3
          clear ck0 ck1 o2
          obtain ⟨ck0, ck1⟩ := ck _ h3.grown
          refine flowG_only (23, [24, 25, 26, 27, 29]) [(28, []), (30, [31, 32, 33, 34, 36]), (35, []), (37, []), (38, [39]), (40, [])] (by kernel_rfl) rfl ?run (stepG_call _ (some 128) 20 #[.pointer (some ⟨Y.Y, 0, none⟩)] rfl rfl (wanted_ev rfl rfl rfl rfl) (by go_simp) ((o3).mono ?_))
          case run =>
            clear o3 g1 g2 g3 g4 g5 g6 g7 g8 g9
            refine runsG_hide [(3, .slice (some ⟨kb, off, none⟩) len3 cap3), (10, .pointer (some ⟨X.S, 0, none⟩)), (11, .pointer (some ⟨Y.Y, 0, none⟩)), (12, .int .i64 (k : Int)), (13, .bool true), (105, .bool true), (106, .bool false), (107, .bool false), (108, .pointer (some ⟨X.S, 0, none⟩)), (109, .slice (some ⟨kb, off, none⟩) len3 cap3), (110, .int .i64 (k : Int)), (111, .pointer (some ⟨kb, off + k * 2, none⟩)), (112, .pointer (some ⟨kb, off + k * 2, none⟩)), (113, .int .i64 z), (115, .pointer (some ⟨Y.Y, 0, none⟩)), (116, .slice (some ⟨kb, off, none⟩) len3 cap3), (117, .int .i64 (k : Int)), (118, .pointer (some ⟨kb, off + k * 2, none⟩)), (119, .pointer (some ⟨kb, off + k * 2, none⟩)), (120, .int .i64 z), (114, .int .i64 (y : Int)), (121, .int .i64 (y : Int)), (122, .bool false), (123, .bool false), (124, .bool false), (125, .pointer (some ⟨X.S, 0, none⟩)), (127, .pointer (some ⟨Y.Y, 0, none⟩)), (126, .int .i64 s1)] ⟨rfl, rfl, rfl, rfl, rfl, rfl, rfl, rfl, rfl, rfl, rfl, rfl, rfl, rfl, rfl, rfl, rfl, rfl, rfl, rfl, rfl, rfl, rfl, rfl, rfl, rfl, rfl, rfl, trivial⟩ ?_
            rintro A ⟨e3, e10, e11, e12, e13, e105, e106, e107, e108, e109, e110, e111, e112, e113, e115, e116, e117, e118, e119, e120, e114, e121, e122, e123, e124, e125, e127, e126, _⟩
            intro i o ho h1 h2
            rcases i with _ | i
            · cases ho; exact Or.inl ⟨wanted_none rfl, by go_simp⟩
            rcases i with _ | i
            · cases ho; exact Or.inl ⟨wanted_none rfl, by go_simp⟩
            rcases i with _ | i
            · cases ho; exact Or.inl ⟨wanted_none rfl, by go_simp⟩
            rcases i with _ | i
            · cases ho; exact Or.inl ⟨wanted_ev rfl rfl rfl (by assumption), by go_simp⟩
            rcases i with _ | i
            · cases ho; exact Or.inl ⟨wanted_ev rfl rfl rfl (by assumption), by go_simp⟩
            rcases i with _ | i
            · cases ho; exact Or.inl ⟨wanted_ev rfl rfl rfl (by assumption), by go_simp⟩
            rcases i with _ | i
            · cases ho; exact Or.inl ⟨wanted_ev rfl rfl rfl (by assumption), by go_simp⟩
            rcases i with _ | i
            · cases ho; exact Or.inl ⟨wanted_ev rfl rfl rfl (by assumption), by go_simp⟩
            rcases i with _ | i
            · cases ho; exact Or.inl ⟨wanted_ev rfl rfl rfl (by assumption), by go_simp⟩
            rcases i with _ | i
            · exact absurd h1 (by decide)
            rcases i with _ | i
            · cases ho; exact Or.inl ⟨wanted_ev rfl rfl rfl (by assumption), by go_simp⟩
            rcases i with _ | i
            · cases ho; exact Or.inl ⟨wanted_ev rfl rfl rfl (by assumption), by go_simp⟩
            rcases i with _ | i
            · cases ho; exact Or.inl ⟨wanted_ev rfl rfl rfl (by assumption), by go_simp⟩
            rcases i with _ | i
            · cases ho; exact Or.inl ⟨wanted_ev rfl rfl rfl (by assumption), by go_simp⟩
            rcases i with _ | i
            · cases ho; exact Or.inl ⟨wanted_ev rfl rfl rfl (by assumption), by go_simp⟩
            rcases i with _ | i
            · cases ho; exact Or.inl ⟨wanted_ev rfl rfl rfl (by assumption), by go_simp⟩
            rcases i with _ | i
            · exact absurd h1 (by decide)
            rcases i with _ | i
            · cases ho; exact Or.inl ⟨wanted_ev rfl rfl rfl (by assumption), by go_simp⟩
            rcases i with _ | i
            · cases ho; exact Or.inl ⟨wanted_none rfl, by go_simp⟩
            rcases i with _ | i
            · cases ho; exact Or.inl ⟨wanted_none rfl, by go_simp⟩
            rcases i with _ | i
            · cases ho; exact Or.inl ⟨wanted_ev rfl rfl rfl (by assumption), by go_simp⟩
            rcases i with _ | i
            · exact absurd h1 (by decide)
            rcases i with _ | i
            · cases ho; exact Or.inl ⟨wanted_ev rfl rfl rfl (by assumption), by go_simp⟩
            rcases i with _ | i
            · exact absurd h1 (by decide)
            rcases i with _ | i
            · exact absurd h2 (by decide)
            rcases i with _ | i
            · exact absurd h2 (by decide)
            rcases i with _ | i
            · exact absurd h2 (by decide)
            rcases i with _ | i
            · exact absurd h2 (by decide)
            rcases i with _ | i
            · exact absurd h1 (by decide)
            rcases i with _ | i
            · exact absurd h2 (by decide)
            rcases i with _ | i
            · exact absurd h1 (by decide)
            rcases i with _ | i
            · exact absurd h2 (by decide)
            rcases i with _ | i
            · exact absurd h2 (by decide)
            rcases i with _ | i
            · exact absurd h2 (by decide)
            rcases i with _ | i
            · exact absurd h2 (by decide)
            rcases i with _ | i
            · exact absurd h1 (by decide)
            rcases i with _ | i
            · exact absurd h2 (by decide)
            rcases i with _ | i
            · exact absurd h1 (by decide)
            rcases i with _ | i
            · exact absurd h1 (by decide)
            rcases i with _ | i
            · exact absurd h2 (by decide)
            rcases i with _ | i
            · exact absurd h1 (by decide)
            cases ho
          rintro e w13 ⟨rfl, h4⟩
          refine ⟨_, rfl, [(129, .bool false), (130, .bool false), (131, .bool false), (132, .pointer (some ⟨X.S, 0, none⟩)), (134, .pointer (some ⟨Y.Y, 0, none⟩))], by kernel_rfl, ?_⟩
          simp only [fills, Act.put, List.setIfInBounds_toArray, List.set_cons_zero, List.set_cons_succ]
          have o4 := g5 _ h4
          clear ck0 ck1 o3
          obtain ⟨ck0, ck1⟩ := ck _ h4.grown
          refine flowG_only (28, []) [(30, [31, 32, 33, 34, 36]), (35, []), (37, []), (38, [39]), (40, [])] (by kernel_rfl) rfl ?run (stepG_call _ (some 133) 21 #[.pointer (some ⟨X.S, 0, none⟩)] rfl rfl (wanted_ev rfl rfl rfl rfl) (by go_simp) ((o4).mono ?_))
          case run =>
            clear o4 g1 g2 g3 g4 g5 g6 g7 g8 g9
            refine runsG_hide [(3, .slice (some ⟨kb, off, none⟩) len3 cap3), (10, .pointer (some ⟨X.S, 0, none⟩)), (11, .pointer (some ⟨Y.Y, 0, none⟩)), (12, .int .i64 (k : Int)), (13, .bool true), (105, .bool true), (106, .bool false), (107, .bool false), (108, .pointer (some ⟨X.S, 0, none⟩)), (109, .slice (some ⟨kb, off, none⟩) len3 cap3), (110, .int .i64 (k : Int)), (111, .pointer (some ⟨kb, off + k * 2, none⟩)), (112, .pointer (some ⟨kb, off + k * 2, none⟩)), (113, .int .i64 z), (115, .pointer (some ⟨Y.Y, 0, none⟩)), (116, .slice (some ⟨kb, off, none⟩) len3 cap3), (117, .int .i64 (k : Int)), (118, .pointer (some ⟨kb, off + k * 2, none⟩)), (119, .pointer (some ⟨kb, off + k * 2, none⟩)), (120, .int .i64 z), (114, .int .i64 (y : Int)), (121, .int .i64 (y : Int)), (122, .bool false), (123, .bool false), (124, .bool false), (125, .pointer (some ⟨X.S, 0, none⟩)), (127, .pointer (some ⟨Y.Y, 0, none⟩)), (126, .int .i64 s1), (128, .int .i64 s1), (129, .bool false), (130, .bool false), (131, .bool false), (132, .pointer (some ⟨X.S, 0, none⟩)), (134, .pointer (some ⟨Y.Y, 0, none⟩))] ⟨rfl, rfl, rfl, rfl, rfl, rfl, rfl, rfl, rfl, rfl, rfl, rfl, rfl, rfl, rfl, rfl, rfl, rfl, rfl, rfl, rfl, rfl, rfl, rfl, rfl, rfl, rfl, rfl, rfl, rfl, rfl, rfl, rfl, rfl, trivial⟩ ?_
            rintro A ⟨e3, e10, e11, e12, e13, e105, e106, e107, e108, e109, e110, e111, e112, e113, e115, e116, e117, e118, e119, e120, e114, e121, e122, e123, e124, e125, e127, e126, e128, e129, e130, e131, e132, e134, _⟩
            intro i o ho h1 h2
            rcases i with _ | i
            · cases ho; exact Or.inl ⟨wanted_none rfl, by go_simp⟩
            rcases i with _ | i
            · cases ho; exact Or.inl ⟨wanted_none rfl, by go_simp⟩
            rcases i with _ | i
            · cases ho; exact Or.inl ⟨wanted_none rfl, by go_simp⟩
            rcases i with _ | i
            · cases ho; exact Or.inl ⟨wanted_ev rfl rfl rfl (by assumption), by go_simp⟩
            rcases i with _ | i
            · cases ho; exact Or.inl ⟨wanted_ev rfl rfl rfl (by assumption), by go_simp⟩
            rcases i with _ | i
            · cases ho; exact Or.inl ⟨wanted_ev rfl rfl rfl (by assumption), by go_simp⟩
            rcases i with _ | i
            · cases ho; exact Or.inl ⟨wanted_ev rfl rfl rfl (by assumption), by go_simp⟩
            rcases i with _ | i
            · cases ho; exact Or.inl ⟨wanted_ev rfl rfl rfl (by assumption), by go_simp⟩
            rcases i with _ | i
            · cases ho; exact Or.inl ⟨wanted_ev rfl rfl rfl (by assumption), by go_simp⟩
            rcases i with _ | i
            · exact absurd h1 (by decide)
            rcases i with _ | i
            · cases ho; exact Or.inl ⟨wanted_ev rfl rfl rfl (by assumption), by go_simp⟩
            rcases i with _ | i
            · cases ho; exact Or.inl ⟨wanted_ev rfl rfl rfl (by assumption), by go_simp⟩
            rcases i with _ | i
            · cases ho; exact Or.inl ⟨wanted_ev rfl rfl rfl (by assumption), by go_simp⟩
            rcases i with _ | i
            · cases ho; exact Or.inl ⟨wanted_ev rfl rfl rfl (by assumption), by go_simp⟩
            rcases i with _ | i
            · cases ho; exact Or.inl ⟨wanted_ev rfl rfl rfl (by assumption), by go_simp⟩
            rcases i with _ | i
            · cases ho; exact Or.inl ⟨wanted_ev rfl rfl rfl (by assumption), by go_simp⟩
            rcases i with _ | i
            · exact absurd h1 (by decide)
            rcases i with _ | i
            · cases ho; exact Or.inl ⟨wanted_ev rfl rfl rfl (by assumption), by go_simp⟩
            rcases i with _ | i
            · cases ho; exact Or.inl ⟨wanted_none rfl, by go_simp⟩
            rcases i with _ | i
            · cases ho; exact Or.inl ⟨wanted_none rfl, by go_simp⟩
            rcases i with _ | i
            · cases ho; exact Or.inl ⟨wanted_ev rfl rfl rfl (by assumption), by go_simp⟩
            rcases i with _ | i
            · exact absurd h1 (by decide)
            rcases i with _ | i
            · cases ho; exact Or.inl ⟨wanted_ev rfl rfl rfl (by assumption), by go_simp⟩
            rcases i with _ | i
            · exact absurd h1 (by decide)
            rcases i with _ | i
            · cases ho; exact Or.inl ⟨wanted_ev rfl rfl rfl (by assumption), by go_simp⟩
            rcases i with _ | i
            · cases ho; exact Or.inl ⟨wanted_none rfl, by go_simp⟩
            rcases i with _ | i
            · cases ho; exact Or.inl ⟨wanted_none rfl, by go_simp⟩
            rcases i with _ | i
            · cases ho; exact Or.inl ⟨wanted_ev rfl rfl rfl (by assumption), by go_simp⟩
            rcases i with _ | i
            · exact absurd h1 (by decide)
            rcases i with _ | i
            · cases ho; exact Or.inl ⟨wanted_ev rfl rfl rfl (by assumption), by go_simp⟩
            rcases i with _ | i
            · exact absurd h1 (by decide)
            rcases i with _ | i
            · exact absurd h2 (by decide)
            rcases i with _ | i
            · exact absurd h2 (by decide)
            rcases i with _ | i
            · exact absurd h2 (by decide)
            rcases i with _ | i
            · exact absurd h2 (by decide)
            rcases i with _ | i
            · exact absurd h1 (by decide)
            rcases i with _ | i
            · exact absurd h2 (by decide)
            rcases i with _ | i
            · exact absurd h1 (by decide)
            rcases i with _ | i
            · exact absurd h1 (by decide)
            rcases i with _ | i
            · exact absurd h2 (by decide)
            rcases i with _ | i
            · exact absurd h1 (by decide)
            cases ho
          rintro e w14 ⟨rfl, h5⟩
          refine ⟨_, rfl, [], by kernel_rfl, ?_⟩
          simp only [fills, Act.put, List.setIfInBounds_toArray, List.set_cons_zero, List.set_cons_succ]
          have o5 := g6 _ h5
          clear ck0 ck1 o4
          obtain ⟨ck0, ck1⟩ := ck _ h5.grown
          refine flowG_only (30, [31, 32, 33, 34, 36]) [(35, []), (37, []), (38, [39]), (40, [])] (by kernel_rfl) rfl ?run (stepG_call _ (some 135) 22 #[.pointer (some ⟨Y.Y, 0, none⟩)] rfl rfl (wanted_ev rfl rfl rfl rfl) (by go_simp) ((o5).mono ?_))
          case run =>
            clear o5 g1 g2 g3 g4 g5 g6 g7 g8 g9
            refine runsG_hide [(3, .slice (some ⟨kb, off, none⟩) len3 cap3), (10, .pointer (some ⟨X.S, 0, none⟩)), (11, .pointer (some ⟨Y.Y, 0, none⟩)), (12, .int .i64 (k : Int)), (13, .bool true), (105, .bool true), (106, .bool false), (107, .bool false), (108, .pointer (some ⟨X.S, 0, none⟩)), (109, .slice (some ⟨kb, off, none⟩) len3 cap3), (110, .int .i64 (k : Int)), (111, .pointer (some ⟨kb, off + k * 2, none⟩)), (112, .pointer (some ⟨kb, off + k * 2, none⟩)), (113, .int .i64 z), (115, .pointer (some ⟨Y.Y, 0, none⟩)), (116, .slice (some ⟨kb, off, none⟩) len3 cap3), (117, .int .i64 (k : Int)), (118, .pointer (some ⟨kb, off + k * 2, none⟩)), (119, .pointer (some ⟨kb, off + k * 2, none⟩)), (120, .int .i64 z), (114, .int .i64 (y : Int)), (121, .int .i64 (y : Int)), (122, .bool false), (123, .bool false), (124, .bool false), (125, .pointer (some ⟨X.S, 0, none⟩)), (127, .pointer (some ⟨Y.Y, 0, none⟩)), (126, .int .i64 s1), (128, .int .i64 s1), (129, .bool false), (130, .bool false), (131, .bool false), (132, .pointer (some ⟨X.S, 0, none⟩)), (134, .pointer (some ⟨Y.Y, 0, none⟩)), (133, .int .i64 s2)] ⟨rfl, rfl, rfl, rfl, rfl, rfl, rfl, rfl, rfl, rfl, rfl, rfl, rfl, rfl, rfl, rfl, rfl, rfl, rfl, rfl, rfl, rfl, rfl, rfl, rfl, rfl, rfl, rfl, rfl, rfl, rfl, rfl, rfl, rfl, rfl, trivial⟩ ?_
            rintro A ⟨e3, e10, e11, e12, e13, e105, e106, e107, e108, e109, e110, e111, e112, e113, e115, e116, e117, e118, e119, e120, e114, e121, e122, e123, e124, e125, e127, e126, e128, e129, e130, e131, e132, e134, e133, _⟩
            intro i o ho h1 h2
            rcases i with _ | i
            · cases ho; exact Or.inl ⟨wanted_none rfl, by go_simp⟩
            rcases i with _ | i
            · cases ho; exact Or.inl ⟨wanted_none rfl, by go_simp⟩
            rcases i with _ | i
            · cases ho; exact Or.inl ⟨wanted_none rfl, by go_simp⟩
            rcases i with _ | i
            · cases ho; exact Or.inl ⟨wanted_ev rfl rfl rfl (by assumption), by go_simp⟩
            rcases i with _ | i
            · cases ho; exact Or.inl ⟨wanted_ev rfl rfl rfl (by assumption), by go_simp⟩
            rcases i with _ | i
            · cases ho; exact Or.inl ⟨wanted_ev rfl rfl rfl (by assumption), by go_simp⟩
            rcases i with _ | i
            · cases ho; exact Or.inl ⟨wanted_ev rfl rfl rfl (by assumption), by go_simp⟩
            rcases i with _ | i
            · cases ho; exact Or.inl ⟨wanted_ev rfl rfl rfl (by assumption), by go_simp⟩
            rcases i with _ | i
            · cases ho; exact Or.inl ⟨wanted_ev rfl rfl rfl (by assumption), by go_simp⟩
            rcases i with _ | i
            · exact absurd h1 (by decide)
            rcases i with _ | i
            · cases ho; exact Or.inl ⟨wanted_ev rfl rfl rfl (by assumption), by go_simp⟩
            rcases i with _ | i
            · cases ho; exact Or.inl ⟨wanted_ev rfl rfl rfl (by assumption), by go_simp⟩
            rcases i with _ | i
            · cases ho; exact Or.inl ⟨wanted_ev rfl rfl rfl (by assumption), by go_simp⟩
            rcases i with _ | i
            · cases ho; exact Or.inl ⟨wanted_ev rfl rfl rfl (by assumption), by go_simp⟩
            rcases i with _ | i
            · cases ho; exact Or.inl ⟨wanted_ev rfl rfl rfl (by assumption), by go_simp⟩
            rcases i with _ | i
            · cases ho; exact Or.inl ⟨wanted_ev rfl rfl rfl (by assumption), by go_simp⟩
            rcases i with _ | i
            · exact absurd h1 (by decide)
            rcases i with _ | i
            · cases ho; exact Or.inl ⟨wanted_ev rfl rfl rfl (by assumption), by go_simp⟩
            rcases i with _ | i
            · cases ho; exact Or.inl ⟨wanted_none rfl, by go_simp⟩
            rcases i with _ | i
            · cases ho; exact Or.inl ⟨wanted_none rfl, by go_simp⟩
            rcases i with _ | i
            · cases ho; exact Or.inl ⟨wanted_ev rfl rfl rfl (by assumption), by go_simp⟩
            rcases i with _ | i
            · exact absurd h1 (by decide)
            rcases i with _ | i
            · cases ho; exact Or.inl ⟨wanted_ev rfl rfl rfl (by assumption), by go_simp⟩
            rcases i with _ | i
            · exact absurd h1 (by decide)
            rcases i with _ | i
            · cases ho; exact Or.inl ⟨wanted_ev rfl rfl rfl (by assumption), by go_simp⟩
            rcases i with _ | i
            · cases ho; exact Or.inl ⟨wanted_none rfl, by go_simp⟩
            rcases i with _ | i
            · cases ho; exact Or.inl ⟨wanted_none rfl, by go_simp⟩
            rcases i with _ | i
            · cases ho; exact Or.inl ⟨wanted_ev rfl rfl rfl (by assumption), by go_simp⟩
            rcases i with _ | i
            · exact absurd h1 (by decide)
            rcases i with _ | i
            · cases ho; exact Or.inl ⟨wanted_ev rfl rfl rfl (by assumption), by go_simp⟩
            rcases i with _ | i
            · exact absurd h1 (by decide)
            rcases i with _ | i
            · exact absurd h2 (by decide)
            rcases i with _ | i
            · exact absurd h2 (by decide)
            rcases i with _ | i
            · exact absurd h2 (by decide)
            rcases i with _ | i
            · exact absurd h2 (by decide)
            rcases i with _ | i
            · exact absurd h1 (by decide)
            rcases i with _ | i
            · exact absurd h2 (by decide)
            rcases i with _ | i
            · exact absurd h1 (by decide)
            rcases i with _ | i
            · exact absurd h1 (by decide)
            rcases i with _ | i
            · exact absurd h2 (by decide)
            rcases i with _ | i
            · exact absurd h1 (by decide)
            cases ho
          rintro e w15 ⟨rfl, h6⟩
          refine ⟨_, rfl, [(136, .bool false), (137, .bool false), (138, .bool false), (139, .pointer (some ⟨X.S, 0, none⟩)), (141, .pointer (some ⟨Y.Y, 0, none⟩))], by kernel_rfl, ?_⟩
          simp only [fills, Act.put, List.setIfInBounds_toArray, List.set_cons_zero, List.set_cons_succ]
          have o6 := g7 _ h6
          clear ck0 ck1 o5
          obtain ⟨ck0, ck1⟩ := ck _ h6.grown
          refine flowG_only (35, []) [(37, []), (38, [39]), (40, [])] (by kernel_rfl) rfl ?run (stepG_call _ (some 140) 23 #[.pointer (some ⟨X.S, 0, none⟩)] rfl rfl (wanted_ev rfl rfl rfl rfl) (by go_simp) ((o6).mono ?_))
          case run =>
            clear o6 g1 g2 g3 g4 g5 g6 g7 g8 g9
            refine runsG_hide [(3, .slice (some ⟨kb, off, none⟩) len3 cap3), (10, .pointer (some ⟨X.S, 0, none⟩)), (11, .pointer (some ⟨Y.Y, 0, none⟩)), (12, .int .i64 (k : Int)), (13, .bool true), (105, .bool true), (106, .bool false), (107, .bool false), (108, .pointer (some ⟨X.S, 0, none⟩)), (109, .slice (some ⟨kb, off, none⟩) len3 cap3), (110, .int .i64 (k : Int)), (111, .pointer (some ⟨kb, off + k * 2, none⟩)), (112, .pointer (some ⟨kb, off + k * 2, none⟩)), (113, .int .i64 z), (115, .pointer (some ⟨Y.Y, 0, none⟩)), (116, .slice (some ⟨kb, off, none⟩) len3 cap3), (117, .int .i64 (k : Int)), (118, .pointer (some ⟨kb, off + k * 2, none⟩)), (119, .pointer (some ⟨kb, off + k * 2, none⟩)), (120, .int .i64 z), (114, .int .i64 (y : Int)), (121, .int .i64 (y : Int)), (122, .bool false), (123, .bool false), (124, .bool false), (125, .pointer (some ⟨X.S, 0, none⟩)), (127, .pointer (some ⟨Y.Y, 0, none⟩)), (126, .int .i64 s1), (128, .int .i64 s1), (129, .bool false), (130, .bool false), (131, .bool false), (132, .pointer (some ⟨X.S, 0, none⟩)), (134, .pointer (some ⟨Y.Y, 0, none⟩)), (133, .int .i64 s2), (135, .int .i64 s2), (136, .bool false), (137, .bool false), (138, .bool false), (139, .pointer (some ⟨X.S, 0, none⟩)), (141, .pointer (some ⟨Y.Y, 0, none⟩))] ⟨rfl, rfl, rfl, rfl, rfl, rfl, rfl, rfl, rfl, rfl, rfl, rfl, rfl, rfl, rfl, rfl, rfl, rfl, rfl, rfl, rfl, rfl, rfl, rfl, rfl, rfl, rfl, rfl, rfl, rfl, rfl, rfl, rfl, rfl, rfl, rfl, rfl, rfl, rfl, rfl, rfl, trivial⟩ ?_
            rintro A ⟨e3, e10, e11, e12, e13, e105, e106, e107, e108, e109, e110, e111, e112, e113, e115, e116, e117, e118, e119, e120, e114, e121, e122, e123, e124, e125, e127, e126, e128, e129, e130, e131, e132, e134, e133, e135, e136, e137, e138, e139, e141, _⟩
            intro i o ho h1 h2
            rcases i with _ | i
            · cases ho; exact Or.inl ⟨wanted_none rfl, by go_simp⟩
            rcases i with _ | i
            · cases ho; exact Or.inl ⟨wanted_none rfl, by go_simp⟩
            rcases i with _ | i
            · cases ho; exact Or.inl ⟨wanted_none rfl, by go_simp⟩
            rcases i with _ | i
            · cases ho; exact Or.inl ⟨wanted_ev rfl rfl rfl (by assumption), by go_simp⟩
            rcases i with _ | i
            · cases ho; exact Or.inl ⟨wanted_ev rfl rfl rfl (by assumption), by go_simp⟩
            rcases i with _ | i
            · cases ho; exact Or.inl ⟨wanted_ev rfl rfl rfl (by assumption), by go_simp⟩
            rcases i with _ | i
            · cases ho; exact Or.inl ⟨wanted_ev rfl rfl rfl (by assumption), by go_simp⟩
            rcases i with _ | i
            · cases ho; exact Or.inl ⟨wanted_ev rfl rfl rfl (by assumption), by go_simp⟩
            rcases i with _ | i
            · cases ho; exact Or.inl ⟨wanted_ev rfl rfl rfl (by assumption), by go_simp⟩
            rcases i with _ | i
            · exact absurd h1 (by decide)
            rcases i with _ | i
            · cases ho; exact Or.inl ⟨wanted_ev rfl rfl rfl (by assumption), by go_simp⟩
            rcases i with _ | i
            · cases ho; exact Or.inl ⟨wanted_ev rfl rfl rfl (by assumption), by go_simp⟩
            rcases i with _ | i
            · cases ho; exact Or.inl ⟨wanted_ev rfl rfl rfl (by assumption), by go_simp⟩
            rcases i with _ | i
            · cases ho; exact Or.inl ⟨wanted_ev rfl rfl rfl (by assumption), by go_simp⟩
            rcases i with _ | i
            · cases ho; exact Or.inl ⟨wanted_ev rfl rfl rfl (by assumption), by go_simp⟩
            rcases i with _ | i
            · cases ho; exact Or.inl ⟨wanted_ev rfl rfl rfl (by assumption), by go_simp⟩
            rcases i with _ | i
            · exact absurd h1 (by decide)
            rcases i with _ | i
            · cases ho; exact Or.inl ⟨wanted_ev rfl rfl rfl (by assumption), by go_simp⟩
            rcases i with _ | i
            · cases ho; exact Or.inl ⟨wanted_none rfl, by go_simp⟩
            rcases i with _ | i
            · cases ho; exact Or.inl ⟨wanted_none rfl, by go_simp⟩
            rcases i with _ | i
            · cases ho; exact Or.inl ⟨wanted_ev rfl rfl rfl (by assumption), by go_simp⟩
            rcases i with _ | i
            · exact absurd h1 (by decide)
            rcases i with _ | i
            · cases ho; exact Or.inl ⟨wanted_ev rfl rfl rfl (by assumption), by go_simp⟩
            rcases i with _ | i
            · exact absurd h1 (by decide)
            rcases i with _ | i
            · cases ho; exact Or.inl ⟨wanted_ev rfl rfl rfl (by assumption), by go_simp⟩
            rcases i with _ | i
            · cases ho; exact Or.inl ⟨wanted_none rfl, by go_simp⟩
            rcases i with _ | i
            · cases ho; exact Or.inl ⟨wanted_none rfl, by go_simp⟩
            rcases i with _ | i
            · cases ho; exact Or.inl ⟨wanted_ev rfl rfl rfl (by assumption), by go_simp⟩
            rcases i with _ | i
            · exact absurd h1 (by decide)
            rcases i with _ | i
            · cases ho; exact Or.inl ⟨wanted_ev rfl rfl rfl (by assumption), by go_simp⟩
            rcases i with _ | i
            · exact absurd h1 (by decide)
            rcases i with _ | i
            · cases ho; exact Or.inl ⟨wanted_ev rfl rfl rfl (by assumption), by go_simp⟩
            rcases i with _ | i
            · cases ho; exact Or.inl ⟨wanted_none rfl, by go_simp⟩
            rcases i with _ | i
            · cases ho; exact Or.inl ⟨wanted_none rfl, by go_simp⟩
            rcases i with _ | i
            · cases ho; exact Or.inl ⟨wanted_ev rfl rfl rfl (by assumption), by go_simp⟩
            rcases i with _ | i
            · exact absurd h1 (by decide)
            rcases i with _ | i
            · cases ho; exact Or.inl ⟨wanted_ev rfl rfl rfl (by assumption), by go_simp⟩
            rcases i with _ | i
            · exact absurd h1 (by decide)
            rcases i with _ | i
            · exact absurd h1 (by decide)
            rcases i with _ | i
            · exact absurd h2 (by decide)
            rcases i with _ | i
            · exact absurd h1 (by decide)
            cases ho
          rintro e w16 ⟨pa, ca, rfl, h7⟩
          refine ⟨_, rfl, [], by kernel_rfl, ?_⟩
          simp only [fills, Act.put, List.setIfInBounds_toArray, List.set_cons_zero, List.set_cons_succ]
          have o7 := g8 _ pa ca h7
          clear ck0 ck1 o6
          obtain ⟨ck0, ck1⟩ := ck _ h7.grown
          refine flowG_only (37, []) [(38, [39]), (40, [])] (by kernel_rfl) rfl ?run (stepG_call _ (some 142) 24 #[.pointer (some ⟨Y.Y, 0, none⟩)] rfl rfl (wanted_ev rfl rfl rfl rfl) (by go_simp) ((o7).mono ?_))
          case run =>
            clear o7 g1 g2 g3 g4 g5 g6 g7 g8 g9
            refine runsG_hide [(3, .slice (some ⟨kb, off, none⟩) len3 cap3), (10, .pointer (some ⟨X.S, 0, none⟩)), (11, .pointer (some ⟨Y.Y, 0, none⟩)), (12, .int .i64 (k : Int)), (13, .bool true), (105, .bool true), (106, .bool false), (107, .bool false), (108, .pointer (some ⟨X.S, 0, none⟩)), (109, .slice (some ⟨kb, off, none⟩) len3 cap3), (110, .int .i64 (k : Int)), (111, .pointer (some ⟨kb, off + k * 2, none⟩)), (112, .pointer (some ⟨kb, off + k * 2, none⟩)), (113, .int .i64 z), (115, .pointer (some ⟨Y.Y, 0, none⟩)), (116, .slice (some ⟨kb, off, none⟩) len3 cap3), (117, .int .i64 (k : Int)), (118, .pointer (some ⟨kb, off + k * 2, none⟩)), (119, .pointer (some ⟨kb, off + k * 2, none⟩)), (120, .int .i64 z), (114, .int .i64 (y : Int)), (121, .int .i64 (y : Int)), (122, .bool false), (123, .bool false), (124, .bool false), (125, .pointer (some ⟨X.S, 0, none⟩)), (127, .pointer (some ⟨Y.Y, 0, none⟩)), (126, .int .i64 s1), (128, .int .i64 s1), (129, .bool false), (130, .bool false), (131, .bool false), (132, .pointer (some ⟨X.S, 0, none⟩)), (134, .pointer (some ⟨Y.Y, 0, none⟩)), (133, .int .i64 s2), (135, .int .i64 s2), (136, .bool false), (137, .bool false), (138, .bool false), (139, .pointer (some ⟨X.S, 0, none⟩)), (141, .pointer (some ⟨Y.Y, 0, none⟩)), (140, .slice pa kk ca)] ⟨rfl, rfl, rfl, rfl, rfl, rfl, rfl, rfl, rfl, rfl, rfl, rfl, rfl, rfl, rfl, rfl, rfl, rfl, rfl, rfl, rfl, rfl, rfl, rfl, rfl, rfl, rfl, rfl, rfl, rfl, rfl, rfl, rfl, rfl, rfl, rfl, rfl, rfl, rfl, rfl, rfl, rfl, trivial⟩ ?_
            rintro A ⟨e3, e10, e11, e12, e13, e105, e106, e107, e108, e109, e110, e111, e112, e113, e115, e116, e117, e118, e119, e120, e114, e121, e122, e123, e124, e125, e127, e126, e128, e129, e130, e131, e132, e134, e133, e135, e136, e137, e138, e139, e141, e140, _⟩
            intro i o ho h1 h2
            rcases i with _ | i
            · cases ho; exact Or.inl ⟨wanted_none rfl, by go_simp⟩
            rcases i with _ | i
            · cases ho; exact Or.inl ⟨wanted_none rfl, by go_simp⟩
            rcases i with _ | i
            · cases ho; exact Or.inl ⟨wanted_none rfl, by go_simp⟩
            rcases i with _ | i
            · cases ho; exact Or.inl ⟨wanted_ev rfl rfl rfl (by assumption), by go_simp⟩
            rcases i with _ | i
            · cases ho; exact Or.inl ⟨wanted_ev rfl rfl rfl (by assumption), by go_simp⟩
            rcases i with _ | i
            · cases ho; exact Or.inl ⟨wanted_ev rfl rfl rfl (by assumption), by go_simp⟩
            rcases i with _ | i
            · cases ho; exact Or.inl ⟨wanted_ev rfl rfl rfl (by assumption), by go_simp⟩
            rcases i with _ | i
            · cases ho; exact Or.inl ⟨wanted_ev rfl rfl rfl (by assumption), by go_simp⟩
            rcases i with _ | i
            · cases ho; exact Or.inl ⟨wanted_ev rfl rfl rfl (by assumption), by go_simp⟩
            rcases i with _ | i
            · exact absurd h1 (by decide)
            rcases i with _ | i
            · cases ho; exact Or.inl ⟨wanted_ev rfl rfl rfl (by assumption), by go_simp⟩
            rcases i with _ | i
            · cases ho; exact Or.inl ⟨wanted_ev rfl rfl rfl (by assumption), by go_simp⟩
            rcases i with _ | i
            · cases ho; exact Or.inl ⟨wanted_ev rfl rfl rfl (by assumption), by go_simp⟩
            rcases i with _ | i
            · cases ho; exact Or.inl ⟨wanted_ev rfl rfl rfl (by assumption), by go_simp⟩
            rcases i with _ | i
            · cases ho; exact Or.inl ⟨wanted_ev rfl rfl rfl (by assumption), by go_simp⟩
            rcases i with _ | i
            · cases ho; exact Or.inl ⟨wanted_ev rfl rfl rfl (by assumption), by go_simp⟩
            rcases i with _ | i
            · exact absurd h1 (by decide)
            rcases i with _ | i
            · cases ho; exact Or.inl ⟨wanted_ev rfl rfl rfl (by assumption), by go_simp⟩
            rcases i with _ | i
            · cases ho; exact Or.inl ⟨wanted_none rfl, by go_simp⟩
            rcases i with _ | i
            · cases ho; exact Or.inl ⟨wanted_none rfl, by go_simp⟩
            rcases i with _ | i
            · cases ho; exact Or.inl ⟨wanted_ev rfl rfl rfl (by assumption), by go_simp⟩
            rcases i with _ | i
            · exact absurd h1 (by decide)
            rcases i with _ | i
            · cases ho; exact Or.inl ⟨wanted_ev rfl rfl rfl (by assumption), by go_simp⟩
            rcases i with _ | i
            · exact absurd h1 (by decide)
            rcases i with _ | i
            · cases ho; exact Or.inl ⟨wanted_ev rfl rfl rfl (by assumption), by go_simp⟩
            rcases i with _ | i
            · cases ho; exact Or.inl ⟨wanted_none rfl, by go_simp⟩
            rcases i with _ | i
            · cases ho; exact Or.inl ⟨wanted_none rfl, by go_simp⟩
            rcases i with _ | i
            · cases ho; exact Or.inl ⟨wanted_ev rfl rfl rfl (by assumption), by go_simp⟩
            rcases i with _ | i
            · exact absurd h1 (by decide)
            rcases i with _ | i
            · cases ho; exact Or.inl ⟨wanted_ev rfl rfl rfl (by assumption), by go_simp⟩
            rcases i with _ | i
            · exact absurd h1 (by decide)
            rcases i with _ | i
            · cases ho; exact Or.inl ⟨wanted_ev rfl rfl rfl (by assumption), by go_simp⟩
            rcases i with _ | i
            · cases ho; exact Or.inl ⟨wanted_none rfl, by go_simp⟩
            rcases i with _ | i
            · cases ho; exact Or.inl ⟨wanted_none rfl, by go_simp⟩
            rcases i with _ | i
            · cases ho; exact Or.inl ⟨wanted_ev rfl rfl rfl (by assumption), by go_simp⟩
            rcases i with _ | i
            · exact absurd h1 (by decide)
            rcases i with _ | i
            · cases ho; exact Or.inl ⟨wanted_ev rfl rfl rfl (by assumption), by go_simp⟩
            rcases i with _ | i
            · exact absurd h1 (by decide)
            rcases i with _ | i
            · exact absurd h1 (by decide)
            rcases i with _ | i
            · exact absurd h2 (by decide)
            rcases i with _ | i
            · exact absurd h1 (by decide)
            cases ho
          rintro e w17 ⟨pb, cb, rfl, h8⟩
          refine ⟨_, rfl, [], by kernel_rfl, ?_⟩
          simp only [fills, Act.put, List.setIfInBounds_toArray, List.set_cons_zero, List.set_cons_succ]
          have o8 := g9 _ pa ca pb cb h8
          clear ck0 ck1 o7
          obtain ⟨ck0, ck1⟩ := ck _ h8.grown
          refine flowG_only (38, [39]) [(40, [])] (by kernel_rfl) rfl ?run (stepG_call _ (some 143) 12 #[.slice pa kk ca, .slice pb kk cb] rfl rfl (wanted_ev rfl rfl rfl rfl) (by go_simp) ((o8).mono ?_))
          case run =>
            clear o8 g1 g2 g3 g4 g5 g6 g7 g8 g9
            refine runsG_hide [(3, .slice (some ⟨kb, off, none⟩) len3 cap3), (10, .pointer (some ⟨X.S, 0, none⟩)), (11, .pointer (some ⟨Y.Y, 0, none⟩)), (12, .int .i64 (k : Int)), (13, .bool true), (105, .bool true), (106, .bool false), (107, .bool false), (108, .pointer (some ⟨X.S, 0, none⟩)), (109, .slice (some ⟨kb, off, none⟩) len3 cap3), (110, .int .i64 (k : Int)), (111, .pointer (some ⟨kb, off + k * 2, none⟩)), (112, .pointer (some ⟨kb, off + k * 2, none⟩)), (113, .int .i64 z), (115, .pointer (some ⟨Y.Y, 0, none⟩)), (116, .slice (some ⟨kb, off, none⟩) len3 cap3), (117, .int .i64 (k : Int)), (118, .pointer (some ⟨kb, off + k * 2, none⟩)), (119, .pointer (some ⟨kb, off + k * 2, none⟩)), (120, .int .i64 z), (114, .int .i64 (y : Int)), (121, .int .i64 (y : Int)), (122, .bool false), (123, .bool false), (124, .bool false), (125, .pointer (some ⟨X.S, 0, none⟩)), (127, .pointer (some ⟨Y.Y, 0, none⟩)), (126, .int .i64 s1), (128, .int .i64 s1), (129, .bool false), (130, .bool false), (131, .bool false), (132, .pointer (some ⟨X.S, 0, none⟩)), (134, .pointer (some ⟨Y.Y, 0, none⟩)), (133, .int .i64 s2), (135, .int .i64 s2), (136, .bool false), (137, .bool false), (138, .bool false), (139, .pointer (some ⟨X.S, 0, none⟩)), (141, .pointer (some ⟨Y.Y, 0, none⟩)), (140, .slice pa kk ca), (142, .slice pb kk cb)] ⟨rfl, rfl, rfl, rfl, rfl, rfl, rfl, rfl, rfl, rfl, rfl, rfl, rfl, rfl, rfl, rfl, rfl, rfl, rfl, rfl, rfl, rfl, rfl, rfl, rfl, rfl, rfl, rfl, rfl, rfl, rfl, rfl, rfl, rfl, rfl, rfl, rfl, rfl, rfl, rfl, rfl, rfl, rfl, trivial⟩ ?_
            rintro A ⟨e3, e10, e11, e12, e13, e105, e106, e107, e108, e109, e110, e111, e112, e113, e115, e116, e117, e118, e119, e120, e114, e121, e122, e123, e124, e125, e127, e126, e128, e129, e130, e131, e132, e134, e133, e135, e136, e137, e138, e139, e141, e140, e142, _⟩
            intro i o ho h1 h2
            rcases i with _ | i
            · cases ho; exact Or.inl ⟨wanted_none rfl, by go_simp⟩
            rcases i with _ | i
            · cases ho; exact Or.inl ⟨wanted_none rfl, by go_simp⟩
            rcases i with _ | i
            · cases ho; exact Or.inl ⟨wanted_none rfl, by go_simp⟩
            rcases i with _ | i
            · cases ho; exact Or.inl ⟨wanted_ev rfl rfl rfl (by assumption), by go_simp⟩
            rcases i with _ | i
            · cases ho; exact Or.inl ⟨wanted_ev rfl rfl rfl (by assumption), by go_simp⟩
            rcases i with _ | i
            · cases ho; exact Or.inl ⟨wanted_ev rfl rfl rfl (by assumption), by go_simp⟩
            rcases i with _ | i
            · cases ho; exact Or.inl ⟨wanted_ev rfl rfl rfl (by assumption), by go_simp⟩
            rcases i with _ | i
            · cases ho; exact Or.inl ⟨wanted_ev rfl rfl rfl (by assumption), by go_simp⟩
            rcases i with _ | i
            · cases ho; exact Or.inl ⟨wanted_ev rfl rfl rfl (by assumption), by go_simp⟩
            rcases i with _ | i
            · exact absurd h1 (by decide)
            rcases i with _ | i
            · cases ho; exact Or.inl ⟨wanted_ev rfl rfl rfl (by assumption), by go_simp⟩
            rcases i with _ | i
            · cases ho; exact Or.inl ⟨wanted_ev rfl rfl rfl (by assumption), by go_simp⟩
            rcases i with _ | i
            · cases ho; exact Or.inl ⟨wanted_ev rfl rfl rfl (by assumption), by go_simp⟩
            rcases i with _ | i
            · cases ho; exact Or.inl ⟨wanted_ev rfl rfl rfl (by assumption), by go_simp⟩
            rcases i with _ | i
            · cases ho; exact Or.inl ⟨wanted_ev rfl rfl rfl (by assumption), by go_simp⟩
            rcases i with _ | i
            · cases ho; exact Or.inl ⟨wanted_ev rfl rfl rfl (by assumption), by go_simp⟩
            rcases i with _ | i
            · exact absurd h1 (by decide)
            rcases i with _ | i
            · cases ho; exact Or.inl ⟨wanted_ev rfl rfl rfl (by assumption), by go_simp⟩
            rcases i with _ | i
            · cases ho; exact Or.inl ⟨wanted_none rfl, by go_simp⟩
            rcases i with _ | i
            · cases ho; exact Or.inl ⟨wanted_none rfl, by go_simp⟩
            rcases i with _ | i
            · cases ho; exact Or.inl ⟨wanted_ev rfl rfl rfl (by assumption), by go_simp⟩
            rcases i with _ | i
            · exact absurd h1 (by decide)
            rcases i with _ | i
            · cases ho; exact Or.inl ⟨wanted_ev rfl rfl rfl (by assumption), by go_simp⟩
            rcases i with _ | i
            · exact absurd h1 (by decide)
            rcases i with _ | i
            · cases ho; exact Or.inl ⟨wanted_ev rfl rfl rfl (by assumption), by go_simp⟩
            rcases i with _ | i
            · cases ho; exact Or.inl ⟨wanted_none rfl, by go_simp⟩
            rcases i with _ | i
            · cases ho; exact Or.inl ⟨wanted_none rfl, by go_simp⟩
            rcases i with _ | i
            · cases ho; exact Or.inl ⟨wanted_ev rfl rfl rfl (by assumption), by go_simp⟩
            rcases i with _ | i
            · exact absurd h1 (by decide)
            rcases i with _ | i
            · cases ho; exact Or.inl ⟨wanted_ev rfl rfl rfl (by assumption), by go_simp⟩
            rcases i with _ | i
            · exact absurd h1 (by decide)
            rcases i with _ | i
            · cases ho; exact Or.inl ⟨wanted_ev rfl rfl rfl (by assumption), by go_simp⟩
            rcases i with _ | i
            · cases ho; exact Or.inl ⟨wanted_none rfl, by go_simp⟩
            rcases i with _ | i
            · cases ho; exact Or.inl ⟨wanted_none rfl, by go_simp⟩
            rcases i with _ | i
            · cases ho; exact Or.inl ⟨wanted_ev rfl rfl rfl (by assumption), by go_simp⟩
            rcases i with _ | i
            · exact absurd h1 (by decide)
            rcases i with _ | i
            · cases ho; exact Or.inl ⟨wanted_ev rfl rfl rfl (by assumption), by go_simp⟩
            rcases i with _ | i
            · exact absurd h1 (by decide)
            rcases i with _ | i
            · exact absurd h1 (by decide)
            rcases i with _ | i
            · exact absurd h2 (by decide)
            rcases i with _ | i
            · exact absurd h1 (by decide)
            cases ho
          rintro e w18 ⟨rfl, h9⟩
          refine ⟨_, rfl, [(144, .bool false)], by kernel_rfl, ?_⟩
          simp only [fills, Act.put, List.setIfInBounds_toArray, List.set_cons_zero, List.set_cons_succ]
          clear ck0 ck1 o8
          obtain ⟨ck0, ck1⟩ := ck _ h9.grown
          have h9 : Hid (Apt w w18 [obSp X st, obDp Y ds]) := h9
          refine flowG_only (40, []) [] (by kernel_rfl) rfl ?run (stepG_val _ (some 145) (.bool false) w18 [] rfl rfl (wanted_none rfl) (by go_simp) rfl ?_)
          case run =>
            clear g1 g2 g3 g4 g5 g6 g7 g8 g9
            refine runsG_hide [(3, .slice (some ⟨kb, off, none⟩) len3 cap3), (10, .pointer (some ⟨X.S, 0, none⟩)), (11, .pointer (some ⟨Y.Y, 0, none⟩)), (12, .int .i64 (k : Int)), (13, .bool true), (105, .bool true), (106, .bool false), (107, .bool false), (108, .pointer (some ⟨X.S, 0, none⟩)), (109, .slice (some ⟨kb, off, none⟩) len3 cap3), (110, .int .i64 (k : Int)), (111, .pointer (some ⟨kb, off + k * 2, none⟩)), (112, .pointer (some ⟨kb, off + k * 2, none⟩)), (113, .int .i64 z), (115, .pointer (some ⟨Y.Y, 0, none⟩)), (116, .slice (some ⟨kb, off, none⟩) len3 cap3), (117, .int .i64 (k : Int)), (118, .pointer (some ⟨kb, off + k * 2, none⟩)), (119, .pointer (some ⟨kb, off + k * 2, none⟩)), (120, .int .i64 z), (114, .int .i64 (y : Int)), (121, .int .i64 (y : Int)), (122, .bool false), (123, .bool false), (124, .bool false), (125, .pointer (some ⟨X.S, 0, none⟩)), (127, .pointer (some ⟨Y.Y, 0, none⟩)), (126, .int .i64 s1), (128, .int .i64 s1), (129, .bool false), (130, .bool false), (131, .bool false), (132, .pointer (some ⟨X.S, 0, none⟩)), (134, .pointer (some ⟨Y.Y, 0, none⟩)), (133, .int .i64 s2), (135, .int .i64 s2), (136, .bool false), (137, .bool false), (138, .bool false), (139, .pointer (some ⟨X.S, 0, none⟩)), (141, .pointer (some ⟨Y.Y, 0, none⟩)), (140, .slice pa kk ca), (142, .slice pb kk cb), (143, .bool true), (144, .bool false)] ⟨rfl, rfl, rfl, rfl, rfl, rfl, rfl, rfl, rfl, rfl, rfl, rfl, rfl, rfl, rfl, rfl, rfl, rfl, rfl, rfl, rfl, rfl, rfl, rfl, rfl, rfl, rfl, rfl, rfl, rfl, rfl, rfl, rfl, rfl, rfl, rfl, rfl, rfl, rfl, rfl, rfl, rfl, rfl, rfl, rfl, trivial⟩ ?_
            rintro A ⟨e3, e10, e11, e12, e13, e105, e106, e107, e108, e109, e110, e111, e112, e113, e115, e116, e117, e118, e119, e120, e114, e121, e122, e123, e124, e125, e127, e126, e128, e129, e130, e131, e132, e134, e133, e135, e136, e137, e138, e139, e141, e140, e142, e143, e144, _⟩
            intro i o ho h1 h2
            rcases i with _ | i
            · cases ho; exact Or.inl ⟨wanted_none rfl, by go_simp⟩
            rcases i with _ | i
            · cases ho; exact Or.inl ⟨wanted_none rfl, by go_simp⟩
            rcases i with _ | i
            · cases ho; exact Or.inl ⟨wanted_none rfl, by go_simp⟩
            rcases i with _ | i
            · cases ho; exact Or.inl ⟨wanted_ev rfl rfl rfl (by assumption), by go_simp⟩
            rcases i with _ | i
            · cases ho; exact Or.inl ⟨wanted_ev rfl rfl rfl (by assumption), by go_simp⟩
            rcases i with _ | i
            · cases ho; exact Or.inl ⟨wanted_ev rfl rfl rfl (by assumption), by go_simp⟩
            rcases i with _ | i
            · cases ho; exact Or.inl ⟨wanted_ev rfl rfl rfl (by assumption), by go_simp⟩
            rcases i with _ | i
            · cases ho; exact Or.inl ⟨wanted_ev rfl rfl rfl (by assumption), by go_simp⟩
            rcases i with _ | i
            · cases ho; exact Or.inl ⟨wanted_ev rfl rfl rfl (by assumption), by go_simp⟩
            rcases i with _ | i
            · exact absurd h1 (by decide)
            rcases i with _ | i
            · cases ho; exact Or.inl ⟨wanted_ev rfl rfl rfl (by assumption), by go_simp⟩
            rcases i with _ | i
            · cases ho; exact Or.inl ⟨wanted_ev rfl rfl rfl (by assumption), by go_simp⟩
            rcases i with _ | i
            · cases ho; exact Or.inl ⟨wanted_ev rfl rfl rfl (by assumption), by go_simp⟩
            rcases i with _ | i
            · cases ho; exact Or.inl ⟨wanted_ev rfl rfl rfl (by assumption), by go_simp⟩
            rcases i with _ | i
            · cases ho; exact Or.inl ⟨wanted_ev rfl rfl rfl (by assumption), by go_simp⟩
            rcases i with _ | i
            · cases ho; exact Or.inl ⟨wanted_ev rfl rfl rfl (by assumption), by go_simp⟩
            rcases i with _ | i
            · exact absurd h1 (by decide)
            rcases i with _ | i
            · cases ho; exact Or.inl ⟨wanted_ev rfl rfl rfl (by assumption), by go_simp⟩
            rcases i with _ | i
            · cases ho; exact Or.inl ⟨wanted_none rfl, by go_simp⟩
            rcases i with _ | i
            · cases ho; exact Or.inl ⟨wanted_none rfl, by go_simp⟩
            rcases i with _ | i
            · cases ho; exact Or.inl ⟨wanted_ev rfl rfl rfl (by assumption), by go_simp⟩
            rcases i with _ | i
            · exact absurd h1 (by decide)
            rcases i with _ | i
            · cases ho; exact Or.inl ⟨wanted_ev rfl rfl rfl (by assumption), by go_simp⟩
            rcases i with _ | i
            · exact absurd h1 (by decide)
            rcases i with _ | i
            · cases ho; exact Or.inl ⟨wanted_ev rfl rfl rfl (by assumption), by go_simp⟩
            rcases i with _ | i
            · cases ho; exact Or.inl ⟨wanted_none rfl, by go_simp⟩
            rcases i with _ | i
            · cases ho; exact Or.inl ⟨wanted_none rfl, by go_simp⟩
            rcases i with _ | i
            · cases ho; exact Or.inl ⟨wanted_ev rfl rfl rfl (by assumption), by go_simp⟩
            rcases i with _ | i
            · exact absurd h1 (by decide)
            rcases i with _ | i
            · cases ho; exact Or.inl ⟨wanted_ev rfl rfl rfl (by assumption), by go_simp⟩
            rcases i with _ | i
            · exact absurd h1 (by decide)
            rcases i with _ | i
            · cases ho; exact Or.inl ⟨wanted_ev rfl rfl rfl (by assumption), by go_simp⟩
            rcases i with _ | i
            · cases ho; exact Or.inl ⟨wanted_none rfl, by go_simp⟩
            rcases i with _ | i
            · cases ho; exact Or.inl ⟨wanted_none rfl, by go_simp⟩
            rcases i with _ | i
            · cases ho; exact Or.inl ⟨wanted_ev rfl rfl rfl (by assumption), by go_simp⟩
            rcases i with _ | i
            · exact absurd h1 (by decide)
            rcases i with _ | i
            · cases ho; exact Or.inl ⟨wanted_ev rfl rfl rfl (by assumption), by go_simp⟩
            rcases i with _ | i
            · exact absurd h1 (by decide)
            rcases i with _ | i
            · exact absurd h1 (by decide)
            rcases i with _ | i
            · cases ho; exact Or.inl ⟨wanted_ev rfl rfl rfl (by assumption), by go_simp⟩
            rcases i with _ | i
            · exact absurd h1 (by decide)
            cases ho
          simp only [fills, Act.put, List.setIfInBounds_toArray, List.set_cons_zero, List.set_cons_succ]
          refine flowG_done ?_
          show Exit.then _ (Exit.inBlock 1 (Exit.then _ _)) Exit.normal _ _
          clear ck ck0 ck1 hx g1 g2 g3 g4 g5 g6 g7 g8 g9
          go_wp2_with fail
          go_roundw
          case rel => exact ⟨k + 1, st, ds, by omega, by go_num, hlo.out, hs.out, h9.out⟩
          case measure => simp [intOf]; omega
      · obtain rfl : k = len3 := by omega
        have hd : decide ((k : Int) < (k : Int)) = false := by rw [decide_eq_false_iff_not]; omega
        have ta := drain_p hx.out (i := 0) rfl
        have tb := fun w1 p1 c1 (h : Apt w w1 [obSp X (emptyN st), obDp Y ds, obV p1 c1 (allN st)]) => rdrain_p h (i := 1) rfl hs.out hr4.out
        have ti := fun w1 ds2 p1 c1 p2 c2 (h : Apt w w1 [obSp X (emptyN st), obDp Y ds2, obV p1 c1 (allN st), obV p2 c2 (allN st)]) => ints_s h (i := 2) (j := 3) rfl rfl (by have := hab.out; omega)
        obtain ⟨n, hn⟩ : ∃ n, n = (allN st).length := ⟨_, rfl⟩
        simp only [← hn] at ta tb ti
        unfold ptr at ta tb
        clear hn hkk
        go_wp2_with (first
          | (go_at_call 13; refine ta.mono ?_; rintro e w2 ⟨p1, c1, rfl, h2⟩; clear ta; have h2 : Hid (Apt w w2 [obSp X (emptyN st), obDp Y ds, obV p1 c1 (allN st)]) := h2)
          | (go_at_call 14; refine (tb _ _ _ h2.out).mono ?_; rintro e w3 ⟨ds2, p2, c2, rfl, hs2, h3⟩; clear tb h2 hs2; have h3 : Hid (Apt w w3 [obSp X (emptyN st), obDp Y ds2, obV p1 c1 (allN st), obV p2 c2 (allN st)]) := h3)
          | (go_at_call 12; refine (ti _ _ _ _ _ _ h3.out).mono ?_; rintro e w4 ⟨rfl, h4⟩; clear ti h3; have h4 : Hid (Apt w w4 [obSp X (emptyN st), obDp Y ds2, obV p1 c1 (allN st), obV p2 c2 (allN st)]) := h4))
        go_ret
        exact ⟨rfl, h4.out.grown⟩

/-! ### The row's step -/
set_option maxRecDepth 100000 in
theorem lifted (os : Os) (started : os.Started) (H : Type) (enc : TypeId × Value → H) :
    ReturnsInHanded {} Try.checked os 3 .any (Rows.stripesPlaySpec.pre6 enc Try.prog Try.f3 Rows.stripesPlayRow.domain false) (Rows.stripesPlaySpec.post enc Try.prog Try.f3 false true false false) := by
  refine returnsInHanded_of_change (C := Try.checked) own started (by kernel_rfl) Try.func3
    (ChangeSpec.witness6 (enc := enc) (C := Try.checked) false ⟨#[], #[.int .i64 0, .int .i64 0, .int .i64 0, .slice none 0 0], []⟩ 8 (by kernel_rfl) (by kernel_rfl) (by kernel_rfl) (by kernel_rfl)) ?_
  intro W base args ds gs before hval0 hW hcnd _
  have hval : ∀ (j : Nat) t v, Try.f3.params[j]? = some t → args[j]? = some v → Value.okWide Try.prog W .any base t v := hval0
  have hW' := hW
  obtain ⟨p, q, hA0, hV, rfl, hfz, hnd⟩ := hW
  have hA : DataW.TrodAll enc Try.prog W 0 (fun _ => true) true Try.f3.params.toList args.toList ds p := hA0
  rw [Try.params3] at hA hval
  obtain ⟨v0, vs0, d0, ds0, p0, q0, hargs, rfl, rfl, h0, r0⟩ := trodAll_cons hA
  obtain ⟨v1, vs1, d1, ds1, p1, q1, rfl, rfl, rfl, h1, r1⟩ := trodAll_cons r0
  obtain ⟨v2, vs2, d2, ds2, p2, q2, rfl, rfl, rfl, h2, r2⟩ := trodAll_cons r1
  obtain ⟨v3, vs3, d3, ds3, p3, q3, rfl, rfl, rfl, h3, r3⟩ := trodAll_cons r2
  obtain ⟨rfl, rfl, rfl⟩ := trodAll_nil r3
  obtain rfl : args = #[v0, v1, v2, v3] := by cases args; simp_all
  obtain ⟨rfl, rfl⟩ := trodVars_none hV
  obtain ⟨a0, rfl, rfl, rfl, w0⟩ := open_int Try.underlying3 (hval 0 3 v0 rfl rfl) h0
  obtain ⟨a1, rfl, rfl, rfl, w1⟩ := open_int Try.underlying3 (hval 1 3 v1 rfl rfl) h1
  obtain ⟨a2, rfl, rfl, rfl, w2⟩ := open_int Try.underlying3 (hval 2 3 v2 rfl rfl) h2
  obtain ⟨a3, len3, cap3, rfl⟩ := okWide_slice Try.underlying22 (hval 3 22 v3 rfl rfl)
  have k3 := h3
  have lt3 : ∀ x ∈ p3, x.block < W.heap.size := by obtain ⟨m, hm⟩ := k3; exact DataW.trod_lt m _ _ _ hm
  obtain ⟨z3, w3⟩ := open_grid Try.underlying22 Try.underlying28 Try.underlying3 (by kernel_rfl) (by kernel_rfl) h3
  clear hA0 hval0
  refine (walk a0 a1 a2 a3 len3 cap3 z3 W w0 w1 w2 w3).mono fun e W' ⟨he, bel⟩ => ?_
  subst he
  exact ⟨_, rfl, _, _, _, [], _, [], hW', trodAll_mk1 (shut_bool Try.underlying4 _), (trodAll_cons_mk (shut_int Try.underlying3 w0) (trodAll_cons_mk (shut_int Try.underlying3 w1) (trodAll_cons_mk (shut_int Try.underlying3 w2) (trodAll_cons_mk (grown_trod laidOut (by kernel_rfl) (of_decide_eq_true (by kernel_rfl)) k3 bel lt3) trodAll_mk0)))), rfl, bel.frame _, fun h => by cases h⟩

theorem over : Rows.stripesPlayRow.holds Try.pinned (OpenSpec.ofChange Rows.stripesPlaySpec) :=
  OpenClaim.holds_of_wide 3 Try.f3 rfl rfl rfl rfl rfl rfl rfl ⟨rfl, rfl, rfl, rfl, rfl⟩ rfl rfl rfl rfl rfl (by kernel_rfl) Try.func3 (by kernel_rfl)
    (of_decide_eq_true (by kernel_rfl)) (by unfold Func.isWrapper; first | (rw [if_pos (by decide +kernel)]; kernel_rfl) | (rw [if_neg (by decide +kernel)]; exact ⟨rfl, rfl⟩))
    (fun os started H enc _ => lifted os started H enc)

/-- The statement. -/
theorem proved : Rows.StripesPlaySaid := over
end Go.Proofs.Ytbboomhgigaobaa.stripesPlay

namespace Go.Proofs.Ytbboomhgigaobaa
/-- The given statement. -/
theorem stripesPlay_holds : Rows.StripesPlaySaid := stripesPlay.proved
#print axioms stripesPlay_holds
end Go.Proofs.Ytbboomhgigaobaa
