/-
  Proved: pantrylaw13.StripesOne returns true for every count, seed and slice of pairs: with one ring all is taken in its order, and threads keep their places (P13.1, P13.3). No condition.
-/
import Derived.Test.YtbboomhgigaobaaRows
import Derived.WalkKit
import Derived.ProofKit
import Derived.OpenShut
import Derived.Test.YtbboomhgigaobaaSpOne
import Derived.ShutString
import Derived.ChangeOld
import Derived.Below
import Derived.Test.YtbboomhgigaobaaGenArgs
namespace Go.Proofs.Ytbboomhgigaobaa.stripesOne
open Go.ChangeShapes Go.WideShapes Go.ChangeAt Go.RowKit
set_option linter.unusedVariables false

theorem own : ownKnob Try.prog.godebug = none := by kernel_rfl
theorem laidOut : laidOutB Try.prog = true := by kernel_rfl

/-! ### The walk: the law returns true, and writes nothing that was there -/
open Go.Proofs.Ytbboomhgigaobaa.Rn in set_option maxRecDepth 100000 in set_option maxHeartbeats 16000000 in
theorem walk (a0 : Int) (a1 : Int) (a2 : Option Addr) (len2 cap2 : Nat) (z2 : Nat → Nat → Int) (w : World) (w0 : (Lit.int .i64 a0).wf = true) (w1 : (Lit.int .i64 a1).wf = true) (w2 : IsGrid .i64 2 w a2 len2 cap2 z2) :
    Calls Try.prog 5 #[.int .i64 a0, .int .i64 a1, .slice a2 len2 cap2] w fun e w' => e = .returned (.bool true) ∧ Grown w w' := by
  have hk1 := grid_open (by decide) w2
  clear w0 w1 w2
  have e1 : ceilI 1 1 64 = ((1 : Nat) : Int) := by decide +kernel
  have eN : ceilI 256 1 4096 = ((256 : Nat) : Int) := by decide +kernel
  obtain ⟨kk, k1, k2, ek⟩ := count_all a0
  have nx := fun (w1 : World) (g : Grown w w1) => new_x (Apt.none g) 1 256 a1 (by decide) (by decide) e1 (by decide) (by decide) eN
  have ny := fun (X : Sp) (w1 : World) (h : Apt w w1 [obSp X (freshN 1)]) => new_x h a0 256 a1 k1 k2 ek (by decide) (by decide) eN
  clear e1 eN ek
  unfold ptr at nx ny
  by_cases hl : 200 < len2
  · clear hk1
    have d1 : decide (200 < (len2 : Int)) = true := by rw [decide_eq_true_eq]; omega
    go_enter Try.func5, Try.ntmps5
    go_wp2_with (first | (go_at_call 7; refine (small_s _).mono ?_; rintro e ws ⟨rfl, hgs⟩) | (go_at_call 8; refine (nx _ hgs).mono ?_; rintro e wx ⟨X, rfl, hX, hx⟩; clear nx hX hgs; have hx : Hid (Apt w wx [obSp X (freshN 1)]) := hx) | (go_at_call 8; refine (ny _ _ hx.out).mono ?_; rintro e wy ⟨Y, rfl, hY, hy⟩; clear ny hx hY; have hy : Hid (Apt w wy [obSp X (freshN 1), obSp Y (freshN kk)]) := hy))
    go_ret
    exact ⟨rfl, hy.out.grown⟩
  · have d1 : decide (200 < (len2 : Int)) = false := by rw [decide_eq_false_iff_not]; omega
    have hlen : len2 ≤ 200 := by omega
    have hkk : ∀ k, k < len2 → ∃ kb off, a2 = some ⟨kb, off, none⟩ ∧ ∀ W, Grown w W → W.cell? ⟨kb, off + k * 2, none⟩ = some (.int .i64 (z2 k 0)) ∧ W.cell? ⟨kb, off + k * 2 + 1, none⟩ = some (.int .i64 (z2 k 1)) := fun k hlt => by
      rcases hk1 with h | ⟨kb, off, h1, h2, h3⟩
      · omega
      · exact ⟨kb, off, h1, fun W g => ⟨keys_cell (h3 k hlt 0 (by decide)) h2 g, keys_cell (h3 k hlt 1 (by decide)) h2 g⟩⟩
    have hmx : Try.prog.follows .mixedOrders = true := by kernel_rfl
    clear hk1 hl
    have pl : ∀ X Y w1 q st p c t, Is Y kk 256 a1 → Apt w w1 [obSp X [(q, 0)], obSp Y st, obV p c q] → Calls Try.prog 17 #[.pointer (some ⟨Y.S, 0, none⟩), .int .i64 t] w1 fun e w' => e = .returned (.int .i64 (ofT a1 kk t : Int)) ∧ Apt w w' [obSp X [(q, 0)], obSp Y st, obV p c q] := fun X Y w1 q st p c t hY h => place_x h (i := 1) rfl hY t
    have pl2 : ∀ X Y w1 q q2 st p c t, Is Y kk 256 a1 → Apt w w1 [obSp X [(q2, 0)], obSp Y st, obV p c q] → Calls Try.prog 17 #[.pointer (some ⟨Y.S, 0, none⟩), .int .i64 t] w1 fun e w' => e = .returned (.int .i64 (ofT a1 kk t : Int)) ∧ Apt w w' [obSp X [(q2, 0)], obSp Y st, obV p c q] := fun X Y w1 q q2 st p c t hY h => place_x h (i := 1) rfl hY t
    have ox : ∀ X Y w1 q st p c t n, Is X 1 256 a1 → q.length < 256 → Apt w w1 [obSp X [(q, 0)], obSp Y st, obV p c q] → Calls Try.prog 15 #[.pointer (some ⟨X.S, 0, none⟩), .int .i64 t, .int .i64 n] w1 fun e w' => e = .returned (.bool true) ∧ Apt w w' [obSp X [(q ++ [n], 0)], obSp Y st, obV p c q] := fun X Y w1 q st p c t n hX hq h => by
      have := offer_1 h (i := 0) rfl t n (by decide)
      rw [hX.2.1, offQ, offL, if_pos hq, if_pos hq, decide_eq_true hq] at this
      exact this
    have oy : ∀ X Y w1 q q2 st k p c t n, Is Y kk 256 a1 → Flt st k → k < 256 → Apt w w1 [obSp X [(q2, 0)], obSp Y st, obV p c q] → Calls Try.prog 15 #[.pointer (some ⟨Y.S, 0, none⟩), .int .i64 t, .int .i64 n] w1 fun e w' => ∃ st', e = .returned (.bool true) ∧ Flt st' (k + 1) ∧ Apt w w' [obSp X [(q2, 0)], obSp Y st', obV p c q] := fun X Y w1 q q2 st k p c t n hY hs hk h => one_offer h (i := 1) rfl hY hs hk t n
    have ly : ∀ X Y w1 q q2 st p c, Is Y kk 256 a1 → Apt w w1 [obSp X [(q2, 0)], obSp Y st, obV p c q] → Calls Try.prog 23 #[.pointer (some ⟨Y.S, 0, none⟩)] w1 fun e w' => ∃ p2 c2, e = .returned (.slice p2 kk c2) ∧ Apt w w' [obSp X [(q2, 0)], obSp Y st, obV p c q] := fun X Y w1 q q2 st p c hY h => by
      refine (lens_x h (i := 1) rfl hY).mono ?_
      rintro e w' ⟨p2, c2, rfl, _, h2⟩
      exact ⟨p2, c2, rfl, h2.front (l := [obSp X [(q2, 0)], obSp Y st, obV p c q])⟩
    have dx : ∀ X Y w1 q st p c, Apt w w1 [obSp X [(q, 0)], obSp Y st, obV p c q] → Calls Try.prog 13 #[.pointer (some ⟨X.S, 0, none⟩)] w1 fun e w' => ∃ p2 c2, e = .returned (.slice p2 q.length c2) ∧ Apt w w' [obSp X [([], 0)], obSp Y st, obV p c q, obV p2 c2 q] := fun X Y w1 q st p c h => drain_1 h (i := 0) rfl
    have ix : ∀ X Y w1 q st p c p2 c2, q.length ≤ 1000000 → Apt w w1 [obSp X [([], 0)], obSp Y st, obV p c q, obV p2 c2 q] → Calls Try.prog 12 #[.slice p2 q.length c2, .slice p q.length c] w1 fun e w' => e = .returned (.bool true) ∧ Apt w w' [obSp X [([], 0)], obSp Y st, obV p c q, obV p2 c2 q] := fun X Y w1 q st p c p2 c2 hq h => ints_s h (i := 3) (j := 2) rfl rfl hq
    have dy : ∀ X Y w1 q st k p c p2 c2, Flt st k → Apt w w1 [obSp X [([], 0)], obSp Y st, obV p c q, obV p2 c2 q] → Calls Try.prog 13 #[.pointer (some ⟨Y.S, 0, none⟩)] w1 fun e w' => ∃ p3 c3, e = .returned (.slice p3 k c3) ∧ Apt w w' [obSp X [([], 0)], obSp Y (emptyN st), obV p c q, obV p2 c2 q] := fun X Y w1 q st k p c p2 c2 hs h => by
      refine (one_drain h (i := 1) rfl hs).mono ?_
      rintro e w' ⟨p3, c3, rfl, h2⟩
      exact ⟨p3, c3, rfl, h2.front (l := [obSp X [([], 0)], obSp Y (emptyN st), obV p c q, obV p2 c2 q])⟩
    have lx : ∀ X w1 l, Apt w w1 (obSp X [([], 0)] :: l) → Calls Try.prog 21 #[.pointer (some ⟨X.S, 0, none⟩)] w1 fun e w' => e = .returned (.int .i64 0) ∧ w' = w1 := fun X w1 l h => lost_p h (i := 0) rfl (by decide)
    go_enter Try.func5, Try.ntmps5
    go_wp2_with (first | (go_at_call 7; refine (small_s _).mono ?_; rintro e ws ⟨rfl, hgs⟩) | (go_at_call 8; refine (nx _ hgs).mono ?_; rintro e wx ⟨X, rfl, hX, hx⟩; clear nx hgs; have hX : Hid (Is X 1 256 a1) := hX; have hx : Hid (Apt w wx [obSp X (freshN 1)]) := hx) | (go_at_call 8; refine (ny _ _ hx.out).mono ?_; rintro e wy ⟨Y, rfl, hY, hy⟩; clear ny hx; have hY : Hid (Is Y kk 256 a1) := hY; have hy : Hid (Apt w wy [obSp X (freshN 1), obSp Y (freshN kk)]) := hy))
    go_loopw [10, 11, 12] (fun al iv _ wr => ∃ (k m c : Nat) (p : Option Addr) (q : List Int) (st : St), k ≤ len2 ∧ iv = .int .i64 (k : Int) ∧ al = .slice p m c ∧ m = q.length ∧ q.length = k ∧ Flt st k ∧ Apt w wr [obSp X [(q, 0)], obSp Y st, obV p c q]) (fun _ iv _ _ => len2 - (intOf iv).toNat)
    case atStart => exact ⟨0, 0, 0, none, [], freshN kk, by omega, rfl, rfl, rfl, rfl, flt_zero kk, hy.out.add (u := obV none 0 []) (Grown.refl _) (Vec.nil _ _ _ _) fun x hx => absurd hx In.no⟩
    case round =>
      clear hy
      obtain ⟨k, m, c, p, q, st, hk, rfl, rfl, hm, hq, hst, hx⟩ := hrel
      have hx : Hid (Apt w _ [obSp X [(q, 0)], obSp Y st, obV p c q]) := hx
      have HM : Hid (m = q.length ∧ q.length = k) := ⟨hm, hq⟩
      have hst : Hid (Flt st k) := hst
      have hm2 : m ≤ 200 := by omega
      clear hm hq
      by_cases hlt : k < len2
      · have hd : decide ((k : Int) < (len2 : Int)) = true := by rw [decide_eq_true_eq]; omega
        obtain ⟨kb, off, rfl, ck⟩ := hkk k hlt
        obtain ⟨z, hz⟩ : ∃ z, z = z2 k 0 := ⟨_, rfl⟩
        obtain ⟨v, hv⟩ : ∃ v, v = z2 k 1 := ⟨_, rfl⟩
        rw [← hz, ← hv] at ck
        obtain ⟨ck0, ck1⟩ := ck _ hx.out.grown
        have p1 := pl X Y _ q st p c z hY.out hx.out
        obtain ⟨y, hy⟩ : ∃ y, Hid (y = ofT a1 kk z) := ⟨_, rfl⟩
        have hyk : y < kk := by rw [hy.out]; exact (ofT_lt a1 z k1).1
        rw [← hy.out] at p1
        clear hkk hz hv dx ix dy lx
        go_wp2_with (go_at_call 17; refine p1.mono ?_; rintro e w2 ⟨rfl, h2⟩; clear p1 hx; have hx : Hid (Apt w w2 [obSp X [(q, 0)], obSp Y st, obV p c q]) := h2; clear h2 ck0 ck1; obtain ⟨ck0, ck1⟩ := ck _ hx.out.grown)
        have o1 := ox X Y _ q st p c z v hX.out (by have := HM.out; omega) hx.out.drew
        clear ck0 ck1
        obtain ⟨ck0, ck1⟩ := ck _ hx.out.grown
        have hyk0 : (0 : Int) ≤ (y : Int) := Int.natCast_nonneg y
        have hyk1 : decide ((kk : Int) ≤ (y : Int)) = false := by rw [decide_eq_false_iff_not]; omega
        have hyk2 : decide ((y : Int) < 0) = false := by rw [decide_eq_false_iff_not]; omega
        clear pl ox
        refine region_flowG [(11, [12, 13, 14, 15, 16, 17, 18, 19, 20, 21, 22, 23, 24]), (25, [26, 27, 28, 29, 30, 31, 32, 33, 34, 36]), (35, [37, 38, 39, 40, 41, 42, 43, 44, 45]), (46, [47, 48]), (49, [])] 49 [(52, .pointer (some ⟨X.S, 0, none⟩)), (53, .slice (some ⟨kb, off, none⟩) len2 cap2), (54, .int .i64 (k : Int)), (55, .pointer (some ⟨kb, off + k * 2, none⟩)), (56, .pointer (some ⟨kb, off + k * 2, none⟩)), (57, .int .i64 z), (58, .slice (some ⟨kb, off, none⟩) len2 cap2), (59, .int .i64 (k : Int)), (60, .pointer (some ⟨kb, off + k * 2, none⟩)), (61, .pointer (some ⟨kb, off + k * 2 + 1, none⟩)), (62, .int .i64 v)] hmx (by kernel_rfl) (by decide) (by kernel_rfl) ?_
        simp only [fills, Act.put, List.setIfInBounds_toArray, List.set_cons_zero, List.set_cons_succ]
        refine flowG_only (11, [12, 13, 14, 15, 16, 17, 18, 19, 20, 21, 22, 23, 24]) [(25, [26, 27, 28, 29, 30, 31, 32, 33, 34, 36]), (35, [37, 38, 39, 40, 41, 42, 43, 44, 45]), (46, [47, 48]), (49, [])] (by kernel_rfl) rfl ?run (stepG_call _ (some 63) 15 #[.pointer (some ⟨X.S, 0, none⟩), .int .i64 z, .int .i64 v] rfl rfl (wanted_none rfl) (by go_simp) ((o1).mono ?_))
        case run =>
          clear o1 oy pl2 ly
          refine runsG_hide [(2, .slice (some ⟨kb, off, none⟩) len2 cap2), (8, .pointer (some ⟨X.S, 0, none⟩)), (9, .pointer (some ⟨Y.S, 0, none⟩)), (11, .int .i64 (k : Int)), (12, .int .i64 (y : Int)), (52, .pointer (some ⟨X.S, 0, none⟩)), (53, .slice (some ⟨kb, off, none⟩) len2 cap2), (54, .int .i64 (k : Int)), (55, .pointer (some ⟨kb, off + k * 2, none⟩)), (56, .pointer (some ⟨kb, off + k * 2, none⟩)), (57, .int .i64 z), (58, .slice (some ⟨kb, off, none⟩) len2 cap2), (59, .int .i64 (k : Int)), (60, .pointer (some ⟨kb, off + k * 2, none⟩)), (61, .pointer (some ⟨kb, off + k * 2 + 1, none⟩)), (62, .int .i64 v)] ⟨rfl, rfl, rfl, rfl, rfl, rfl, rfl, rfl, rfl, rfl, rfl, rfl, rfl, rfl, rfl, rfl, trivial⟩ ?_
          rintro A ⟨e2, e8, e9, e11, e12, e52, e53, e54, e55, e56, e57, e58, e59, e60, e61, e62, _⟩
          intro i o ho h1 h2
          rcases i with _ | i
          · cases ho; exact Or.inl ⟨wanted_none rfl, by go_simp⟩
          rcases i with _ | i
          · cases ho; exact Or.inl ⟨wanted_none rfl, by go_simp⟩
          rcases i with _ | i
          · cases ho; exact Or.inl ⟨wanted_none rfl, by go_simp⟩
          rcases i with _ | i
          · cases ho; exact Or.inl ⟨wanted_none rfl, by go_simp⟩
          rcases i with _ | i
          · cases ho; exact Or.inl ⟨wanted_none rfl, by go_simp⟩
          rcases i with _ | i
          · cases ho; exact Or.inl ⟨wanted_none rfl, by go_simp⟩
          rcases i with _ | i
          · cases ho; exact Or.inl ⟨wanted_none rfl, by go_simp⟩
          rcases i with _ | i
          · cases ho; exact Or.inl ⟨wanted_none rfl, by go_simp⟩
          rcases i with _ | i
          · cases ho; exact Or.inl ⟨wanted_none rfl, by go_simp⟩
          rcases i with _ | i
          · cases ho; exact Or.inl ⟨wanted_none rfl, by go_simp⟩
          rcases i with _ | i
          · cases ho; exact Or.inl ⟨wanted_none rfl, by go_simp⟩
          rcases i with _ | i
          · exact absurd h1 (by decide)
          rcases i with _ | i
          · exact absurd h2 (by decide)
          rcases i with _ | i
          · exact absurd h2 (by decide)
          rcases i with _ | i
          · exact absurd h2 (by decide)
          rcases i with _ | i
          · exact absurd h2 (by decide)
          rcases i with _ | i
          · exact absurd h2 (by decide)
          rcases i with _ | i
          · exact absurd h2 (by decide)
          rcases i with _ | i
          · exact absurd h2 (by decide)
          rcases i with _ | i
          · exact absurd h2 (by decide)
          rcases i with _ | i
          · exact absurd h2 (by decide)
          rcases i with _ | i
          · exact absurd h2 (by decide)
          rcases i with _ | i
          · exact absurd h2 (by decide)
          rcases i with _ | i
          · exact absurd h2 (by decide)
          rcases i with _ | i
          · exact absurd h2 (by decide)
          rcases i with _ | i
          · exact absurd h1 (by decide)
          rcases i with _ | i
          · exact absurd h2 (by decide)
          rcases i with _ | i
          · exact absurd h2 (by decide)
          rcases i with _ | i
          · exact absurd h2 (by decide)
          rcases i with _ | i
          · exact absurd h2 (by decide)
          rcases i with _ | i
          · exact absurd h2 (by decide)
          rcases i with _ | i
          · exact absurd h2 (by decide)
          rcases i with _ | i
          · exact absurd h2 (by decide)
          rcases i with _ | i
          · exact absurd h2 (by decide)
          rcases i with _ | i
          · exact absurd h2 (by decide)
          rcases i with _ | i
          · exact absurd h1 (by decide)
          rcases i with _ | i
          · exact absurd h2 (by decide)
          rcases i with _ | i
          · exact absurd h2 (by decide)
          rcases i with _ | i
          · exact absurd h2 (by decide)
          rcases i with _ | i
          · exact absurd h2 (by decide)
          rcases i with _ | i
          · exact absurd h2 (by decide)
          rcases i with _ | i
          · exact absurd h2 (by decide)
          rcases i with _ | i
          · exact absurd h2 (by decide)
          rcases i with _ | i
          · exact absurd h2 (by decide)
          rcases i with _ | i
          · exact absurd h2 (by decide)
          rcases i with _ | i
          · exact absurd h2 (by decide)
          rcases i with _ | i
          · exact absurd h1 (by decide)
          rcases i with _ | i
          · exact absurd h2 (by decide)
          rcases i with _ | i
          · exact absurd h2 (by decide)
          rcases i with _ | i
          · exact absurd h1 (by decide)
          cases ho
        rintro e w3 ⟨rfl, h3⟩
        refine ⟨_, rfl, [(64, .bool false), (65, .bool false), (66, .pointer (some ⟨Y.S, 0, none⟩)), (67, .slice (some ⟨kb, off, none⟩) len2 cap2), (68, .int .i64 (k : Int)), (69, .pointer (some ⟨kb, off + k * 2, none⟩)), (70, .pointer (some ⟨kb, off + k * 2, none⟩)), (71, .int .i64 z), (72, .slice (some ⟨kb, off, none⟩) len2 cap2), (73, .int .i64 (k : Int)), (74, .pointer (some ⟨kb, off + k * 2, none⟩)), (75, .pointer (some ⟨kb, off + k * 2 + 1, none⟩)), (76, .int .i64 v)], by kernel_rfl, ?_⟩
        simp only [fills, Act.put, List.setIfInBounds_toArray, List.set_cons_zero, List.set_cons_succ]
        have o2 := oy X Y w3 q (q ++ [v]) st k p c z v hY.out hst.out (by omega) h3
        clear ck0 ck1 o1 oy
        obtain ⟨ck0, ck1⟩ := ck _ h3.grown
        clear h3
        refine flowG_only (25, [26, 27, 28, 29, 30, 31, 32, 33, 34, 36]) [(35, [37, 38, 39, 40, 41, 42, 43, 44, 45]), (46, [47, 48]), (49, [])] (by kernel_rfl) rfl ?run (stepG_call _ (some 77) 15 #[.pointer (some ⟨Y.S, 0, none⟩), .int .i64 z, .int .i64 v] rfl rfl (wanted_ev rfl rfl rfl rfl) (by go_simp) ((o2).mono ?_))
        case run =>
          clear o2 pl2 ly
          refine runsG_hide [(2, .slice (some ⟨kb, off, none⟩) len2 cap2), (8, .pointer (some ⟨X.S, 0, none⟩)), (9, .pointer (some ⟨Y.S, 0, none⟩)), (11, .int .i64 (k : Int)), (12, .int .i64 (y : Int)), (52, .pointer (some ⟨X.S, 0, none⟩)), (53, .slice (some ⟨kb, off, none⟩) len2 cap2), (54, .int .i64 (k : Int)), (55, .pointer (some ⟨kb, off + k * 2, none⟩)), (56, .pointer (some ⟨kb, off + k * 2, none⟩)), (57, .int .i64 z), (58, .slice (some ⟨kb, off, none⟩) len2 cap2), (59, .int .i64 (k : Int)), (60, .pointer (some ⟨kb, off + k * 2, none⟩)), (61, .pointer (some ⟨kb, off + k * 2 + 1, none⟩)), (62, .int .i64 v), (63, .bool true), (64, .bool false), (65, .bool false), (66, .pointer (some ⟨Y.S, 0, none⟩)), (67, .slice (some ⟨kb, off, none⟩) len2 cap2), (68, .int .i64 (k : Int)), (69, .pointer (some ⟨kb, off + k * 2, none⟩)), (70, .pointer (some ⟨kb, off + k * 2, none⟩)), (71, .int .i64 z), (72, .slice (some ⟨kb, off, none⟩) len2 cap2), (73, .int .i64 (k : Int)), (74, .pointer (some ⟨kb, off + k * 2, none⟩)), (75, .pointer (some ⟨kb, off + k * 2 + 1, none⟩)), (76, .int .i64 v)] ⟨rfl, rfl, rfl, rfl, rfl, rfl, rfl, rfl, rfl, rfl, rfl, rfl, rfl, rfl, rfl, rfl, rfl, rfl, rfl, rfl, rfl, rfl, rfl, rfl, rfl, rfl, rfl, rfl, rfl, rfl, trivial⟩ ?_
          rintro A ⟨e2, e8, e9, e11, e12, e52, e53, e54, e55, e56, e57, e58, e59, e60, e61, e62, e63, e64, e65, e66, e67, e68, e69, e70, e71, e72, e73, e74, e75, e76, _⟩
          intro i o ho h1 h2
          rcases i with _ | i
          · cases ho; exact Or.inl ⟨wanted_none rfl, by go_simp⟩
          rcases i with _ | i
          · cases ho; exact Or.inl ⟨wanted_none rfl, by go_simp⟩
          rcases i with _ | i
          · cases ho; exact Or.inl ⟨wanted_none rfl, by go_simp⟩
          rcases i with _ | i
          · cases ho; exact Or.inl ⟨wanted_none rfl, by go_simp⟩
          rcases i with _ | i
          · cases ho; exact Or.inl ⟨wanted_none rfl, by go_simp⟩
          rcases i with _ | i
          · cases ho; exact Or.inl ⟨wanted_none rfl, by go_simp⟩
          rcases i with _ | i
          · cases ho; exact Or.inl ⟨wanted_none rfl, by go_simp⟩
          rcases i with _ | i
          · cases ho; exact Or.inl ⟨wanted_none rfl, by go_simp⟩
          rcases i with _ | i
          · cases ho; exact Or.inl ⟨wanted_none rfl, by go_simp⟩
          rcases i with _ | i
          · cases ho; exact Or.inl ⟨wanted_none rfl, by go_simp⟩
          rcases i with _ | i
          · cases ho; exact Or.inl ⟨wanted_none rfl, by go_simp⟩
          rcases i with _ | i
          · exact absurd h1 (by decide)
          rcases i with _ | i
          · cases ho; exact Or.inl ⟨wanted_none rfl, by go_simp⟩
          rcases i with _ | i
          · cases ho; exact Or.inl ⟨wanted_none rfl, by go_simp⟩
          rcases i with _ | i
          · cases ho; exact Or.inl ⟨wanted_ev rfl rfl rfl (by assumption), by go_simp⟩
          rcases i with _ | i
          · cases ho; exact Or.inl ⟨wanted_ev rfl rfl rfl (by assumption), by go_simp⟩
          rcases i with _ | i
          · cases ho; exact Or.inl ⟨wanted_ev rfl rfl rfl (by assumption), by go_simp⟩
          rcases i with _ | i
          · cases ho; exact Or.inl ⟨wanted_ev rfl rfl rfl (by assumption), by go_simp⟩
          rcases i with _ | i
          · cases ho; exact Or.inl ⟨wanted_ev rfl rfl rfl (by assumption), by go_simp⟩
          rcases i with _ | i
          · cases ho; exact Or.inl ⟨wanted_ev rfl rfl rfl (by assumption), by go_simp⟩
          rcases i with _ | i
          · cases ho; exact Or.inl ⟨wanted_ev rfl rfl rfl (by assumption), by go_simp⟩
          rcases i with _ | i
          · cases ho; exact Or.inl ⟨wanted_ev rfl rfl rfl (by assumption), by go_simp⟩
          rcases i with _ | i
          · cases ho; exact Or.inl ⟨wanted_ev rfl rfl rfl (by assumption), by go_simp⟩
          rcases i with _ | i
          · cases ho; exact Or.inl ⟨wanted_ev rfl rfl rfl (by assumption), by go_simp⟩
          rcases i with _ | i
          · cases ho; exact Or.inl ⟨wanted_ev rfl rfl rfl (by assumption), by go_simp⟩
          rcases i with _ | i
          · exact absurd h1 (by decide)
          rcases i with _ | i
          · exact absurd h2 (by decide)
          rcases i with _ | i
          · exact absurd h2 (by decide)
          rcases i with _ | i
          · exact absurd h2 (by decide)
          rcases i with _ | i
          · exact absurd h2 (by decide)
          rcases i with _ | i
          · exact absurd h2 (by decide)
          rcases i with _ | i
          · exact absurd h2 (by decide)
          rcases i with _ | i
          · exact absurd h2 (by decide)
          rcases i with _ | i
          · exact absurd h2 (by decide)
          rcases i with _ | i
          · exact absurd h2 (by decide)
          rcases i with _ | i
          · exact absurd h1 (by decide)
          rcases i with _ | i
          · exact absurd h2 (by decide)
          rcases i with _ | i
          · exact absurd h2 (by decide)
          rcases i with _ | i
          · exact absurd h2 (by decide)
          rcases i with _ | i
          · exact absurd h2 (by decide)
          rcases i with _ | i
          · exact absurd h2 (by decide)
          rcases i with _ | i
          · exact absurd h2 (by decide)
          rcases i with _ | i
          · exact absurd h2 (by decide)
          rcases i with _ | i
          · exact absurd h2 (by decide)
          rcases i with _ | i
          · exact absurd h2 (by decide)
          rcases i with _ | i
          · exact absurd h2 (by decide)
          rcases i with _ | i
          · exact absurd h1 (by decide)
          rcases i with _ | i
          · exact absurd h2 (by decide)
          rcases i with _ | i
          · exact absurd h2 (by decide)
          rcases i with _ | i
          · exact absurd h1 (by decide)
          cases ho
        rintro e w4 ⟨st2, rfl, hst2, h4⟩
        have hst2 : Hid (Flt st2 (k + 1)) := hst2
        refine ⟨_, rfl, [(78, .bool false), (79, .bool false), (80, .bool false), (81, .pointer (some ⟨Y.S, 0, none⟩)), (82, .slice (some ⟨kb, off, none⟩) len2 cap2), (83, .int .i64 (k : Int)), (84, .pointer (some ⟨kb, off + k * 2, none⟩)), (85, .pointer (some ⟨kb, off + k * 2, none⟩)), (86, .int .i64 z), (88, .int .i64 (y : Int))], by kernel_rfl, ?_⟩
        simp only [fills, Act.put, List.setIfInBounds_toArray, List.set_cons_zero, List.set_cons_succ]
        have o3 := pl2 X Y w4 q (q ++ [v]) st2 p c z hY.out h4
        rw [← hy.out] at o3
        clear ck0 ck1 o2 pl2
        obtain ⟨ck0, ck1⟩ := ck _ h4.grown
        clear h4
        refine flowG_only (35, [37, 38, 39, 40, 41, 42, 43, 44, 45]) [(46, [47, 48]), (49, [])] (by kernel_rfl) rfl ?run (stepG_call _ (some 87) 17 #[.pointer (some ⟨Y.S, 0, none⟩), .int .i64 z] rfl rfl (wanted_ev rfl rfl rfl rfl) (by go_simp) ((o3).mono ?_))
        case run =>
          clear o3 ly
          refine runsG_hide [(2, .slice (some ⟨kb, off, none⟩) len2 cap2), (8, .pointer (some ⟨X.S, 0, none⟩)), (9, .pointer (some ⟨Y.S, 0, none⟩)), (11, .int .i64 (k : Int)), (12, .int .i64 (y : Int)), (52, .pointer (some ⟨X.S, 0, none⟩)), (53, .slice (some ⟨kb, off, none⟩) len2 cap2), (54, .int .i64 (k : Int)), (55, .pointer (some ⟨kb, off + k * 2, none⟩)), (56, .pointer (some ⟨kb, off + k * 2, none⟩)), (57, .int .i64 z), (58, .slice (some ⟨kb, off, none⟩) len2 cap2), (59, .int .i64 (k : Int)), (60, .pointer (some ⟨kb, off + k * 2, none⟩)), (61, .pointer (some ⟨kb, off + k * 2 + 1, none⟩)), (62, .int .i64 v), (63, .bool true), (64, .bool false), (65, .bool false), (66, .pointer (some ⟨Y.S, 0, none⟩)), (67, .slice (some ⟨kb, off, none⟩) len2 cap2), (68, .int .i64 (k : Int)), (69, .pointer (some ⟨kb, off + k * 2, none⟩)), (70, .pointer (some ⟨kb, off + k * 2, none⟩)), (71, .int .i64 z), (72, .slice (some ⟨kb, off, none⟩) len2 cap2), (73, .int .i64 (k : Int)), (74, .pointer (some ⟨kb, off + k * 2, none⟩)), (75, .pointer (some ⟨kb, off + k * 2 + 1, none⟩)), (76, .int .i64 v), (77, .bool true), (78, .bool false), (79, .bool false), (80, .bool false), (81, .pointer (some ⟨Y.S, 0, none⟩)), (82, .slice (some ⟨kb, off, none⟩) len2 cap2), (83, .int .i64 (k : Int)), (84, .pointer (some ⟨kb, off + k * 2, none⟩)), (85, .pointer (some ⟨kb, off + k * 2, none⟩)), (86, .int .i64 z), (88, .int .i64 (y : Int))] ⟨rfl, rfl, rfl, rfl, rfl, rfl, rfl, rfl, rfl, rfl, rfl, rfl, rfl, rfl, rfl, rfl, rfl, rfl, rfl, rfl, rfl, rfl, rfl, rfl, rfl, rfl, rfl, rfl, rfl, rfl, rfl, rfl, rfl, rfl, rfl, rfl, rfl, rfl, rfl, rfl, rfl, trivial⟩ ?_
          rintro A ⟨e2, e8, e9, e11, e12, e52, e53, e54, e55, e56, e57, e58, e59, e60, e61, e62, e63, e64, e65, e66, e67, e68, e69, e70, e71, e72, e73, e74, e75, e76, e77, e78, e79, e80, e81, e82, e83, e84, e85, e86, e88, _⟩
          intro i o ho h1 h2
          rcases i with _ | i
          · cases ho; exact Or.inl ⟨wanted_none rfl, by go_simp⟩
          rcases i with _ | i
          · cases ho; exact Or.inl ⟨wanted_none rfl, by go_simp⟩
          rcases i with _ | i
          · cases ho; exact Or.inl ⟨wanted_none rfl, by go_simp⟩
          rcases i with _ | i
          · cases ho; exact Or.inl ⟨wanted_none rfl, by go_simp⟩
          rcases i with _ | i
          · cases ho; exact Or.inl ⟨wanted_none rfl, by go_simp⟩
          rcases i with _ | i
          · cases ho; exact Or.inl ⟨wanted_none rfl, by go_simp⟩
          rcases i with _ | i
          · cases ho; exact Or.inl ⟨wanted_none rfl, by go_simp⟩
          rcases i with _ | i
          · cases ho; exact Or.inl ⟨wanted_none rfl, by go_simp⟩
          rcases i with _ | i
          · cases ho; exact Or.inl ⟨wanted_none rfl, by go_simp⟩
          rcases i with _ | i
          · cases ho; exact Or.inl ⟨wanted_none rfl, by go_simp⟩
          rcases i with _ | i
          · cases ho; exact Or.inl ⟨wanted_none rfl, by go_simp⟩
          rcases i with _ | i
          · exact absurd h1 (by decide)
          rcases i with _ | i
          · cases ho; exact Or.inl ⟨wanted_none rfl, by go_simp⟩
          rcases i with _ | i
          · cases ho; exact Or.inl ⟨wanted_none rfl, by go_simp⟩
          rcases i with _ | i
          · cases ho; exact Or.inl ⟨wanted_ev rfl rfl rfl (by assumption), by go_simp⟩
          rcases i with _ | i
          · cases ho; exact Or.inl ⟨wanted_ev rfl rfl rfl (by assumption), by go_simp⟩
          rcases i with _ | i
          · cases ho; exact Or.inl ⟨wanted_ev rfl rfl rfl (by assumption), by go_simp⟩
          rcases i with _ | i
          · cases ho; exact Or.inl ⟨wanted_ev rfl rfl rfl (by assumption), by go_simp⟩
          rcases i with _ | i
          · cases ho; exact Or.inl ⟨wanted_ev rfl rfl rfl (by assumption), by go_simp⟩
          rcases i with _ | i
          · cases ho; exact Or.inl ⟨wanted_ev rfl rfl rfl (by assumption), by go_simp⟩
          rcases i with _ | i
          · cases ho; exact Or.inl ⟨wanted_ev rfl rfl rfl (by assumption), by go_simp⟩
          rcases i with _ | i
          · cases ho; exact Or.inl ⟨wanted_ev rfl rfl rfl (by assumption), by go_simp⟩
          rcases i with _ | i
          · cases ho; exact Or.inl ⟨wanted_ev rfl rfl rfl (by assumption), by go_simp⟩
          rcases i with _ | i
          · cases ho; exact Or.inl ⟨wanted_ev rfl rfl rfl (by assumption), by go_simp⟩
          rcases i with _ | i
          · cases ho; exact Or.inl ⟨wanted_ev rfl rfl rfl (by assumption), by go_simp⟩
          rcases i with _ | i
          · exact absurd h1 (by decide)
          rcases i with _ | i
          · cases ho; exact Or.inl ⟨wanted_ev rfl rfl rfl (by assumption), by go_simp⟩
          rcases i with _ | i
          · cases ho; exact Or.inl ⟨wanted_none rfl, by go_simp⟩
          rcases i with _ | i
          · cases ho; exact Or.inl ⟨wanted_none rfl, by go_simp⟩
          rcases i with _ | i
          · cases ho; exact Or.inl ⟨wanted_ev rfl rfl rfl (by assumption), by go_simp⟩
          rcases i with _ | i
          · cases ho; exact Or.inl ⟨wanted_ev rfl rfl rfl (by assumption), by go_simp⟩
          rcases i with _ | i
          · cases ho; exact Or.inl ⟨wanted_ev rfl rfl rfl (by assumption), by go_simp⟩
          rcases i with _ | i
          · cases ho; exact Or.inl ⟨wanted_ev rfl rfl rfl (by assumption), by go_simp⟩
          rcases i with _ | i
          · cases ho; exact Or.inl ⟨wanted_ev rfl rfl rfl (by assumption), by go_simp⟩
          rcases i with _ | i
          · cases ho; exact Or.inl ⟨wanted_ev rfl rfl rfl (by assumption), by go_simp⟩
          rcases i with _ | i
          · exact absurd h1 (by decide)
          rcases i with _ | i
          · cases ho; exact Or.inl ⟨wanted_ev rfl rfl rfl (by assumption), by go_simp⟩
          rcases i with _ | i
          · exact absurd h2 (by decide)
          rcases i with _ | i
          · exact absurd h2 (by decide)
          rcases i with _ | i
          · exact absurd h2 (by decide)
          rcases i with _ | i
          · exact absurd h2 (by decide)
          rcases i with _ | i
          · exact absurd h2 (by decide)
          rcases i with _ | i
          · exact absurd h2 (by decide)
          rcases i with _ | i
          · exact absurd h2 (by decide)
          rcases i with _ | i
          · exact absurd h2 (by decide)
          rcases i with _ | i
          · exact absurd h2 (by decide)
          rcases i with _ | i
          · exact absurd h1 (by decide)
          rcases i with _ | i
          · exact absurd h2 (by decide)
          rcases i with _ | i
          · exact absurd h2 (by decide)
          rcases i with _ | i
          · exact absurd h1 (by decide)
          cases ho
        rintro e w5 ⟨rfl, h5⟩
        refine ⟨_, rfl, [(89, .bool false), (90, .bool false), (91, .bool false), (92, .int .i64 (y : Int)), (93, .bool false), (94, .bool false), (95, .bool false), (96, .int .i64 (y : Int)), (97, .pointer (some ⟨Y.S, 0, none⟩))], by kernel_rfl, ?_⟩
        simp only [fills, Act.put, List.setIfInBounds_toArray, List.set_cons_zero, List.set_cons_succ]
        have o4 := ly X Y w5 q (q ++ [v]) st2 p c hY.out h5
        clear ck0 ck1 o3 ly
        obtain ⟨ck0, ck1⟩ := ck _ h5.grown
        clear h5
        refine flowG_only (46, [47, 48]) [(49, [])] (by kernel_rfl) rfl ?run (stepG_call _ (some 98) 23 #[.pointer (some ⟨Y.S, 0, none⟩)] rfl rfl (wanted_ev rfl rfl rfl rfl) (by go_simp) ((o4).mono ?_))
        case run =>
          clear o4
          refine runsG_hide [(2, .slice (some ⟨kb, off, none⟩) len2 cap2), (8, .pointer (some ⟨X.S, 0, none⟩)), (9, .pointer (some ⟨Y.S, 0, none⟩)), (11, .int .i64 (k : Int)), (12, .int .i64 (y : Int)), (52, .pointer (some ⟨X.S, 0, none⟩)), (53, .slice (some ⟨kb, off, none⟩) len2 cap2), (54, .int .i64 (k : Int)), (55, .pointer (some ⟨kb, off + k * 2, none⟩)), (56, .pointer (some ⟨kb, off + k * 2, none⟩)), (57, .int .i64 z), (58, .slice (some ⟨kb, off, none⟩) len2 cap2), (59, .int .i64 (k : Int)), (60, .pointer (some ⟨kb, off + k * 2, none⟩)), (61, .pointer (some ⟨kb, off + k * 2 + 1, none⟩)), (62, .int .i64 v), (63, .bool true), (64, .bool false), (65, .bool false), (66, .pointer (some ⟨Y.S, 0, none⟩)), (67, .slice (some ⟨kb, off, none⟩) len2 cap2), (68, .int .i64 (k : Int)), (69, .pointer (some ⟨kb, off + k * 2, none⟩)), (70, .pointer (some ⟨kb, off + k * 2, none⟩)), (71, .int .i64 z), (72, .slice (some ⟨kb, off, none⟩) len2 cap2), (73, .int .i64 (k : Int)), (74, .pointer (some ⟨kb, off + k * 2, none⟩)), (75, .pointer (some ⟨kb, off + k * 2 + 1, none⟩)), (76, .int .i64 v), (77, .bool true), (78, .bool false), (79, .bool false), (80, .bool false), (81, .pointer (some ⟨Y.S, 0, none⟩)), (82, .slice (some ⟨kb, off, none⟩) len2 cap2), (83, .int .i64 (k : Int)), (84, .pointer (some ⟨kb, off + k * 2, none⟩)), (85, .pointer (some ⟨kb, off + k * 2, none⟩)), (86, .int .i64 z), (88, .int .i64 (y : Int)), (87, .int .i64 (y : Int)), (89, .bool false), (90, .bool false), (91, .bool false), (92, .int .i64 (y : Int)), (93, .bool false), (94, .bool false), (95, .bool false), (96, .int .i64 (y : Int)), (97, .pointer (some ⟨Y.S, 0, none⟩))] ⟨rfl, rfl, rfl, rfl, rfl, rfl, rfl, rfl, rfl, rfl, rfl, rfl, rfl, rfl, rfl, rfl, rfl, rfl, rfl, rfl, rfl, rfl, rfl, rfl, rfl, rfl, rfl, rfl, rfl, rfl, rfl, rfl, rfl, rfl, rfl, rfl, rfl, rfl, rfl, rfl, rfl, rfl, rfl, rfl, rfl, rfl, rfl, rfl, rfl, rfl, rfl, trivial⟩ ?_
          rintro A ⟨e2, e8, e9, e11, e12, e52, e53, e54, e55, e56, e57, e58, e59, e60, e61, e62, e63, e64, e65, e66, e67, e68, e69, e70, e71, e72, e73, e74, e75, e76, e77, e78, e79, e80, e81, e82, e83, e84, e85, e86, e88, e87, e89, e90, e91, e92, e93, e94, e95, e96, e97, _⟩
          intro i o ho h1 h2
          rcases i with _ | i
          · cases ho; exact Or.inl ⟨wanted_none rfl, by go_simp⟩
          rcases i with _ | i
          · cases ho; exact Or.inl ⟨wanted_none rfl, by go_simp⟩
          rcases i with _ | i
          · cases ho; exact Or.inl ⟨wanted_none rfl, by go_simp⟩
          rcases i with _ | i
          · cases ho; exact Or.inl ⟨wanted_none rfl, by go_simp⟩
          rcases i with _ | i
          · cases ho; exact Or.inl ⟨wanted_none rfl, by go_simp⟩
          rcases i with _ | i
          · cases ho; exact Or.inl ⟨wanted_none rfl, by go_simp⟩
          rcases i with _ | i
          · cases ho; exact Or.inl ⟨wanted_none rfl, by go_simp⟩
          rcases i with _ | i
          · cases ho; exact Or.inl ⟨wanted_none rfl, by go_simp⟩
          rcases i with _ | i
          · cases ho; exact Or.inl ⟨wanted_none rfl, by go_simp⟩
          rcases i with _ | i
          · cases ho; exact Or.inl ⟨wanted_none rfl, by go_simp⟩
          rcases i with _ | i
          · cases ho; exact Or.inl ⟨wanted_none rfl, by go_simp⟩
          rcases i with _ | i
          · exact absurd h1 (by decide)
          rcases i with _ | i
          · cases ho; exact Or.inl ⟨wanted_none rfl, by go_simp⟩
          rcases i with _ | i
          · cases ho; exact Or.inl ⟨wanted_none rfl, by go_simp⟩
          rcases i with _ | i
          · cases ho; exact Or.inl ⟨wanted_ev rfl rfl rfl (by assumption), by go_simp⟩
          rcases i with _ | i
          · cases ho; exact Or.inl ⟨wanted_ev rfl rfl rfl (by assumption), by go_simp⟩
          rcases i with _ | i
          · cases ho; exact Or.inl ⟨wanted_ev rfl rfl rfl (by assumption), by go_simp⟩
          rcases i with _ | i
          · cases ho; exact Or.inl ⟨wanted_ev rfl rfl rfl (by assumption), by go_simp⟩
          rcases i with _ | i
          · cases ho; exact Or.inl ⟨wanted_ev rfl rfl rfl (by assumption), by go_simp⟩
          rcases i with _ | i
          · cases ho; exact Or.inl ⟨wanted_ev rfl rfl rfl (by assumption), by go_simp⟩
          rcases i with _ | i
          · cases ho; exact Or.inl ⟨wanted_ev rfl rfl rfl (by assumption), by go_simp⟩
          rcases i with _ | i
          · cases ho; exact Or.inl ⟨wanted_ev rfl rfl rfl (by assumption), by go_simp⟩
          rcases i with _ | i
          · cases ho; exact Or.inl ⟨wanted_ev rfl rfl rfl (by assumption), by go_simp⟩
          rcases i with _ | i
          · cases ho; exact Or.inl ⟨wanted_ev rfl rfl rfl (by assumption), by go_simp⟩
          rcases i with _ | i
          · cases ho; exact Or.inl ⟨wanted_ev rfl rfl rfl (by assumption), by go_simp⟩
          rcases i with _ | i
          · exact absurd h1 (by decide)
          rcases i with _ | i
          · cases ho; exact Or.inl ⟨wanted_ev rfl rfl rfl (by assumption), by go_simp⟩
          rcases i with _ | i
          · cases ho; exact Or.inl ⟨wanted_none rfl, by go_simp⟩
          rcases i with _ | i
          · cases ho; exact Or.inl ⟨wanted_none rfl, by go_simp⟩
          rcases i with _ | i
          · cases ho; exact Or.inl ⟨wanted_ev rfl rfl rfl (by assumption), by go_simp⟩
          rcases i with _ | i
          · cases ho; exact Or.inl ⟨wanted_ev rfl rfl rfl (by assumption), by go_simp⟩
          rcases i with _ | i
          · cases ho; exact Or.inl ⟨wanted_ev rfl rfl rfl (by assumption), by go_simp⟩
          rcases i with _ | i
          · cases ho; exact Or.inl ⟨wanted_ev rfl rfl rfl (by assumption), by go_simp⟩
          rcases i with _ | i
          · cases ho; exact Or.inl ⟨wanted_ev rfl rfl rfl (by assumption), by go_simp⟩
          rcases i with _ | i
          · cases ho; exact Or.inl ⟨wanted_ev rfl rfl rfl (by assumption), by go_simp⟩
          rcases i with _ | i
          · exact absurd h1 (by decide)
          rcases i with _ | i
          · cases ho; exact Or.inl ⟨wanted_ev rfl rfl rfl (by assumption), by go_simp⟩
          rcases i with _ | i
          · cases ho; exact Or.inl ⟨wanted_ev rfl rfl rfl (by assumption), by go_simp⟩
          rcases i with _ | i
          · cases ho; exact Or.inl ⟨wanted_none rfl, by go_simp⟩
          rcases i with _ | i
          · cases ho; exact Or.inl ⟨wanted_none rfl, by go_simp⟩
          rcases i with _ | i
          · cases ho; exact Or.inl ⟨wanted_ev rfl rfl rfl (by assumption), by go_simp⟩
          rcases i with _ | i
          · cases ho; exact Or.inl ⟨wanted_ev rfl rfl rfl (by assumption), by go_simp⟩
          rcases i with _ | i
          · cases ho; exact Or.inl ⟨wanted_none rfl, by go_simp⟩
          rcases i with _ | i
          · cases ho; exact Or.inl ⟨wanted_none rfl, by go_simp⟩
          rcases i with _ | i
          · cases ho; exact Or.inl ⟨wanted_ev rfl rfl rfl (by assumption), by go_simp⟩
          rcases i with _ | i
          · cases ho; exact Or.inl ⟨wanted_ev rfl rfl rfl (by assumption), by go_simp⟩
          rcases i with _ | i
          · exact absurd h1 (by decide)
          rcases i with _ | i
          · exact absurd h2 (by decide)
          rcases i with _ | i
          · exact absurd h2 (by decide)
          rcases i with _ | i
          · exact absurd h1 (by decide)
          cases ho
        rintro e w6 ⟨p2, c2, rfl, h6⟩
        refine ⟨_, rfl, [(99, .int .i64 (kk : Int)), (100, .bool false)], by kernel_rfl, ?_⟩
        simp only [fills, Act.put, List.setIfInBounds_toArray, List.set_cons_zero, List.set_cons_succ]
        clear ck0 ck1 o4
        obtain ⟨ck0, ck1⟩ := ck _ h6.grown
        have h6 : Hid (Apt w w6 [obSp X [(q ++ [v], 0)], obSp Y st2, obV p c q]) := h6
        refine flowG_only (49, []) [] (by kernel_rfl) rfl ?run (stepG_val _ (some 101) (.bool false) w6 [] rfl rfl (wanted_none rfl) (by go_simp) rfl ?_)
        case run =>
          clear h6 hst2 hx
          refine runsG_hide [(2, .slice (some ⟨kb, off, none⟩) len2 cap2), (8, .pointer (some ⟨X.S, 0, none⟩)), (9, .pointer (some ⟨Y.S, 0, none⟩)), (11, .int .i64 (k : Int)), (12, .int .i64 (y : Int)), (52, .pointer (some ⟨X.S, 0, none⟩)), (53, .slice (some ⟨kb, off, none⟩) len2 cap2), (54, .int .i64 (k : Int)), (55, .pointer (some ⟨kb, off + k * 2, none⟩)), (56, .pointer (some ⟨kb, off + k * 2, none⟩)), (57, .int .i64 z), (58, .slice (some ⟨kb, off, none⟩) len2 cap2), (59, .int .i64 (k : Int)), (60, .pointer (some ⟨kb, off + k * 2, none⟩)), (61, .pointer (some ⟨kb, off + k * 2 + 1, none⟩)), (62, .int .i64 v), (63, .bool true), (64, .bool false), (65, .bool false), (66, .pointer (some ⟨Y.S, 0, none⟩)), (67, .slice (some ⟨kb, off, none⟩) len2 cap2), (68, .int .i64 (k : Int)), (69, .pointer (some ⟨kb, off + k * 2, none⟩)), (70, .pointer (some ⟨kb, off + k * 2, none⟩)), (71, .int .i64 z), (72, .slice (some ⟨kb, off, none⟩) len2 cap2), (73, .int .i64 (k : Int)), (74, .pointer (some ⟨kb, off + k * 2, none⟩)), (75, .pointer (some ⟨kb, off + k * 2 + 1, none⟩)), (76, .int .i64 v), (77, .bool true), (78, .bool false), (79, .bool false), (80, .bool false), (81, .pointer (some ⟨Y.S, 0, none⟩)), (82, .slice (some ⟨kb, off, none⟩) len2 cap2), (83, .int .i64 (k : Int)), (84, .pointer (some ⟨kb, off + k * 2, none⟩)), (85, .pointer (some ⟨kb, off + k * 2, none⟩)), (86, .int .i64 z), (88, .int .i64 (y : Int)), (87, .int .i64 (y : Int)), (89, .bool false), (90, .bool false), (91, .bool false), (92, .int .i64 (y : Int)), (93, .bool false), (94, .bool false), (95, .bool false), (96, .int .i64 (y : Int)), (97, .pointer (some ⟨Y.S, 0, none⟩)), (98, .slice p2 kk c2), (99, .int .i64 (kk : Int)), (100, .bool false)] ⟨rfl, rfl, rfl, rfl, rfl, rfl, rfl, rfl, rfl, rfl, rfl, rfl, rfl, rfl, rfl, rfl, rfl, rfl, rfl, rfl, rfl, rfl, rfl, rfl, rfl, rfl, rfl, rfl, rfl, rfl, rfl, rfl, rfl, rfl, rfl, rfl, rfl, rfl, rfl, rfl, rfl, rfl, rfl, rfl, rfl, rfl, rfl, rfl, rfl, rfl, rfl, rfl, rfl, rfl, trivial⟩ ?_
          rintro A ⟨e2, e8, e9, e11, e12, e52, e53, e54, e55, e56, e57, e58, e59, e60, e61, e62, e63, e64, e65, e66, e67, e68, e69, e70, e71, e72, e73, e74, e75, e76, e77, e78, e79, e80, e81, e82, e83, e84, e85, e86, e88, e87, e89, e90, e91, e92, e93, e94, e95, e96, e97, e98, e99, e100, _⟩
          intro i o ho h1 h2
          rcases i with _ | i
          · cases ho; exact Or.inl ⟨wanted_none rfl, by go_simp⟩
          rcases i with _ | i
          · cases ho; exact Or.inl ⟨wanted_none rfl, by go_simp⟩
          rcases i with _ | i
          · cases ho; exact Or.inl ⟨wanted_none rfl, by go_simp⟩
          rcases i with _ | i
          · cases ho; exact Or.inl ⟨wanted_none rfl, by go_simp⟩
          rcases i with _ | i
          · cases ho; exact Or.inl ⟨wanted_none rfl, by go_simp⟩
          rcases i with _ | i
          · cases ho; exact Or.inl ⟨wanted_none rfl, by go_simp⟩
          rcases i with _ | i
          · cases ho; exact Or.inl ⟨wanted_none rfl, by go_simp⟩
          rcases i with _ | i
          · cases ho; exact Or.inl ⟨wanted_none rfl, by go_simp⟩
          rcases i with _ | i
          · cases ho; exact Or.inl ⟨wanted_none rfl, by go_simp⟩
          rcases i with _ | i
          · cases ho; exact Or.inl ⟨wanted_none rfl, by go_simp⟩
          rcases i with _ | i
          · cases ho; exact Or.inl ⟨wanted_none rfl, by go_simp⟩
          rcases i with _ | i
          · exact absurd h1 (by decide)
          rcases i with _ | i
          · cases ho; exact Or.inl ⟨wanted_none rfl, by go_simp⟩
          rcases i with _ | i
          · cases ho; exact Or.inl ⟨wanted_none rfl, by go_simp⟩
          rcases i with _ | i
          · cases ho; exact Or.inl ⟨wanted_ev rfl rfl rfl (by assumption), by go_simp⟩
          rcases i with _ | i
          · cases ho; exact Or.inl ⟨wanted_ev rfl rfl rfl (by assumption), by go_simp⟩
          rcases i with _ | i
          · cases ho; exact Or.inl ⟨wanted_ev rfl rfl rfl (by assumption), by go_simp⟩
          rcases i with _ | i
          · cases ho; exact Or.inl ⟨wanted_ev rfl rfl rfl (by assumption), by go_simp⟩
          rcases i with _ | i
          · cases ho; exact Or.inl ⟨wanted_ev rfl rfl rfl (by assumption), by go_simp⟩
          rcases i with _ | i
          · cases ho; exact Or.inl ⟨wanted_ev rfl rfl rfl (by assumption), by go_simp⟩
          rcases i with _ | i
          · cases ho; exact Or.inl ⟨wanted_ev rfl rfl rfl (by assumption), by go_simp⟩
          rcases i with _ | i
          · cases ho; exact Or.inl ⟨wanted_ev rfl rfl rfl (by assumption), by go_simp⟩
          rcases i with _ | i
          · cases ho; exact Or.inl ⟨wanted_ev rfl rfl rfl (by assumption), by go_simp⟩
          rcases i with _ | i
          · cases ho; exact Or.inl ⟨wanted_ev rfl rfl rfl (by assumption), by go_simp⟩
          rcases i with _ | i
          · cases ho; exact Or.inl ⟨wanted_ev rfl rfl rfl (by assumption), by go_simp⟩
          rcases i with _ | i
          · exact absurd h1 (by decide)
          rcases i with _ | i
          · cases ho; exact Or.inl ⟨wanted_ev rfl rfl rfl (by assumption), by go_simp⟩
          rcases i with _ | i
          · cases ho; exact Or.inl ⟨wanted_none rfl, by go_simp⟩
          rcases i with _ | i
          · cases ho; exact Or.inl ⟨wanted_none rfl, by go_simp⟩
          rcases i with _ | i
          · cases ho; exact Or.inl ⟨wanted_ev rfl rfl rfl (by assumption), by go_simp⟩
          rcases i with _ | i
          · cases ho; exact Or.inl ⟨wanted_ev rfl rfl rfl (by assumption), by go_simp⟩
          rcases i with _ | i
          · cases ho; exact Or.inl ⟨wanted_ev rfl rfl rfl (by assumption), by go_simp⟩
          rcases i with _ | i
          · cases ho; exact Or.inl ⟨wanted_ev rfl rfl rfl (by assumption), by go_simp⟩
          rcases i with _ | i
          · cases ho; exact Or.inl ⟨wanted_ev rfl rfl rfl (by assumption), by go_simp⟩
          rcases i with _ | i
          · cases ho; exact Or.inl ⟨wanted_ev rfl rfl rfl (by assumption), by go_simp⟩
          rcases i with _ | i
          · exact absurd h1 (by decide)
          rcases i with _ | i
          · cases ho; exact Or.inl ⟨wanted_ev rfl rfl rfl (by assumption), by go_simp⟩
          rcases i with _ | i
          · cases ho; exact Or.inl ⟨wanted_ev rfl rfl rfl (by assumption), by go_simp⟩
          rcases i with _ | i
          · cases ho; exact Or.inl ⟨wanted_none rfl, by go_simp⟩
          rcases i with _ | i
          · cases ho; exact Or.inl ⟨wanted_none rfl, by go_simp⟩
          rcases i with _ | i
          · cases ho; exact Or.inl ⟨wanted_ev rfl rfl rfl (by assumption), by go_simp⟩
          rcases i with _ | i
          · cases ho; exact Or.inl ⟨wanted_ev rfl rfl rfl (by assumption), by go_simp⟩
          rcases i with _ | i
          · cases ho; exact Or.inl ⟨wanted_none rfl, by go_simp⟩
          rcases i with _ | i
          · cases ho; exact Or.inl ⟨wanted_none rfl, by go_simp⟩
          rcases i with _ | i
          · cases ho; exact Or.inl ⟨wanted_ev rfl rfl rfl (by assumption), by go_simp⟩
          rcases i with _ | i
          · cases ho; exact Or.inl ⟨wanted_ev rfl rfl rfl (by assumption), by go_simp⟩
          rcases i with _ | i
          · exact absurd h1 (by decide)
          rcases i with _ | i
          · cases ho; exact Or.inl ⟨wanted_ev rfl rfl rfl (by assumption), by go_simp⟩
          rcases i with _ | i
          · cases ho; exact Or.inl ⟨wanted_ev rfl rfl rfl (by assumption), by go_simp⟩
          rcases i with _ | i
          · exact absurd h1 (by decide)
          cases ho
        simp only [fills, Act.put, List.setIfInBounds_toArray, List.set_cons_zero, List.set_cons_succ]
        refine flowG_done ?_
        clear ck ck0
        show Exit.then _ (Exit.then _ (Exit.inBlock 1 (Exit.then _ _))) Exit.normal _ _
        go_wp2_with (at_builtin; refine wpList_append_vec rfl (.tmp 102) (.tmp 108) 32 rfl Try.underlying32 infoN rfl rfl (f := ivL q) (by rw [HM.out.1]; exact (h6.out.all 2 _ rfl).grown ((Grown.refl _).alloc _ _)) rfl (by decide) (new_int _ _ _) (fun _ _ => rfl) (by omega) (by omega) ?_; intro p' c' w7 hv7 ho7 hp7; have h7 : Hid (Apt w w7 [obSp X [(q ++ [v], 0)], obSp Y st2, obV p' c' (q ++ [v])]) := appended_s h6.out (i := 2) rfl (by rw [← HM.out.1]; exact hv7) ho7 hp7; clear hv7 ho7 hp7 h6)
        go_roundw
        case rel => exact ⟨k + 1, m + 1, c', p', q ++ [v], st2, by omega, by go_num, rfl, by rw [HM.out.1]; simp, by simp [HM.out.2], hst2.out, h7.out⟩
        case measure => simp [intOf]; omega
      · obtain rfl : k = len2 := by omega
        have hd : decide ((k : Int) < (k : Int)) = false := by rw [decide_eq_false_iff_not]; omega
        obtain ⟨hm1, hm3⟩ := HM.out
        subst hm3
        subst hm1
        have e1 := dx X Y _ q st p c hx.out
        have e2 := fun w1 p2 c2 => ix X Y w1 q st p c p2 c2 (by omega)
        have e3 := fun w1 p2 c2 => dy X Y w1 q st q.length p c p2 c2 hst.out
        have e4 := fun w1 p2 c2 => lx X w1 [obSp Y (emptyN st), obV p c q, obV p2 c2 q]
        obtain ⟨n, hn⟩ : ∃ n, n = q.length := ⟨_, rfl⟩
        have hnn : ((n : Int) == (n : Int)) = true := by simp
        simp only [← hn] at *
        clear pl pl2 ox oy ly dx ix dy lx hkk hn
        go_wp2_with (first
          | (go_at_call 13; refine e1.mono ?_; rintro e w2 ⟨p2, c2, rfl, h2⟩; clear e1 hx; have h2 : Hid (Apt w w2 [obSp X [([], 0)], obSp Y st, obV p c q, obV p2 c2 q]) := h2)
          | (go_at_call 12; refine (e2 _ _ _ h2.out).mono ?_; rintro e w3 ⟨rfl, h3⟩; clear e2 h2; have h3 : Hid (Apt w w3 [obSp X [([], 0)], obSp Y st, obV p c q, obV p2 c2 q]) := h3)
          | (go_at_call 13; refine (e3 _ _ _ h3.out).mono ?_; rintro e w4 ⟨p3, c3, rfl, h4⟩; clear e3 h3; have h4 : Hid (Apt w w4 [obSp X [([], 0)], obSp Y (emptyN st), obV p c q, obV p2 c2 q]) := h4)
          | (go_at_call 21; refine (e4 _ _ _ h4.out).mono ?_; rintro e w' ⟨rfl, hw⟩; have hw := hw.symm; subst hw))
        go_ret
        exact ⟨rfl, h4.out.grown⟩

/-! ### The row's step -/
set_option maxRecDepth 100000 in
theorem lifted (os : Os) (started : os.Started) (H : Type) (enc : TypeId × Value → H) :
    ReturnsInHanded {} Try.checked os 5 .any (Rows.stripesOneSpec.pre6 enc Try.prog Try.f5 Rows.stripesOneRow.domain false) (Rows.stripesOneSpec.post enc Try.prog Try.f5 false true false false) := by
  refine returnsInHanded_of_change (C := Try.checked) own started (by kernel_rfl) Try.func5
    (ChangeSpec.witness6 (enc := enc) (C := Try.checked) false ⟨#[], #[.int .i64 0, .int .i64 0, .slice none 0 0], []⟩ 8 (by kernel_rfl) (by kernel_rfl) (by kernel_rfl) (by kernel_rfl)) ?_
  intro W base args ds gs before hval0 hW hcnd _
  have hval : ∀ (j : Nat) t v, Try.f5.params[j]? = some t → args[j]? = some v → Value.okWide Try.prog W .any base t v := hval0
  have hW' := hW
  obtain ⟨p, q, hA0, hV, rfl, hfz, hnd⟩ := hW
  have hA : DataW.TrodAll enc Try.prog W 0 (fun _ => true) true Try.f5.params.toList args.toList ds p := hA0
  rw [Try.params5] at hA hval
  obtain ⟨v0, vs0, d0, ds0, p0, q0, hargs, rfl, rfl, h0, r0⟩ := trodAll_cons hA
  obtain ⟨v1, vs1, d1, ds1, p1, q1, rfl, rfl, rfl, h1, r1⟩ := trodAll_cons r0
  obtain ⟨v2, vs2, d2, ds2, p2, q2, rfl, rfl, rfl, h2, r2⟩ := trodAll_cons r1
  obtain ⟨rfl, rfl, rfl⟩ := trodAll_nil r2
  obtain rfl : args = #[v0, v1, v2] := by cases args; simp_all
  obtain ⟨rfl, rfl⟩ := trodVars_none hV
  obtain ⟨a0, rfl, rfl, rfl, w0⟩ := open_int Try.underlying3 (hval 0 3 v0 rfl rfl) h0
  obtain ⟨a1, rfl, rfl, rfl, w1⟩ := open_int Try.underlying3 (hval 1 3 v1 rfl rfl) h1
  obtain ⟨a2, len2, cap2, rfl⟩ := okWide_slice Try.underlying22 (hval 2 22 v2 rfl rfl)
  have k2 := h2
  have lt2 : ∀ x ∈ p2, x.block < W.heap.size := by obtain ⟨m, hm⟩ := k2; exact DataW.trod_lt m _ _ _ hm
  obtain ⟨z2, w2⟩ := open_grid Try.underlying22 Try.underlying28 Try.underlying3 (by kernel_rfl) (by kernel_rfl) h2
  clear hA0 hval0
  refine (walk a0 a1 a2 len2 cap2 z2 W w0 w1 w2).mono fun e W' ⟨he, bel⟩ => ?_
  subst he
  exact ⟨_, rfl, _, _, _, [], _, [], hW', trodAll_mk1 (shut_bool Try.underlying4 _), (trodAll_cons_mk (shut_int Try.underlying3 w0) (trodAll_cons_mk (shut_int Try.underlying3 w1) (trodAll_cons_mk (grown_trod laidOut (by kernel_rfl) (of_decide_eq_true (by kernel_rfl)) k2 bel lt2) trodAll_mk0))), rfl, bel.frame _, fun h => by cases h⟩

theorem over : Rows.stripesOneRow.holds Try.pinned (OpenSpec.ofChange Rows.stripesOneSpec) :=
  OpenClaim.holds_of_wide 5 Try.f5 rfl rfl rfl rfl rfl rfl rfl ⟨rfl, rfl, rfl, rfl, rfl⟩ rfl rfl rfl rfl rfl (by kernel_rfl) Try.func5 (by kernel_rfl)
    (of_decide_eq_true (by kernel_rfl)) (by unfold Func.isWrapper; first | (rw [if_pos (by decide +kernel)]; kernel_rfl) | (rw [if_neg (by decide +kernel)]; exact ⟨rfl, rfl⟩))
    (fun os started H enc _ => lifted os started H enc)

/-- The statement. -/
theorem proved : Rows.StripesOneSaid := over
end Go.Proofs.Ytbboomhgigaobaa.stripesOne

namespace Go.Proofs.Ytbboomhgigaobaa
/-- The given statement. -/
theorem stripesOne_holds : Rows.StripesOneSaid := stripesOne.proved
#print axioms stripesOne_holds
end Go.Proofs.Ytbboomhgigaobaa
