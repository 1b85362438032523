/-
  Proved: pantrylaw14.WritesOrder returns true for every size and every slice of calls: who has reserved can commit, what is committed is taken in that order, and never are there more than Size held and reserved (P14.3). Condition: errors.errorType holds what the program's text lays (tied by the card).
-/
import Derived.Test.YtigmjgmkeoineaaDoorRows
import Derived.WalkKit
import Derived.ProofKit
import Derived.OpenShut
import Derived.Test.YtigmjgmkeoineaaDoorWbSmall
import Derived.Test.YtigmjgmkeoineaaDoorWbRows
import Derived.ShutString
import Derived.ChangeOld
import Derived.Below
import Derived.Test.YtigmjgmkeoineaaDoorGenArgs
import Derived.Test.YtigmjgmkeoineaaDoorWgLaid
import Derived.Test.YtigmjgmkeoineaaDoorTie
import Derived.Test.YtigmjgmkeoineaaDoorCards
import Derived.SevenTiedAt
namespace Go.Proofs.YtigmjgmkeoineaaDoor.writesOrder
open Go.ChangeShapes Go.WideShapes Go.ChangeAt Go.RowKit
set_option linter.unusedVariables false

theorem laidOut : laidOutB Tryd.prog = true := by kernel_rfl

/-! ### The walk: the law returns true, and writes nothing that was there -/
open Go.Proofs.YtigmjgmkeoineaaDoor.Us Go.Proofs.YtigmjgmkeoineaaDoor.Wb in set_option maxRecDepth 100000 in set_option maxHeartbeats 16000000 in
theorem walk (a0 : Int) (a1 : Option Addr) (len1 cap1 : Nat) (z1 : List Int) (w : World) (hl : Laid w) (hs : w.ShapedOpen Tryd.prog) (w0 : (Lit.int .i64 a0).wf = true) (w1 : IsInts .i64 w a1 len1 cap1 z1) :
    Calls Tryd.prog 4 #[.int .i64 a0, .slice a1 len1 cap1] w fun e w' => e = .returned (.bool true) ∧ Grown w w' := by
  clear hs
  have hk := keys_open w1
  clear w0 w1
  have sm := small_s w hl
  obtain ⟨N, n1, n2, e, hb, h4, h5⟩ := size_all a0
  have nw := fun (w1 : World) (g : Grown w w1) => new_s (Apt.none g) a0 n2 e
  clear e h5 h4 hb hl
  unfold ptr at nw
  by_cases hl : 200 < len1
  · clear hk
    have d1 : decide (200 < (len1 : Int)) = true := by rw [decide_eq_true_eq]; omega
    go_enter Tryd.func4, Tryd.ntmps4
    go_wp2_with (first | (go_at_call 7; refine sm.mono ?_; rintro e ws ⟨rfl, hgs⟩; clear sm) | (go_at_call 8; refine (nw _ hgs).mono ?_; rintro e wx ⟨M, rfl, hx⟩; clear nw; have hx : Hid (Apt w wx [obB M N 0 [] 0]) := hx))
    go_ret
    exact ⟨rfl, hx.out.grown⟩
  · have d1 : decide (200 < (len1 : Int)) = false := by rw [decide_eq_false_iff_not]; omega
    have hlen : len1 ≤ 200 := by omega
    have hkk : ∀ k, k < len1 → ∃ kb off, a1 = some ⟨kb, off, none⟩ ∧ ∀ W, Grown w W → W.cell? ⟨kb, off + k, none⟩ = some (.int .i64 (z1.getD k 0)) := fun k hlt => by
      rcases hk with h | ⟨kb, off, h1, h2, h3⟩
      · omega
      · exact ⟨kb, off, h1, fun W g => keys_cell (h3 k hlt) h2 g⟩
    have HKK : Hid (∀ k, k < len1 → ∃ kb off, a1 = some ⟨kb, off, none⟩ ∧ ∀ W, Grown w W → W.cell? ⟨kb, off + k, none⟩ = some (.int .i64 (z1.getD k 0))) := hkk
    clear hk hkk hl
    go_enter Tryd.func4, Tryd.ntmps4
    go_wp2_with (first | (go_at_call 7; refine sm.mono ?_; rintro e ws ⟨rfl, hgs⟩; clear sm) | (go_at_call 8; refine (nw _ hgs).mono ?_; rintro e wx ⟨M, rfl, hx⟩; clear nw; have hx : Hid (Apt w wx [obB M N 0 [] 0]) := hx))
    go_loopw [7, 8, 9, 10, 11, 12, 13, 14] (fun vi vo vk i _ _ _ _ wr => ∃ (k : Nat) (pi po : Option Addr) (ci co mi mo r : Nat) (a o xs : List Int), k ≤ len1 ∧ vi = .slice pi mi ci ∧ vo = .slice po mo co ∧ vk = .int .i64 (r : Int) ∧ i = .int .i64 (k : Int) ∧ mi = a.length ∧ mo = o.length ∧ a = o ++ xs ∧ mi ≤ k ∧ r ≤ k ∧ Apt w wr [obB M N mo (xs.map ev) r, obV pi ci a, obV po co o]) (fun _ _ _ i _ _ _ _ _ => len1 - (intOf i).toNat)
    case atStart => exact ⟨0, none, none, 0, 0, 0, 0, 0, [], [], [], by omega, rfl, rfl, rfl, rfl, rfl, rfl, rfl, by omega, by omega, (hx.out.add (u := obV none 0 []) (Grown.refl _) (Vec.nil _ _ _ _) fun x hx => absurd hx In.no).add (u := obV none 0 []) (Grown.refl _) (Vec.nil _ _ _ _) fun x hx => absurd hx In.no⟩
    case round =>
      clear hx
      obtain ⟨k, pi, po, ci, co, mi, mo, r, a, o, xs, hk, rfl, rfl, rfl, rfl, hmi, hmo, ha, hmk, hrk, hx⟩ := hrel
      have HMI : Hid (mi = a.length) := hmi
      have HMO : Hid (mo = o.length) := hmo
      have HA : Hid (a = o ++ xs) := ha
      have hmx : mi = mo + xs.length := by rw [hmi, ha, List.length_append, hmo]
      clear hmi hmo ha
      by_cases hlt : k < len1
      · have hd : decide ((k : Int) < (len1 : Int)) = true := by rw [decide_eq_true_eq]; omega
        obtain ⟨kb, off, rfl, ck⟩ := HKK.out k hlt
        obtain ⟨z, hz⟩ : ∃ z, Hid (z = z1.getD k 0) := ⟨_, rfl⟩
        rw [← hz.out] at ck
        have ckr := ck _ hx.grown
        clear ck
        have hroom := room hx (i := 0) rfl
        rw [List.length_map] at hroom
        have hx : Hid (Apt w _ [obB M N mo (xs.map ev) r, obV pi ci a, obV po co o]) := hx
        have hmo2 : mo ≤ k := by omega
        rcases and3 z with hc | hc | hc | hc
        · by_cases hr : xs.length + r < N
          · have of := reserve_y hx.out (i := 0) rfl (by rw [List.length_map]; exact hr)
            unfold ptr at of
            obtain ⟨q, hq⟩ : ∃ q : List Ev, Hid (q = xs.map ev) := ⟨_, rfl⟩
            obtain ⟨n, hn⟩ : ∃ n, Hid (n = q.length) := ⟨_, rfl⟩
            have hn1 : n = xs.length := by rw [hn.out, hq.out, List.length_map]
            obtain ⟨r2, hr2⟩ : ∃ r2, Hid (r2 = r + 1) := ⟨_, rfl⟩
            have hr3 : r2 = r + 1 := hr2.out
            rw [← hq.out, ← hr2.out] at of
            rw [← hq.out] at hx
            have le : Hid (∀ (w1 : World) (l : List Ob) (f r : Nat), Apt w w1 (obB M N f q r :: l) → Calls Tryd.prog 20 #[.pointer (some ⟨M + 1, 0, none⟩)] w1 fun e w' => e = .returned (.int .i64 (n : Int)) ∧ w' = w1) := fun w1 l f r h => by
              have := len_s h (i := 0) rfl
              rwa [← hn.out] at this
            have G1 : (decide ((r : Int) + (mi : Int) - (mo : Int) < (N : Int))) = true := by rw [decide_eq_true_eq]; omega
            have G2 : r2 ≤ k + 1 := by omega
            have F0 : decide ((r : Int) + 1 < 0) = false := by rw [decide_eq_false_iff_not]; omega
            have F1 : ((r2 : Int) != (r : Int) + 1) = false := bne_eq_false_iff_eq.2 (by omega)
            have F2 : decide ((N : Int) < (n : Int) + ((r : Int) + 1)) = false := by rw [decide_eq_false_iff_not]; omega
            have F2p : ¬ (N : Int) < (n : Int) + ((r : Int) + 1) := by omega
            have F3 : decide ((mi : Int) < (mo : Int)) = false := by rw [decide_eq_false_iff_not]; omega
            have F3n : ¬ mi < mo := by omega
            have F4 : ((n : Int) != (mi : Int) - (mo : Int)) = false := by rw [bne_eq_false_iff_eq]; omega
            clear hr3 hn1 hmx
            go_wp2_with (first | (go_at_call 11; refine of.mono ?_; rintro e w2 ⟨rfl, h2⟩; clear of hx; have h2 : Hid (Apt w w2 [obB M N mo q r2, obV pi ci a, obV po co o]) := h2))
            go_quiet (first | (go_at_call 22; exact Calls.quiet_of_same (size_s (h2.out.drewN _) (i := 0) rfl)))
            have h3 : Hid (Apt w (w2.drewN nq) [obB M N mo q r2, obV pi ci a, obV po co o]) := h2.out.drewN nq
            clear h2
            go_wp2_with (first | (go_at_call 20; refine (le.out _ _ _ _ h3.out).mono ?_; rintro e w' ⟨rfl, hw'⟩; have hw' := hw'.symm; subst hw') | (go_at_call 21; refine (reserved_s h3.out (i := 0) rfl).mono ?_; rintro e w' ⟨rfl, hw'⟩; have hw' := hw'.symm; subst hw') | (go_at_call 22; refine (size_s h3.out (i := 0) rfl).mono ?_; rintro e w' ⟨rfl, hw'⟩; have hw' := hw'.symm; subst hw'))
            go_roundw
            case rel => exact ⟨k + 1, pi, po, ci, co, mi, mo, r2, a, o, xs, by omega, rfl, rfl, by congr 1; have := hr2.out; omega, by go_num, HMI.out, HMO.out, HA.out, by omega, by omega, by rw [← hq.out]; exact h3.out⟩
            case measure => simp [intOf]; omega
          · have of : Calls Tryd.prog 11 #[.pointer (some ⟨M + 1, 0, none⟩)] wr fun e w' => ∃ b, e = .returned (.iface 55 (.pointer (some ⟨b, 0, none⟩))) ∧ Apt w w' [obB M N mo (xs.map ev) r, obV pi ci a, obV po co o] := by
              refine (reserve_n hx.out (i := 0) rfl (by rw [List.length_map]; omega)).mono ?_
              rintro e w' ⟨b, rfl, h2⟩
              exact ⟨b, rfl, h2.front⟩
            obtain ⟨q, hq⟩ : ∃ q : List Ev, Hid (q = xs.map ev) := ⟨_, rfl⟩
            obtain ⟨n, hn⟩ : ∃ n, Hid (n = q.length) := ⟨_, rfl⟩
            have hn1 : n = xs.length := by rw [hn.out, hq.out, List.length_map]
            rw [← hq.out] at of hx
            have le : Hid (∀ (w1 : World) (l : List Ob) (f r : Nat), Apt w w1 (obB M N f q r :: l) → Calls Tryd.prog 20 #[.pointer (some ⟨M + 1, 0, none⟩)] w1 fun e w' => e = .returned (.int .i64 (n : Int)) ∧ w' = w1) := fun w1 l f r h => by
              have := len_s h (i := 0) rfl
              rwa [← hn.out] at this
            have G1 : (decide ((r : Int) + (mi : Int) - (mo : Int) < (N : Int))) = false := by rw [decide_eq_false_iff_not]; omega
            have F0 : decide ((r : Int) < 0) = false := by rw [decide_eq_false_iff_not]; omega
            have F1 : ((r : Int) != (r : Int)) = false := bne_eq_false_iff_eq.2 (by omega)
            have F2 : decide ((N : Int) < (n : Int) + ((r : Int))) = false := by rw [decide_eq_false_iff_not]; omega
            have F2p : ¬ (N : Int) < (n : Int) + ((r : Int)) := by omega
            have F3 : decide ((mi : Int) < (mo : Int)) = false := by rw [decide_eq_false_iff_not]; omega
            have F3n : ¬ mi < mo := by omega
            have F4 : ((n : Int) != (mi : Int) - (mo : Int)) = false := by rw [bne_eq_false_iff_eq]; omega
            have F2n : ¬ N < n + r := by omega
            have F2m : decide (N < n + r) = false := decide_eq_false F2n
            clear hn1 hmx
            go_wp2_with (first | (go_at_call 11; refine of.mono ?_; rintro e w2 ⟨b, rfl, h2⟩; clear of hx; have h2 : Hid (Apt w w2 [obB M N mo q r, obV pi ci a, obV po co o]) := h2))
            go_quiet (first | (go_at_call 22; exact Calls.quiet_of_same (size_s (h2.out.drewN _) (i := 0) rfl)))
            have h3 : Hid (Apt w (w2.drewN nq) [obB M N mo q r, obV pi ci a, obV po co o]) := h2.out.drewN nq
            clear h2
            go_wp2_with (first | (go_at_call 20; refine (le.out _ _ _ _ h3.out).mono ?_; rintro e w' ⟨rfl, hw'⟩; have hw' := hw'.symm; subst hw') | (go_at_call 21; refine (reserved_s h3.out (i := 0) rfl).mono ?_; rintro e w' ⟨rfl, hw'⟩; have hw' := hw'.symm; subst hw') | (go_at_call 22; refine (size_s h3.out (i := 0) rfl).mono ?_; rintro e w' ⟨rfl, hw'⟩; have hw' := hw'.symm; subst hw'))
            go_roundw
            case rel => exact ⟨k + 1, pi, po, ci, co, mi, mo, r, a, o, xs, by omega, rfl, rfl, rfl, by go_num, HMI.out, HMO.out, HA.out, by omega, by omega, by rw [← hq.out]; exact h3.out⟩
            case measure => simp [intOf]; omega
        · by_cases hr : 0 < r
          · obtain ⟨q, hq⟩ : ∃ q : List Ev, Hid (q = xs.map ev) := ⟨_, rfl⟩
            obtain ⟨n, hn⟩ : ∃ n, Hid (n = q.length) := ⟨_, rfl⟩
            have hn1 : n = xs.length := by rw [hn.out, hq.out, List.length_map]
            rw [← hq.out] at hx
            have cm := fun w2 (h : Apt w w2 [obB M N mo q r, obV pi ci a, obV po co o]) => commit_s h (i := 0) rfl (ev (k : Int)) (by omega)
            unfold ptr cdR cmQ at cm
            simp only [if_pos hr] at cm
            obtain ⟨r2, hr2⟩ : ∃ r2, Hid (r2 = r - 1) := ⟨_, rfl⟩
            have hr3 : r2 = r - 1 := hr2.out
            obtain ⟨q2, hq2⟩ : ∃ q2, Hid (q2 = q ++ [ev (k : Int)]) := ⟨_, rfl⟩
            obtain ⟨n2, hn2⟩ : ∃ n2, Hid (n2 = q2.length) := ⟨_, rfl⟩
            have hn3 : n2 = n + 1 := by rw [hn2.out, hq2.out, hn.out, List.length_append]; rfl
            rw [← hq2.out, ← hr2.out] at cm
            obtain ⟨m2, hm2⟩ : ∃ m2, Hid (m2 = mi + 1) := ⟨_, rfl⟩
            have hm3 : m2 = mi + 1 := hm2.out
            have le : Hid (∀ (w1 : World) (l : List Ob) (f r : Nat), Apt w w1 (obB M N f q2 r :: l) → Calls Tryd.prog 20 #[.pointer (some ⟨M + 1, 0, none⟩)] w1 fun e w' => e = .returned (.int .i64 (n2 : Int)) ∧ w' = w1) := fun w1 l f r h => by
              have := len_s h (i := 0) rfl
              rwa [← hn2.out] at this
            have G1 : decide (0 < (r : Int)) = true := by rw [decide_eq_true_eq]; omega
            have G2 : r2 ≤ k + 1 ∧ m2 ≤ k + 1 := by omega
            have F0 : decide ((r : Int) - 1 < 0) = false := by rw [decide_eq_false_iff_not]; omega
            have F1 : ((r2 : Int) != (r : Int) - 1) = false := bne_eq_false_iff_eq.2 (by omega)
            have F2 : decide ((N : Int) < (n2 : Int) + ((r : Int) - 1)) = false := by rw [decide_eq_false_iff_not]; omega
            have F2p : ¬ (N : Int) < (n2 : Int) + ((r : Int) - 1) := by omega
            have F3 : decide ((m2 : Int) < (mo : Int)) = false := by rw [decide_eq_false_iff_not]; omega
            have F3n : ¬ m2 < mo := by omega
            have F4 : ((n2 : Int) != (m2 : Int) - (mo : Int)) = false := by rw [bne_eq_false_iff_eq]; omega
            clear hr3 hn1 hn3 hm3 hmx
            go_wp2_with (first | (go_at_call 10; refine (event_s hx.out (k : Int)).mono ?_; rintro e w2 ⟨rfl, h2⟩; clear hx; have h2 : Hid (Apt w w2 [obB M N mo q r, obV pi ci a, obV po co o]) := h2) | (go_at_call 14; refine (cm _ h2.out).mono ?_; rintro e w3 ⟨rfl, h3⟩; clear cm h2; have h3 : Hid (Apt w w3 [obB M N mo q2 r2, obV pi ci a, obV po co o]) := h3) | (at_builtin; refine wpList_append_vec rfl (.tmp 77) (.tmp 79) 22 rfl Tryd.underlying22 infoN rfl rfl (f := ivL a) (by rw [HMI.out]; exact (h3.out.all 1 _ rfl).grown ((Grown.refl _).alloc _ _)) rfl (by decide) (new_int _ _ _) (fun _ _ => rfl) (by omega) (by omega) ?_; intro p' c' w4 hv4 ho4 hp4; have h4 : Hid (Apt w w4 [obB M N mo q2 r2, obV p' c' (a ++ [(k : Int)]), obV po co o]) := appended_s h3.out (i := 1) rfl (by rw [← HMI.out]; exact hv4) ho4 hp4; clear hv4 ho4 hp4 h3; rw [← hm2.out]) | (go_at_call 20; refine (le.out _ _ _ _ h4.out).mono ?_; rintro e w' ⟨rfl, hw'⟩; have hw' := hw'.symm; subst hw') | (go_at_call 21; refine (reserved_s h4.out (i := 0) rfl).mono ?_; rintro e w' ⟨rfl, hw'⟩; have hw' := hw'.symm; subst hw') | (go_at_call 22; refine (size_s h4.out (i := 0) rfl).mono ?_; rintro e w' ⟨rfl, hw'⟩; have hw' := hw'.symm; subst hw'))
            go_roundw
            case rel => exact ⟨k + 1, p', po, c', co, m2, mo, r2, a ++ [(k : Int)], o, xs ++ [(k : Int)], by omega, rfl, rfl, by congr 1; have := hr2.out; omega, by go_num, by rw [hm2.out, HMI.out, List.length_append]; rfl, HMO.out, by rw [HA.out, List.append_assoc], by omega, by omega, by rw [List.map_append, ← hq.out, show List.map ev [(k : Int)] = [ev (k : Int)] from rfl, ← hq2.out]; exact h4.out⟩
            case measure => simp [intOf]; omega
          · obtain ⟨q, hq⟩ : ∃ q : List Ev, Hid (q = xs.map ev) := ⟨_, rfl⟩
            obtain ⟨n, hn⟩ : ∃ n, Hid (n = q.length) := ⟨_, rfl⟩
            have hn1 : n = xs.length := by rw [hn.out, hq.out, List.length_map]
            rw [← hq.out] at hx
            have cm := fun w2 (h : Apt w w2 [obB M N mo q r, obV pi ci a, obV po co o]) => commit_s h (i := 0) rfl (ev (k : Int)) (by omega)
            unfold ptr cdR cmQ at cm
            simp only [if_neg hr, show r - 1 = r by omega] at cm
            have le : Hid (∀ (w1 : World) (l : List Ob) (f r : Nat), Apt w w1 (obB M N f q r :: l) → Calls Tryd.prog 20 #[.pointer (some ⟨M + 1, 0, none⟩)] w1 fun e w' => e = .returned (.int .i64 (n : Int)) ∧ w' = w1) := fun w1 l f r h => by
              have := len_s h (i := 0) rfl
              rwa [← hn.out] at this
            have G1 : decide (0 < (r : Int)) = false := by rw [decide_eq_false_iff_not]; omega
            have F0 : decide ((r : Int) < 0) = false := by rw [decide_eq_false_iff_not]; omega
            have F1 : ((r : Int) != (r : Int)) = false := bne_eq_false_iff_eq.2 (by omega)
            have F2 : decide ((N : Int) < (n : Int) + ((r : Int))) = false := by rw [decide_eq_false_iff_not]; omega
            have F2p : ¬ (N : Int) < (n : Int) + ((r : Int)) := by omega
            have F3 : decide ((mi : Int) < (mo : Int)) = false := by rw [decide_eq_false_iff_not]; omega
            have F3n : ¬ mi < mo := by omega
            have F4 : ((n : Int) != (mi : Int) - (mo : Int)) = false := by rw [bne_eq_false_iff_eq]; omega
            have F2n : ¬ N < n + r := by omega
            have F2m : decide (N < n + r) = false := decide_eq_false F2n
            clear hn1 hmx
            go_wp2_with (first | (go_at_call 10; refine (event_s hx.out (k : Int)).mono ?_; rintro e w2 ⟨rfl, h2⟩; clear hx; have h2 : Hid (Apt w w2 [obB M N mo q r, obV pi ci a, obV po co o]) := h2) | (go_at_call 14; refine (cm _ h2.out).mono ?_; rintro e w3 ⟨rfl, h3⟩; clear cm h2; have h3 : Hid (Apt w w3 [obB M N mo q r, obV pi ci a, obV po co o]) := h3) | (go_at_call 20; refine (le.out _ _ _ _ h3.out).mono ?_; rintro e w' ⟨rfl, hw'⟩; have hw' := hw'.symm; subst hw') | (go_at_call 21; refine (reserved_s h3.out (i := 0) rfl).mono ?_; rintro e w' ⟨rfl, hw'⟩; have hw' := hw'.symm; subst hw') | (go_at_call 22; refine (size_s h3.out (i := 0) rfl).mono ?_; rintro e w' ⟨rfl, hw'⟩; have hw' := hw'.symm; subst hw'))
            go_roundw
            case rel => exact ⟨k + 1, pi, po, ci, co, mi, mo, r, a, o, xs, by omega, rfl, rfl, rfl, by go_num, HMI.out, HMO.out, HA.out, by omega, by omega, by rw [← hq.out]; exact h3.out⟩
            case measure => simp [intOf]; omega
        · by_cases hr : 0 < r
          · obtain ⟨q, hq⟩ : ∃ q : List Ev, Hid (q = xs.map ev) := ⟨_, rfl⟩
            obtain ⟨n, hn⟩ : ∃ n, Hid (n = q.length) := ⟨_, rfl⟩
            have hn1 : n = xs.length := by rw [hn.out, hq.out, List.length_map]
            rw [← hq.out] at hx
            have cm := cancel_s hx.out (i := 0) rfl
            unfold ptr cdR at cm
            rw [if_pos hr] at cm
            obtain ⟨r2, hr2⟩ : ∃ r2, Hid (r2 = r - 1) := ⟨_, rfl⟩
            have hr3 : r2 = r - 1 := hr2.out
            rw [← hr2.out] at cm
            have le : Hid (∀ (w1 : World) (l : List Ob) (f r : Nat), Apt w w1 (obB M N f q r :: l) → Calls Tryd.prog 20 #[.pointer (some ⟨M + 1, 0, none⟩)] w1 fun e w' => e = .returned (.int .i64 (n : Int)) ∧ w' = w1) := fun w1 l f r h => by
              have := len_s h (i := 0) rfl
              rwa [← hn.out] at this
            have G2 : r2 ≤ k + 1 := by omega
            have F0 : decide ((r : Int) - 1 < 0) = false := by rw [decide_eq_false_iff_not]; omega
            have F1 : ((r2 : Int) != (r : Int) - 1) = false := bne_eq_false_iff_eq.2 (by omega)
            have F2 : decide ((N : Int) < (n : Int) + ((r : Int) - 1)) = false := by rw [decide_eq_false_iff_not]; omega
            have F2p : ¬ (N : Int) < (n : Int) + ((r : Int) - 1) := by omega
            have F3 : decide ((mi : Int) < (mo : Int)) = false := by rw [decide_eq_false_iff_not]; omega
            have F3n : ¬ mi < mo := by omega
            have F4 : ((n : Int) != (mi : Int) - (mo : Int)) = false := by rw [bne_eq_false_iff_eq]; omega
            clear hr3 hn1 hmx
            go_wp2_with (first | (go_at_call 16; refine cm.mono ?_; rintro e w3 ⟨rfl, h3⟩; clear cm hx; have h3 : Hid (Apt w w3 [obB M N mo q r2, obV pi ci a, obV po co o]) := h3) | (go_at_call 20; refine (le.out _ _ _ _ h3.out).mono ?_; rintro e w' ⟨rfl, hw'⟩; have hw' := hw'.symm; subst hw') | (go_at_call 21; refine (reserved_s h3.out (i := 0) rfl).mono ?_; rintro e w' ⟨rfl, hw'⟩; have hw' := hw'.symm; subst hw') | (go_at_call 22; refine (size_s h3.out (i := 0) rfl).mono ?_; rintro e w' ⟨rfl, hw'⟩; have hw' := hw'.symm; subst hw'))
            go_roundw
            case rel => exact ⟨k + 1, pi, po, ci, co, mi, mo, r2, a, o, xs, by omega, rfl, rfl, by congr 1; have := hr2.out; omega, by go_num, HMI.out, HMO.out, HA.out, by omega, by omega, by rw [← hq.out]; exact h3.out⟩
            case measure => simp [intOf]; omega
          · obtain ⟨q, hq⟩ : ∃ q : List Ev, Hid (q = xs.map ev) := ⟨_, rfl⟩
            obtain ⟨n, hn⟩ : ∃ n, Hid (n = q.length) := ⟨_, rfl⟩
            have hn1 : n = xs.length := by rw [hn.out, hq.out, List.length_map]
            rw [← hq.out] at hx
            have cm := cancel_s hx.out (i := 0) rfl
            unfold ptr cdR at cm
            rw [if_neg hr, show r - 1 = r by omega] at cm
            have le : Hid (∀ (w1 : World) (l : List Ob) (f r : Nat), Apt w w1 (obB M N f q r :: l) → Calls Tryd.prog 20 #[.pointer (some ⟨M + 1, 0, none⟩)] w1 fun e w' => e = .returned (.int .i64 (n : Int)) ∧ w' = w1) := fun w1 l f r h => by
              have := len_s h (i := 0) rfl
              rwa [← hn.out] at this
            have F0 : decide ((r : Int) < 0) = false := by rw [decide_eq_false_iff_not]; omega
            have F1 : ((r : Int) != (r : Int)) = false := bne_eq_false_iff_eq.2 (by omega)
            have F2 : decide ((N : Int) < (n : Int) + ((r : Int))) = false := by rw [decide_eq_false_iff_not]; omega
            have F2p : ¬ (N : Int) < (n : Int) + ((r : Int)) := by omega
            have F3 : decide ((mi : Int) < (mo : Int)) = false := by rw [decide_eq_false_iff_not]; omega
            have F3n : ¬ mi < mo := by omega
            have F4 : ((n : Int) != (mi : Int) - (mo : Int)) = false := by rw [bne_eq_false_iff_eq]; omega
            have F2n : ¬ N < n + r := by omega
            have F2m : decide (N < n + r) = false := decide_eq_false F2n
            clear hn1 hmx
            go_wp2_with (first | (go_at_call 16; refine cm.mono ?_; rintro e w3 ⟨rfl, h3⟩; clear cm hx; have h3 : Hid (Apt w w3 [obB M N mo q r, obV pi ci a, obV po co o]) := h3) | (go_at_call 20; refine (le.out _ _ _ _ h3.out).mono ?_; rintro e w' ⟨rfl, hw'⟩; have hw' := hw'.symm; subst hw') | (go_at_call 21; refine (reserved_s h3.out (i := 0) rfl).mono ?_; rintro e w' ⟨rfl, hw'⟩; have hw' := hw'.symm; subst hw') | (go_at_call 22; refine (size_s h3.out (i := 0) rfl).mono ?_; rintro e w' ⟨rfl, hw'⟩; have hw' := hw'.symm; subst hw'))
            go_roundw
            case rel => exact ⟨k + 1, pi, po, ci, co, mi, mo, r, a, o, xs, by omega, rfl, rfl, rfl, by go_num, HMI.out, HMO.out, HA.out, by omega, by omega, by rw [← hq.out]; exact h3.out⟩
            case measure => simp [intOf]; omega
        · cases xs with
          | nil =>
            obtain ⟨q, hq⟩ : ∃ q : List Ev, Hid (q = ([] : List Int).map ev) := ⟨_, rfl⟩
            obtain ⟨n, hn⟩ : ∃ n, Hid (n = q.length) := ⟨_, rfl⟩
            have hn1 : n = 0 := by rw [hn.out, hq.out]; rfl
            rw [List.length_nil] at hmx hroom
            have tk : Calls Tryd.prog 18 #[.pointer (some ⟨M + 1, 0, none⟩)] wr fun e w' => e = .returned (.tuple #[.agg #[.int .i64 0, .int .i64 0, .int .i64 0, .int .i64 0], .bool false]) ∧ Apt w w' [obB M N mo q r, obV pi ci a, obV po co o] := by
              rw [hq.out]
              exact take_s hx.out (i := 0) rfl (by omega)
            have le : Hid (∀ (w1 : World) (l : List Ob) (f r : Nat), Apt w w1 (obB M N f q r :: l) → Calls Tryd.prog 20 #[.pointer (some ⟨M + 1, 0, none⟩)] w1 fun e w' => e = .returned (.int .i64 (n : Int)) ∧ w' = w1) := fun w1 l f r h => by
              have := len_s h (i := 0) rfl
              rwa [← hn.out] at this
            have F0 : decide ((r : Int) < 0) = false := by rw [decide_eq_false_iff_not]; omega
            have F1 : ((r : Int) != (r : Int)) = false := bne_eq_false_iff_eq.2 (by omega)
            have F2 : decide ((N : Int) < (n : Int) + ((r : Int))) = false := by rw [decide_eq_false_iff_not]; omega
            have F2p : ¬ (N : Int) < (n : Int) + ((r : Int)) := by omega
            have F3 : decide ((mi : Int) < (mo : Int)) = false := by rw [decide_eq_false_iff_not]; omega
            have F3n : ¬ mi < mo := by omega
            have F4 : ((n : Int) != (mi : Int) - (mo : Int)) = false := by rw [bne_eq_false_iff_eq]; omega
            have F2n : ¬ N < n + r := by omega
            have F2m : decide (N < n + r) = false := decide_eq_false F2n
            clear hn1 hmx
            go_wp2_with (first | (go_at_call 18; refine tk.mono ?_; rintro e w2 ⟨rfl, h2⟩; clear tk hx; have h2 : Hid (Apt w w2 [obB M N mo q r, obV pi ci a, obV po co o]) := h2; have hZ := Go.Deep.blk_alloc_new w2 (.cells #[.int .i64 0, .int .i64 0, .int .i64 0, .int .i64 0] 30)) | (refine wpList_store_ev rfl rfl (.tmp 13) (.tmp 93) rfl w2.heap.size rfl rfl hZ rfl ?_; intro w3 hE o3; have h3 : Hid (Apt w w3 [obB M N mo q r, obV pi ci a, obV po co o]) := h2.out.more (o3.grown ((Grown.refl w2).alloc _ _) (fun k hk => by omega)); obtain ⟨E, hEE⟩ : ∃ E, Hid (E = w2.heap.size) := ⟨_, rfl⟩; rw [← hEE.out] at hE ⊢; obtain ⟨k0, k1, k2, k3, lE⟩ := ev_cells hE; clear h2 o3 hZ hE) | (go_at_call 20; refine (le.out _ _ _ _ h3.out).mono ?_; rintro e w' ⟨rfl, hw'⟩; have hw' := hw'.symm; subst hw') | (go_at_call 21; refine (reserved_s h3.out (i := 0) rfl).mono ?_; rintro e w' ⟨rfl, hw'⟩; have hw' := hw'.symm; subst hw') | (go_at_call 22; refine (size_s h3.out (i := 0) rfl).mono ?_; rintro e w' ⟨rfl, hw'⟩; have hw' := hw'.symm; subst hw'))
            go_roundw
            case rel => exact ⟨k + 1, pi, po, ci, co, mi, mo, r, a, o, [], by omega, rfl, rfl, rfl, by go_num, HMI.out, HMO.out, HA.out, by omega, by omega, by rw [← hq.out]; exact h3.out⟩
            case measure => simp [intOf]; omega
          | cons x xs =>
            rw [List.length_cons] at hmx hroom
            obtain ⟨q, hq⟩ : ∃ q : List Ev, Hid (q = xs.map ev) := ⟨_, rfl⟩
            obtain ⟨n, hn⟩ : ∃ n, Hid (n = q.length) := ⟨_, rfl⟩
            have hn1 : n = xs.length := by rw [hn.out, hq.out, List.length_map]
            obtain ⟨y, hy⟩ : ∃ y, Hid (y = bits .and .i64 x 15) := ⟨_, rfl⟩
            obtain ⟨o2n, ho2⟩ : ∃ o2n, Hid (o2n = mo + 1) := ⟨_, rfl⟩
            have ho3 : o2n = mo + 1 := ho2.out
            have tk : Calls Tryd.prog 18 #[.pointer (some ⟨M + 1, 0, none⟩)] wr fun e w' => e = .returned (.tuple #[.agg #[.int .i64 1, .int .i64 x, .int .i64 x, .int .i64 y], .bool true]) ∧ Apt w w' [obB M N o2n q r, obV pi ci a, obV po co o] := by
              rw [hy.out, ho2.out, hq.out]
              exact take_s hx.out (i := 0) rfl (by omega)
            have le : Hid (∀ (w1 : World) (l : List Ob) (f r : Nat), Apt w w1 (obB M N f q r :: l) → Calls Tryd.prog 20 #[.pointer (some ⟨M + 1, 0, none⟩)] w1 fun e w' => e = .returned (.int .i64 (n : Int)) ∧ w' = w1) := fun w1 l f r h => by
              have := len_s h (i := 0) rfl
              rwa [← hn.out] at this
            have G2 : o2n ≤ k + 1 ∧ o2n ≤ mi := by omega
            have F0 : decide ((r : Int) < 0) = false := by rw [decide_eq_false_iff_not]; omega
            have F1 : ((r : Int) != (r : Int)) = false := bne_eq_false_iff_eq.2 (by omega)
            have F2 : decide ((N : Int) < (n : Int) + ((r : Int))) = false := by rw [decide_eq_false_iff_not]; omega
            have F2p : ¬ (N : Int) < (n : Int) + ((r : Int)) := by omega
            have F3 : decide ((mi : Int) < (o2n : Int)) = false := by rw [decide_eq_false_iff_not]; omega
            have F3n : ¬ mi < o2n := by omega
            have F4 : ((n : Int) != (mi : Int) - (o2n : Int)) = false := by rw [bne_eq_false_iff_eq]; omega
            have F2n : ¬ N < n + r := by omega
            have F2m : decide (N < n + r) = false := decide_eq_false F2n
            clear ho3 hn1 hmx
            go_wp2_with (first | (go_at_call 18; refine tk.mono ?_; rintro e w2 ⟨rfl, h2⟩; clear tk hx; have h2 : Hid (Apt w w2 [obB M N o2n q r, obV pi ci a, obV po co o]) := h2; have hZ := Go.Deep.blk_alloc_new w2 (.cells #[.int .i64 0, .int .i64 0, .int .i64 0, .int .i64 0] 30)) | (refine wpList_store_ev rfl rfl (.tmp 13) (.tmp 93) rfl w2.heap.size rfl rfl hZ rfl ?_; intro w3 hE o3; have h3 : Hid (Apt w w3 [obB M N o2n q r, obV pi ci a, obV po co o]) := h2.out.more (o3.grown ((Grown.refl w2).alloc _ _) (fun k hk => by omega)); obtain ⟨E, hEE⟩ : ∃ E, Hid (E = w2.heap.size) := ⟨_, rfl⟩; rw [← hEE.out] at hE ⊢; obtain ⟨k0, k1, k2, k3, lE⟩ := ev_cells hE; clear h2 o3 hZ hE) | (at_builtin; refine wpList_append_vec rfl (.tmp 96) (.tmp 99) 22 rfl Tryd.underlying22 infoN rfl rfl (f := ivL o) (by rw [HMO.out]; exact (h3.out.all 2 _ rfl).grown ((Grown.refl _).alloc _ _)) rfl (by decide) (new_int _ _ _) (fun _ _ => rfl) (by omega) (by omega) ?_; intro p' c' w4 hv4 ho4 hp4; have h4 : Hid (Apt w w4 [obB M N o2n q r, obV pi ci a, obV p' c' (o ++ [x])]) := appended_s h3.out (i := 2) rfl (by rw [← HMO.out]; exact hv4) ho4 hp4; clear hv4 ho4 hp4 h3 k0 k1 k2 k3 lE; rw [← ho2.out]) | (go_at_call 20; refine (le.out _ _ _ _ h4.out).mono ?_; rintro e w' ⟨rfl, hw'⟩; have hw' := hw'.symm; subst hw') | (go_at_call 21; refine (reserved_s h4.out (i := 0) rfl).mono ?_; rintro e w' ⟨rfl, hw'⟩; have hw' := hw'.symm; subst hw') | (go_at_call 22; refine (size_s h4.out (i := 0) rfl).mono ?_; rintro e w' ⟨rfl, hw'⟩; have hw' := hw'.symm; subst hw'))
            go_roundw
            case rel => exact ⟨k + 1, pi, p', ci, c', mi, o2n, r, a, o ++ [x], xs, by omega, rfl, rfl, rfl, by go_num, HMI.out, by rw [ho2.out, HMO.out, List.length_append]; rfl, by rw [HA.out, List.append_assoc]; rfl, by omega, by omega, by rw [← hq.out]; exact h4.out⟩
            case measure => simp [intOf]; omega
      · obtain rfl : k = len1 := by omega
        have hd : decide ((k : Int) < (k : Int)) = false := by rw [decide_eq_false_iff_not]; omega
        have hvo : Vec wr 3 1 po mo co (ivL o) := by rw [HMO.out]; exact hx.all 2 _ rfl
        have hvi : Vec wr 3 1 pi mo ci (ivL o) := by
          have hv : Vec wr 3 1 pi mi ci (ivL a) := by rw [HMI.out]; exact hx.all 1 _ rfl
          refine (hv.take (by omega)).congr fun j hj => ?_
          have hjo : j < o.length := by have := HMO.out; omega
          rw [HA.out]
          simp [ivL, List.getElem?_append_left hjo]
        have it := ints_g hvo hvi (by omega)
        have hx : Hid (Apt w _ [obB M N mo (xs.map ev) r, obV pi ci a, obV po co o]) := hx
        have hvi2 : (pi = none ∧ mi = 0 ∧ ci = 0) ∨ ∃ B, pi = some ⟨B, 0, none⟩ ∧ mi ≤ ci := by
          have hv : Vec wr 3 1 pi mi ci (ivL a) := by rw [HMI.out]; exact hx.out.all 1 _ rfl
          rcases hv with h | ⟨B, cur, h1, _, h3, _⟩
          · exact .inl h
          · exact .inr ⟨B, h1, h3⟩
        clear hvo hvi
        rcases hvi2 with ⟨rfl, rfl, rfl⟩ | ⟨B, rfl, hci⟩
        · obtain rfl : mo = 0 := by omega
          clear hmx
          go_wp2_with (first | (go_at_call 25; refine it.mono ?_; rintro e w2 ⟨rfl, m, rfl⟩; clear it))
          go_ret
          exact ⟨rfl, (hx.out.drewN m).grown⟩
        · have hmm : mo ≤ mi := by omega
          have hmc : mo ≤ ci := by omega
          clear hmx
          go_wp2_with (first | (go_at_call 25; refine it.mono ?_; rintro e w2 ⟨rfl, m, rfl⟩; clear it))
          go_ret
          exact ⟨rfl, (hx.out.drewN m).grown⟩

/-! ### The row's step -/
set_option maxRecDepth 100000 in
theorem lifted (os : Os) (started : os.Started) (H : Type) (enc : TypeId × Value → H) :
    ReturnsInHanded {} Tryd.checked os 4 .any (fun w args => (Rows.writesOrderSpec.pre enc Tryd.prog Tryd.f4 [] false w args ∧ laidMetH Tryd.prog [("errors.errorType", Rows.laid_errors_errorType)] w) ∧ sizedMet enc Tryd.prog Tryd.f4 (OpenSpec.ofChange Rows.writesOrderSpec) false w args) (Rows.writesOrderSpec.post enc Tryd.prog Tryd.f4 false true false false) := by
  refine returns_shaped (C := Tryd.checked) (X := fun w _ => laidMetH Tryd.prog [("errors.errorType", Rows.laid_errors_errorType)] w) (fun _ _ _ hh h => h.of_heap hh) Tryd.own started (by kernel_rfl) Tryd.func4
    (ChangeSpec.witness_at (enc := enc) (C := Tryd.checked) (os := os) (X := fun w _ => laidMetH Tryd.prog [("errors.errorType", Rows.laid_errors_errorType)] w) false (laidWorld os) #[.int .i64 0, .slice none 0 0] 8 rfl (by kernel_rfl) (by kernel_rfl) (by kernel_rfl) (by kernel_rfl) (by kernel_rfl) (laidWorld_met os _)) ?_
  intro W base args ds gs before hval0 hW hcnd hL hsh
  have hval : ∀ (j : Nat) t v, Tryd.f4.params[j]? = some t → args[j]? = some v → Value.okWide Tryd.prog W .any base t v := hval0
  have hW' := hW
  obtain ⟨p, q, hA0, hV, rfl, hfz, hnd⟩ := hW
  have hA : DataW.TrodAll enc Tryd.prog W 0 (fun _ => true) true Tryd.f4.params.toList args.toList ds p := hA0
  rw [Tryd.params4] at hA hval
  obtain ⟨v0, vs0, d0, ds0, p0, q0, hargs, rfl, rfl, h0, r0⟩ := trodAll_cons hA
  obtain ⟨v1, vs1, d1, ds1, p1, q1, rfl, rfl, rfl, h1, r1⟩ := trodAll_cons r0
  obtain ⟨rfl, rfl, rfl⟩ := trodAll_nil r1
  obtain rfl : args = #[v0, v1] := by cases args; simp_all
  obtain ⟨rfl, rfl⟩ := trodVars_none hV
  obtain ⟨a0, rfl, rfl, rfl, w0⟩ := open_int Tryd.underlying3 (hval 0 3 v0 rfl rfl) h0
  obtain ⟨a1, len1, cap1, rfl⟩ := okWide_slice Tryd.underlying22 (hval 1 22 v1 rfl rfl)
  have k1 := h1
  have lt1 : ∀ x ∈ p1, x.block < W.heap.size := by obtain ⟨m, hm⟩ := k1; exact DataW.trod_lt m _ _ _ hm
  obtain ⟨z1, w1⟩ : ∃ zs, IsInts .i64 W a1 len1 cap1 zs := by
    obtain ⟨fuel, hf⟩ := h1
    rcases open_ints Tryd.underlying22 Tryd.underlying3 (by kernel_rfl) hf with ⟨hcs, _⟩ | ⟨x, l, c, zs, hcs, _, hl, hm, hz, _, hcell, hwz⟩
    · simp [Value.cells] at hcs
      obtain ⟨rfl, rfl, rfl⟩ := hcs
      exact ⟨[], .inl ⟨rfl, rfl, rfl, rfl⟩⟩
    · simp [Value.cells] at hcs
      obtain ⟨rfl, rfl, rfl⟩ := hcs
      exact ⟨zs, .inr ⟨_, rfl, hl, hm, by simpa using hz, hcell, hwz⟩⟩
  clear hA0 hval0
  refine (walk a0 a1 len1 cap1 z1 W (laid_of_met hL) hsh w0 w1).mono fun e W' ⟨he, bel⟩ => ?_
  subst he
  exact ⟨_, rfl, _, _, _, [], _, [], hW', trodAll_mk1 (shut_bool Tryd.underlying4 _), (trodAll_cons_mk (shut_int Tryd.underlying3 w0) (trodAll_cons_mk (grown_trod laidOut (by kernel_rfl) (of_decide_eq_true (by kernel_rfl)) k1 bel lt1) trodAll_mk0)), rfl, bel.frame _, fun h => by cases h⟩

theorem over : Rows.writesOrderRow.holds Tryd.pinned (OpenSpec.ofChange Rows.writesOrderSpec) :=
  OpenClaim.holds_of_wide 4 Tryd.f4 rfl rfl rfl rfl rfl rfl rfl ⟨rfl, rfl, rfl, rfl, rfl⟩ rfl rfl rfl rfl rfl (by kernel_rfl) Tryd.func4 (by kernel_rfl)
    (of_decide_eq_true (by kernel_rfl)) (by unfold Func.isWrapper; first | (rw [if_pos (by decide +kernel)]; kernel_rfl) | (rw [if_neg (by decide +kernel)]; exact ⟨rfl, rfl⟩))
    (fun os started H enc _ => lifted os started H enc)

/-- The card. -/
theorem proved : Rows.WritesOrderCardSaid :=
  Claim7.holds_tied_plain_at .later [] [.handle] true (true, "2722ad2fa73c23a01c9272db080880642b41ed3927dea9d586d89d666420e5f9") true
    over (fun _ h => by cases h) (by kernel_rfl) (fun _ h => by cases h) writesOrder_row_tie rfl ⟨rfl, rfl⟩ (by kernel_rfl) rfl
    (fun f fn hf hfn => by
      obtain rfl : f = 4 := Option.some.inj ((show Tryd.prog.funcNamed "pantry/pantrylaw14.WritesOrder" = some 4 by kernel_rfl).symm.trans hf) |>.symm
      obtain rfl : fn = Tryd.f4 := (Option.some.inj (Tryd.func4.symm.trans hfn)).symm
      exact ⟨by kernel_rfl, fun j t ht => noStandIn (by kernel_rfl) ht⟩)
    (by kernel_rfl)
end Go.Proofs.YtigmjgmkeoineaaDoor.writesOrder

namespace Go.Proofs.YtigmjgmkeoineaaDoor
/-- The given statement. -/
theorem writesOrder_holds : Rows.WritesOrderCardSaid := writesOrder.proved
#print axioms writesOrder_holds
end Go.Proofs.YtigmjgmkeoineaaDoor
