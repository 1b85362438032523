/-
  Proved: pantrylaw14.WritesWeigh returns true for every slice of weights and every number of takes: a buffer weighs what is committed and not taken (P14.1). Condition: errors.errorType holds what the program's text lays (tied by the card).
-/
import Derived.Test.YtigmjgmkeoineaaDoorRows
import Derived.WalkKit
import Derived.ProofKit
import Derived.OpenShut
import Derived.Test.YtigmjgmkeoineaaDoorWbSmall
import Derived.Test.YtigmjgmkeoineaaDoorWbRows
import Derived.ShutString
import Derived.ChangeOld
import Derived.Below
import Derived.Test.YtigmjgmkeoineaaDoorGenArgs
import Derived.Test.YtigmjgmkeoineaaDoorWgLaid
import Derived.Test.YtigmjgmkeoineaaDoorTie
import Derived.Test.YtigmjgmkeoineaaDoorCards
import Derived.SevenTiedAt
namespace Go.Proofs.YtigmjgmkeoineaaDoor.writesWeigh
open Go.ChangeShapes Go.WideShapes Go.ChangeAt Go.RowKit
set_option linter.unusedVariables false

theorem laidOut : laidOutB Tryd.prog = true := by kernel_rfl

/-! ### The walk: the law returns true, and writes nothing that was there -/
open Go.Proofs.YtigmjgmkeoineaaDoor.Us Go.Proofs.YtigmjgmkeoineaaDoor.Wb in set_option maxRecDepth 100000 in set_option maxHeartbeats 16000000 in
theorem walk (a0 : Option Addr) (len0 cap0 : Nat) (z0 : List Int) (a1 : Int) (w : World) (hl : Laid w) (hs : w.ShapedOpen Tryd.prog) (w0 : IsInts .i64 w a0 len0 cap0 z0) (w1 : (Lit.int .i64 a1).wf = true) :
    Calls Tryd.prog 6 #[.slice a0 len0 cap0, .int .i64 a1] w fun e w' => e = .returned (.bool true) ∧ Grown w w' := by
  clear hs
  have hk := keys_open w0
  clear w0 w1
  have sm := small_s w hl
  have e256 : ceilI 256 1 4096 = ((256 : Nat) : Int) := by decide +kernel
  have nw := fun (w1 : World) (g : Grown w w1) => new_s (Apt.none g) 256 (by decide) e256
  clear e256 hl
  unfold ptr at nw
  have hc : 200 < len0 ∨ (len0 ≤ 200 ∧ a1 < 0) ∨ (len0 ≤ 200 ∧ 0 ≤ a1) := by omega
  rcases hc with c | ⟨c, c'⟩ | ⟨c, c'⟩
  · clear hk
    have d1 : decide (200 < (len0 : Int)) = true := by rw [decide_eq_true_eq]; omega
    go_enter Tryd.func6, Tryd.ntmps6
    go_wp2_with (first | (go_at_call 7; refine sm.mono ?_; rintro e ws ⟨rfl, hgs⟩; clear sm) | (go_at_call 8; refine (nw _ hgs).mono ?_; rintro e wx ⟨M, rfl, hx⟩; clear nw; have hx : Hid (Apt w wx [obB M 256 0 [] 0]) := hx))
    go_ret
    exact ⟨rfl, hx.out.grown⟩
  · clear hk
    have d1 : decide (200 < (len0 : Int)) = false := by rw [decide_eq_false_iff_not]; omega
    go_enter Tryd.func6, Tryd.ntmps6
    go_wp2_with (first | (go_at_call 7; refine sm.mono ?_; rintro e ws ⟨rfl, hgs⟩; clear sm) | (go_at_call 8; refine (nw _ hgs).mono ?_; rintro e wx ⟨M, rfl, hx⟩; clear nw; have hx : Hid (Apt w wx [obB M 256 0 [] 0]) := hx))
    go_ret
    exact ⟨rfl, hx.out.grown⟩
  · obtain ⟨T, rfl⟩ : ∃ T : Nat, a1 = (T : Int) := ⟨a1.toNat, by omega⟩
    have d1 : decide (200 < (len0 : Int)) = false := by rw [decide_eq_false_iff_not]; omega
    have hkk : ∀ k, k < len0 → ∃ kb off, a0 = some ⟨kb, off, none⟩ ∧ ∀ W, Grown w W → W.cell? ⟨kb, off + k, none⟩ = some (.int .i64 (z0.getD k 0)) := fun k hlt => by
      rcases hk with h | ⟨kb, off, h1, h2, h3⟩
      · omega
      · exact ⟨kb, off, h1, fun W g => keys_cell (h3 k hlt) h2 g⟩
    have HKK : Hid (∀ k, k < len0 → ∃ kb off, a0 = some ⟨kb, off, none⟩ ∧ ∀ W, Grown w W → W.cell? ⟨kb, off + k, none⟩ = some (.int .i64 (z0.getD k 0))) := hkk
    clear hk hkk
    obtain ⟨mm, hmm⟩ : ∃ mm, Hid (mm = min T len0) := ⟨_, rfl⟩
    have hm1 : mm ≤ len0 := by rw [hmm.out]; omega
    have o1 : ∀ M w1 k, k < len0 → Apt w w1 [obB M 256 0 (wv z0 k) 0] → Calls Tryd.prog 11 #[.pointer (some ⟨M + 1, 0, none⟩)] w1 fun e w' => e = .returned .nilIface ∧ Apt w w' [obB M 256 0 (wv z0 k) 1] := fun M w1 k hk h => reserve_y h (i := 0) rfl (by rw [wv_len]; omega)
    have m1 : ∀ M w1 k, Apt w w1 [obB M 256 0 (wv z0 k) 1] → Calls Tryd.prog 14 #[.pointer (some ⟨M + 1, 0, none⟩), .agg #[.int .i64 1, .int .i64 ((k : Int) + 1), .int .i64 0, .int .i64 (z0.getD k 0)]] w1 fun e w' => e = .returned (.int .i64 0) ∧ Apt w w' [obB M 256 0 (wv z0 (k + 1)) 0] := fun M w1 k h => by
      rw [wv_succ]; exact commit_s h (i := 0) rfl ⟨1, (k : Int) + 1, 0, z0.getD k 0⟩ (by decide)
    have t1 : ∀ M w1 k, k < len0 → Apt w w1 [obB M 256 k ((wv z0 len0).drop k) 0] → Calls Tryd.prog 18 #[.pointer (some ⟨M + 1, 0, none⟩)] w1 fun e w' => e = .returned (.tuple #[.agg #[.int .i64 1, .int .i64 ((k : Int) + 1), .int .i64 0, .int .i64 (z0.getD k 0)], .bool true]) ∧ Apt w w' [obB M 256 (k + 1) ((wv z0 len0).drop (k + 1)) 0] := fun M w1 k hk h => by
      have := take_s h (i := 0) rfl (by omega)
      have e0 : 0 < ((wv z0 len0).drop k).length := by rw [List.length_drop, wv_len]; omega
      unfold nxF at this
      rw [wv_take z0 hk, decide_eq_true e0, if_pos e0, List.tail_drop] at this
      exact this
    go_enter Tryd.func6, Tryd.ntmps6
    go_wp2_with (first | (go_at_call 7; refine sm.mono ?_; rintro e ws ⟨rfl, hgs⟩; clear sm) | (go_at_call 8; refine (nw _ hgs).mono ?_; rintro e wx ⟨M, rfl, hx⟩; clear nw; have hx : Hid (Apt w wx [obB M 256 0 [] 0]) := hx))
    go_loopw [7] (fun i wr => ∃ k : Nat, k ≤ len0 ∧ i = .int .i64 (k : Int) ∧ Apt w wr [obB M 256 0 (wv z0 k) 0]) (fun i _ => len0 - (intOf i).toNat)
    case atStart => exact ⟨0, by omega, rfl, hx.out⟩
    case round =>
      clear hx
      obtain ⟨k, hk, rfl, hx⟩ := hrel
      have hx : Hid (Apt w _ [obB M 256 0 (wv z0 k) 0]) := hx
      by_cases hlt : k < len0
      · have hd : decide ((k : Int) < (len0 : Int)) = true := by rw [decide_eq_true_eq]; omega
        obtain ⟨kb, off, rfl, ck⟩ := HKK.out k hlt
        have m1 := fun M w1 => m1 M w1 k
        obtain ⟨z, hz⟩ : ∃ z, Hid (z = z0.getD k 0) := ⟨_, rfl⟩
        rw [← hz.out] at ck m1
        clear t1
        go_wp2_with (first | (go_at_call 11; refine (o1 _ _ _ hlt hx.out).mono ?_; rintro e w2 ⟨rfl, h2⟩; clear o1 hx; have h2 : Hid (Apt w w2 [obB M 256 0 (wv z0 k) 1]) := h2; have ckr := ck _ h2.out.grown; clear ck) | (go_at_call 14; refine (m1 _ _ h2.out).mono ?_; rintro e w4 ⟨rfl, h4⟩; clear m1 h2 ckr; have h4 : Hid (Apt w w4 [obB M 256 0 (wv z0 (k + 1)) 0]) := h4))
        go_roundw
        case rel => exact ⟨k + 1, by omega, by go_num, h4.out⟩
        case measure => simp [intOf]; omega
      · obtain rfl : k = len0 := by omega
        have hd : decide ((k : Int) < (k : Int)) = false := by rw [decide_eq_false_iff_not]; omega
        clear o1 m1
        go_wp2_with fail
        go_loopw [8, 9, 10] (fun i _ _ wr => ∃ j : Nat, j ≤ mm ∧ i = .int .i64 (j : Int) ∧ Apt w wr [obB M 256 j ((wv z0 k).drop j) 0]) (fun i _ _ _ => mm - (intOf i).toNat)
        case atStart => exact ⟨0, by omega, rfl, hx.out⟩
        case round =>
          clear hx
          obtain ⟨j, hj, rfl, hx⟩ := hrel
          have hx : Hid (Apt w _ [obB M 256 j ((wv z0 k).drop j) 0]) := hx
          by_cases hlt2 : j < mm
          · have hjk : j < k := by omega
            have hd2 : decide ((j : Int) < (k : Int)) = true := by rw [decide_eq_true_eq]; omega
            have hd3 : decide ((j : Int) < (T : Int)) = true := by have := hmm.out; rw [decide_eq_true_eq]; omega
            have hjT : j < T := by have := hmm.out; omega
            have hjT2 : decide (j < T) = true := decide_eq_true hjT
            obtain ⟨kb, off, rfl, ck⟩ := HKK.out j hjk
            have t1 := fun M w1 => t1 M w1 j hjk
            obtain ⟨z, hz⟩ : ∃ z, Hid (z = z0.getD j 0) := ⟨_, rfl⟩
            rw [← hz.out] at ck t1
            have hn1 : ((j : Int) + 1 != (j : Int) + 1) = false := by simp
            have hn2 : (z != z) = false := by simp
            go_wp2_with (first | (go_at_call 18; refine (t1 _ _ hx.out).mono ?_; rintro e w2 ⟨rfl, h2⟩; clear t1 hx; have h2 : Hid (Apt w w2 [obB M 256 (j + 1) ((wv z0 k).drop (j + 1)) 0]) := h2; have hZ := Go.Deep.blk_alloc_new w2 (.cells #[.int .i64 0, .int .i64 0, .int .i64 0, .int .i64 0] 30)) | (refine wpList_store_ev rfl rfl (.tmp 9) (.tmp 66) rfl w2.heap.size rfl rfl hZ rfl ?_; intro w3 hE o3; have h3 : Hid (Apt w w3 [obB M 256 (j + 1) ((wv z0 k).drop (j + 1)) 0]) := h2.out.more (o3.grown ((Grown.refl w2).alloc _ _) (fun k hk => by omega)); obtain ⟨E, hEE⟩ : ∃ E, Hid (E = w2.heap.size) := ⟨_, rfl⟩; rw [← hEE.out] at hE ⊢; obtain ⟨k0, k1, k2, k3, lE⟩ := ev_cells hE; have ckr := ck _ h3.out.grown; clear h2 o3 hZ hE ck))
            go_quiet (fail)
            go_wp2_with fail
            go_roundw
            case rel => exact ⟨j + 1, by omega, by go_num, h3.out.drewN _⟩
            case measure => simp [intOf]; omega
          · obtain rfl : j = mm := by omega
            clear t1
            rcases (by omega : T < k ∨ T = k ∨ k < T) with hTk | hTk | hTk
            · obtain rfl : j = T := by have := hmm.out; omega
              have hq2 : decide ((j : Int) < (j : Int)) = false := by rw [decide_eq_false_iff_not]; omega
              have ej : ((wv z0 k).drop j).length = k - j := by rw [List.length_drop, wv_len]
              have le1 : j ≤ k := by omega
              go_wp2_with fail
              go_loopw [11, 12] (fun s i wq => ∃ n : Nat, j ≤ n ∧ n ≤ k ∧ i = .int .i64 (n : Int) ∧ s = .int .i64 (sumF z0 j n) ∧ wq = wr) (fun _ i _ => k - (intOf i).toNat)
              case atStart => exact ⟨j, by omega, by omega, rfl, by rw [sumF_zero], rfl⟩
              case round =>
                obtain ⟨n, hn1, hn2, rfl, rfl, hww⟩ := hrel
                subst hww
                have hbd := sumF_bd z0 j n
                by_cases hlt3 : n < k
                · have hd3 : decide ((n : Int) < (k : Int)) = true := by rw [decide_eq_true_eq]; omega
                  obtain ⟨kb, off, rfl, ck⟩ := HKK.out n hlt3
                  have HS := sumF_succ z0 hn1
                  obtain ⟨S, hS⟩ : ∃ S, Hid (S = sumF z0 j n) := ⟨_, rfl⟩
                  obtain ⟨z, hz⟩ : ∃ z, Hid (z = z0.getD n 0) := ⟨_, rfl⟩
                  rw [← hz.out] at ck HS
                  rw [← hS.out] at HS hbd ⊢
                  have HS : Hid (sumF z0 j (n + 1) = S + min (max z 0) 2147483648) := HS
                  have ckr := ck _ hx.out.grown
                  clear ck ej
                  go_wp2_with fail
                  all_goals
                    go_roundw
                    case rel => exact ⟨n + 1, by omega, by omega, by go_num, by rw [HS.out]; congr 1; omega, trivial⟩
                    case measure => simp [intOf]; omega
                · obtain rfl : k = n := by omega
                  have hd3 : decide ((k : Int) < (k : Int)) = false := by rw [decide_eq_false_iff_not]; omega
                  have we := weight_s hx.out (i := 0) rfl
                  rw [show wsum ((wv z0 k).drop j) = sumF z0 j k from rfl] at we
                  have le := len_s hx.out (i := 0) rfl
                  rw [ej] at le
                  obtain ⟨S, hS⟩ : ∃ S, Hid (S = sumF z0 j k) := ⟨_, rfl⟩
                  rw [← hS.out] at we ⊢
                  have hss : (S == S) = true := by simp
                  obtain ⟨m, hm⟩ : ∃ m, Hid (m = k - j) := ⟨_, rfl⟩
                  rw [← hm.out] at le
                  have hm2 : ((k : Int) - (j : Int) == (m : Int)) = true := by have := hm.out; simp; omega
                  have hm3 : ((m : Int) == (k : Int) - (j : Int)) = true := by have := hm.out; simp; omega
                  have hm4 : (m : Int) = (k : Int) - (j : Int) := by have := hm.out; omega
                  clear ej hbd
                  unfold ptr at we le
                  go_wp2_with (first | (go_at_call 23; refine we.mono ?_; rintro e w' ⟨rfl, hw'⟩; have hw' := hw'.symm; subst hw') | (go_at_call 20; refine le.mono ?_; rintro e w' ⟨rfl, hw'⟩; have hw' := hw'.symm; subst hw'))
                  go_ret
                  exact ⟨rfl, hx.out.grown⟩
            · obtain rfl : j = k := by have := hmm.out; omega
              obtain rfl : T = j := hTk
              have hq2 : decide ((T : Int) < (T : Int)) = false := by rw [decide_eq_false_iff_not]; omega
              have ej : ((wv z0 T).drop T).length = T - T := by rw [List.length_drop, wv_len]
              have le1 : T ≤ T := by omega
              go_wp2_with fail
              go_loopw [11, 12] (fun s i wq => ∃ n : Nat, T ≤ n ∧ n ≤ T ∧ i = .int .i64 (n : Int) ∧ s = .int .i64 (sumF z0 T n) ∧ wq = wr) (fun _ i _ => T - (intOf i).toNat)
              case atStart => exact ⟨T, by omega, by omega, rfl, by rw [sumF_zero], rfl⟩
              case round =>
                obtain ⟨n, hn1, hn2, rfl, rfl, hww⟩ := hrel
                subst hww
                have hbd := sumF_bd z0 T n
                by_cases hlt3 : n < T
                · have hd3 : decide ((n : Int) < (T : Int)) = true := by rw [decide_eq_true_eq]; omega
                  obtain ⟨kb, off, rfl, ck⟩ := HKK.out n hlt3
                  have HS := sumF_succ z0 hn1
                  obtain ⟨S, hS⟩ : ∃ S, Hid (S = sumF z0 T n) := ⟨_, rfl⟩
                  obtain ⟨z, hz⟩ : ∃ z, Hid (z = z0.getD n 0) := ⟨_, rfl⟩
                  rw [← hz.out] at ck HS
                  rw [← hS.out] at HS hbd ⊢
                  have HS : Hid (sumF z0 T (n + 1) = S + min (max z 0) 2147483648) := HS
                  have ckr := ck _ hx.out.grown
                  clear ck ej
                  go_wp2_with fail
                  all_goals
                    go_roundw
                    case rel => exact ⟨n + 1, by omega, by omega, by go_num, by rw [HS.out]; congr 1; omega, trivial⟩
                    case measure => simp [intOf]; omega
                · obtain rfl : T = n := by omega
                  have hd3 : decide ((T : Int) < (T : Int)) = false := by rw [decide_eq_false_iff_not]; omega
                  have we := weight_s hx.out (i := 0) rfl
                  rw [show wsum ((wv z0 T).drop T) = sumF z0 T T from rfl] at we
                  have le := len_s hx.out (i := 0) rfl
                  rw [ej] at le
                  obtain ⟨S, hS⟩ : ∃ S, Hid (S = sumF z0 T T) := ⟨_, rfl⟩
                  rw [← hS.out] at we ⊢
                  have hss : (S == S) = true := by simp
                  obtain ⟨m, hm⟩ : ∃ m, Hid (m = T - T) := ⟨_, rfl⟩
                  rw [← hm.out] at le
                  have hm2 : ((T : Int) - (T : Int) == (m : Int)) = true := by have := hm.out; simp; omega
                  have hm3 : ((m : Int) == (T : Int) - (T : Int)) = true := by have := hm.out; simp; omega
                  have hm4 : m = 0 := by have := hm.out; omega
                  clear ej hbd
                  unfold ptr at we le
                  go_wp2_with (first | (go_at_call 23; refine we.mono ?_; rintro e w' ⟨rfl, hw'⟩; have hw' := hw'.symm; subst hw') | (go_at_call 20; refine le.mono ?_; rintro e w' ⟨rfl, hw'⟩; have hw' := hw'.symm; subst hw'))
                  go_ret
                  exact ⟨rfl, hx.out.grown⟩
            · obtain rfl : j = k := by have := hmm.out; omega
              have hq2 : decide ((j : Int) < (j : Int)) = false := by rw [decide_eq_false_iff_not]; omega
              have hq3 : decide ((j : Int) < (T : Int)) = true := by rw [decide_eq_true_eq]; omega
              have hq4 : decide (j < T) = true := decide_eq_true hTk
              have ej : ((wv z0 j).drop j).length = j - j := by rw [List.length_drop, wv_len]
              have le1 : j ≤ j := by omega
              go_wp2_with fail
              go_loopw [11, 12] (fun s i wq => ∃ n : Nat, j ≤ n ∧ n ≤ j ∧ i = .int .i64 (n : Int) ∧ s = .int .i64 (sumF z0 j n) ∧ wq = wr) (fun _ i _ => j - (intOf i).toNat)
              case atStart => exact ⟨j, by omega, by omega, rfl, by rw [sumF_zero], rfl⟩
              case round =>
                obtain ⟨n, hn1, hn2, rfl, rfl, hww⟩ := hrel
                subst hww
                have hbd := sumF_bd z0 j n
                by_cases hlt3 : n < j
                · have hd3 : decide ((n : Int) < (j : Int)) = true := by rw [decide_eq_true_eq]; omega
                  obtain ⟨kb, off, rfl, ck⟩ := HKK.out n hlt3
                  have HS := sumF_succ z0 hn1
                  obtain ⟨S, hS⟩ : ∃ S, Hid (S = sumF z0 j n) := ⟨_, rfl⟩
                  obtain ⟨z, hz⟩ : ∃ z, Hid (z = z0.getD n 0) := ⟨_, rfl⟩
                  rw [← hz.out] at ck HS
                  rw [← hS.out] at HS hbd ⊢
                  have HS : Hid (sumF z0 j (n + 1) = S + min (max z 0) 2147483648) := HS
                  have ckr := ck _ hx.out.grown
                  clear ck ej
                  go_wp2_with fail
                  all_goals
                    go_roundw
                    case rel => exact ⟨n + 1, by omega, by omega, by go_num, by rw [HS.out]; congr 1; omega, trivial⟩
                    case measure => simp [intOf]; omega
                · obtain rfl : j = n := by omega
                  have hd3 : decide ((j : Int) < (j : Int)) = false := by rw [decide_eq_false_iff_not]; omega
                  have we := weight_s hx.out (i := 0) rfl
                  rw [show wsum ((wv z0 j).drop j) = sumF z0 j j from rfl] at we
                  have le := len_s hx.out (i := 0) rfl
                  rw [ej] at le
                  obtain ⟨S, hS⟩ : ∃ S, Hid (S = sumF z0 j j) := ⟨_, rfl⟩
                  rw [← hS.out] at we ⊢
                  have hss : (S == S) = true := by simp
                  obtain ⟨m, hm⟩ : ∃ m, Hid (m = j - j) := ⟨_, rfl⟩
                  rw [← hm.out] at le
                  have hm2 : ((j : Int) - (j : Int) == (m : Int)) = true := by have := hm.out; simp; omega
                  have hm3 : ((m : Int) == (j : Int) - (j : Int)) = true := by have := hm.out; simp; omega
                  have hm4 : m = 0 := by have := hm.out; omega
                  clear ej hbd
                  unfold ptr at we le
                  go_wp2_with (first | (go_at_call 23; refine we.mono ?_; rintro e w' ⟨rfl, hw'⟩; have hw' := hw'.symm; subst hw') | (go_at_call 20; refine le.mono ?_; rintro e w' ⟨rfl, hw'⟩; have hw' := hw'.symm; subst hw'))
                  go_ret
                  exact ⟨rfl, hx.out.grown⟩

/-! ### The row's step -/
set_option maxRecDepth 100000 in
theorem lifted (os : Os) (started : os.Started) (H : Type) (enc : TypeId × Value → H) :
    ReturnsInHanded {} Tryd.checked os 6 .any (fun w args => (Rows.writesWeighSpec.pre enc Tryd.prog Tryd.f6 [] false w args ∧ laidMetH Tryd.prog [("errors.errorType", Rows.laid_errors_errorType)] w) ∧ sizedMet enc Tryd.prog Tryd.f6 (OpenSpec.ofChange Rows.writesWeighSpec) false w args) (Rows.writesWeighSpec.post enc Tryd.prog Tryd.f6 false true false false) := by
  refine returns_shaped (C := Tryd.checked) (X := fun w _ => laidMetH Tryd.prog [("errors.errorType", Rows.laid_errors_errorType)] w) (fun _ _ _ hh h => h.of_heap hh) Tryd.own started (by kernel_rfl) Tryd.func6
    (ChangeSpec.witness_at (enc := enc) (C := Tryd.checked) (os := os) (X := fun w _ => laidMetH Tryd.prog [("errors.errorType", Rows.laid_errors_errorType)] w) false (laidWorld os) #[.slice none 0 0, .int .i64 0] 8 rfl (by kernel_rfl) (by kernel_rfl) (by kernel_rfl) (by kernel_rfl) (by kernel_rfl) (laidWorld_met os _)) ?_
  intro W base args ds gs before hval0 hW hcnd hL hsh
  have hval : ∀ (j : Nat) t v, Tryd.f6.params[j]? = some t → args[j]? = some v → Value.okWide Tryd.prog W .any base t v := hval0
  have hW' := hW
  obtain ⟨p, q, hA0, hV, rfl, hfz, hnd⟩ := hW
  have hA : DataW.TrodAll enc Tryd.prog W 0 (fun _ => true) true Tryd.f6.params.toList args.toList ds p := hA0
  rw [Tryd.params6] at hA hval
  obtain ⟨v0, vs0, d0, ds0, p0, q0, hargs, rfl, rfl, h0, r0⟩ := trodAll_cons hA
  obtain ⟨v1, vs1, d1, ds1, p1, q1, rfl, rfl, rfl, h1, r1⟩ := trodAll_cons r0
  obtain ⟨rfl, rfl, rfl⟩ := trodAll_nil r1
  obtain rfl : args = #[v0, v1] := by cases args; simp_all
  obtain ⟨rfl, rfl⟩ := trodVars_none hV
  obtain ⟨a0, len0, cap0, rfl⟩ := okWide_slice Tryd.underlying22 (hval 0 22 v0 rfl rfl)
  have k0 := h0
  have lt0 : ∀ x ∈ p0, x.block < W.heap.size := by obtain ⟨m, hm⟩ := k0; exact DataW.trod_lt m _ _ _ hm
  obtain ⟨z0, w0⟩ : ∃ zs, IsInts .i64 W a0 len0 cap0 zs := by
    obtain ⟨fuel, hf⟩ := h0
    rcases open_ints Tryd.underlying22 Tryd.underlying3 (by kernel_rfl) hf with ⟨hcs, _⟩ | ⟨x, l, c, zs, hcs, _, hl, hm, hz, _, hcell, hwz⟩
    · simp [Value.cells] at hcs
      obtain ⟨rfl, rfl, rfl⟩ := hcs
      exact ⟨[], .inl ⟨rfl, rfl, rfl, rfl⟩⟩
    · simp [Value.cells] at hcs
      obtain ⟨rfl, rfl, rfl⟩ := hcs
      exact ⟨zs, .inr ⟨_, rfl, hl, hm, by simpa using hz, hcell, hwz⟩⟩
  obtain ⟨a1, rfl, rfl, rfl, w1⟩ := open_int Tryd.underlying3 (hval 1 3 v1 rfl rfl) h1
  clear hA0 hval0
  refine (walk a0 len0 cap0 z0 a1 W (laid_of_met hL) hsh w0 w1).mono fun e W' ⟨he, bel⟩ => ?_
  subst he
  exact ⟨_, rfl, _, _, _, [], _, [], hW', trodAll_mk1 (shut_bool Tryd.underlying4 _), (trodAll_cons_mk (grown_trod laidOut (by kernel_rfl) (of_decide_eq_true (by kernel_rfl)) k0 bel lt0) (trodAll_cons_mk (shut_int Tryd.underlying3 w1) trodAll_mk0)), rfl, bel.frame _, fun h => by cases h⟩

theorem over : Rows.writesWeighRow.holds Tryd.pinned (OpenSpec.ofChange Rows.writesWeighSpec) :=
  OpenClaim.holds_of_wide 6 Tryd.f6 rfl rfl rfl rfl rfl rfl rfl ⟨rfl, rfl, rfl, rfl, rfl⟩ rfl rfl rfl rfl rfl (by kernel_rfl) Tryd.func6 (by kernel_rfl)
    (of_decide_eq_true (by kernel_rfl)) (by unfold Func.isWrapper; first | (rw [if_pos (by decide +kernel)]; kernel_rfl) | (rw [if_neg (by decide +kernel)]; exact ⟨rfl, rfl⟩))
    (fun os started H enc _ => lifted os started H enc)

/-- The card. -/
theorem proved : Rows.WritesWeighCardSaid :=
  Claim7.holds_tied_plain_at .later [] [.handle] true (true, "2722ad2fa73c23a01c9272db080880642b41ed3927dea9d586d89d666420e5f9") true
    over (fun _ h => by cases h) (by kernel_rfl) (fun _ h => by cases h) writesWeigh_row_tie rfl ⟨rfl, rfl⟩ (by kernel_rfl) rfl
    (fun f fn hf hfn => by
      obtain rfl : f = 6 := Option.some.inj ((show Tryd.prog.funcNamed "pantry/pantrylaw14.WritesWeigh" = some 6 by kernel_rfl).symm.trans hf) |>.symm
      obtain rfl : fn = Tryd.f6 := (Option.some.inj (Tryd.func6.symm.trans hfn)).symm
      exact ⟨by kernel_rfl, fun j t ht => noStandIn (by kernel_rfl) ht⟩)
    (by kernel_rfl)
end Go.Proofs.YtigmjgmkeoineaaDoor.writesWeigh

namespace Go.Proofs.YtigmjgmkeoineaaDoor
/-- The given statement. -/
theorem writesWeigh_holds : Rows.WritesWeighCardSaid := writesWeigh.proved
#print axioms writesWeigh_holds
end Go.Proofs.YtigmjgmkeoineaaDoor
