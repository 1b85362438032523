/-
  Proved: pantrylaw12.RingOrder returns true for every size and every slice of numbers: what is taken is what was offered, and not lost, in its order, and what was offered is taken, held, or lost (P12.3, P12.4). No condition.
-/
import Derived.Test.YtkkpopfmknmbgaaRows
import Derived.WalkKit
import Derived.ProofKit
import Derived.OpenShut
import Derived.Test.YtkkpopfmknmbgaaRgSep
import Derived.ShutString
import Derived.ChangeOld
import Derived.Below
namespace Go.Proofs.Ytkkpopfmknmbgaa.ringOrder
open Go.ChangeShapes Go.WideShapes Go.ChangeAt Go.RowKit
open Go.ChangeMaps (open_string shut_string)
set_option linter.unusedVariables false

theorem own : ownKnob Try.prog.godebug = none := by kernel_rfl
theorem laidOut : laidOutB Try.prog = true := by kernel_rfl

/-- WHAT THE WALK IS TOLD OF A SLICE OF INTEGERS THAT CAME IN: it is nil; or it leads to a row of 'cap' cells, the numbers 'zs' (the first 'len' are its elements, the rest its spare room), each fitting its kind. -/
def IsRow (k : IntKind) (w : World) (a : Option Addr) (len cap : Nat) (zs : List Int) : Prop :=
  (a = none ∧ len = 0 ∧ cap = 0 ∧ zs = []) ∨
  ∃ x, a = some x ∧ len ≤ cap ∧ cap ≤ maxLen ∧ zs.length = cap ∧ (∀ i, i < zs.length → w.cell? (x.add i) = some (.int k (zs.getD i 0))) ∧ ∀ n ∈ zs, (Lit.int k n).wf = true

/-! ### STEP 1: THE WALK: the Go text returns true, AND WRITES NOTHING THAT WAS THERE: 'Below w.heap.size w w'' (Derived/Below.lean: '.refl', '.alloc', '.drew', '.setCell' at a new block, '.trans'). Open each 'IsRow' by 'rcases' AHEAD of 'go_enter'; part every test ahead of the walk. -/
open Go.Proofs.Ytkkpopfmknmbgaa.Rn in set_option maxRecDepth 20000 in set_option maxHeartbeats 8000000 in
theorem walk (a0 : Int) (a1 : Option Addr) (len1 cap1 : Nat) (z1 : List Int) (w : World) (w0 : (Lit.int .i64 a0).wf = true) (w1 : IsRow .i64 w a1 len1 cap1 z1) :
    Calls Try.prog 4 #[.int .i64 a0, .slice a1 len1 cap1] w fun e w' => e = .returned (.bool true) ∧ Grown w w' := by
  have hk := keys_open w1
  clear w0 w1
  obtain ⟨N, n1, n2, e, _, _, _⟩ := size_all a0
  have nw := fun (w1 : World) (g : Grown w w1) => new_s (Apt.none g) a0 n1 n2 e
  clear e
  unfold ptr at nw
  by_cases hl : 300 < len1
  · clear hk
    have d1 : decide (300 < (len1 : Int)) = true := by rw [decide_eq_true_eq]; omega
    go_enter Try.func4, Try.ntmps4
    go_wp2_with (first | (go_at_call 8; refine (small_s _).mono ?_; rintro e ws ⟨rfl, hgs⟩) | (go_at_call 9; refine (nw _ hgs).mono ?_; rintro e wx ⟨b, rfl, hx⟩; clear nw hgs; have hx : Hid (Apt w wx [obR b N [] 0]) := hx))
    go_ret
    exact ⟨rfl, hx.out.grown⟩
  · have d1 : decide (300 < (len1 : Int)) = false := by rw [decide_eq_false_iff_not]; omega
    have hlen : len1 ≤ 300 := by omega
    have hkk : ∀ k, k < len1 → ∃ kb off, a1 = some ⟨kb, off, none⟩ ∧ ∀ W, Grown w W → W.cell? ⟨kb, off + k, none⟩ = some (.int .i64 (z1.getD k 0)) := fun k hlt => by
      rcases hk with h | ⟨kb, off, h1, h2, h3⟩
      · omega
      · exact ⟨kb, off, h1, fun W g => keys_cell (h3 k hlt) h2 g⟩
    clear hk hl
    go_enter Try.func4, Try.ntmps4
    go_wp2_with (first | (go_at_call 8; refine (small_s _).mono ?_; rintro e ws ⟨rfl, hgs⟩) | (go_at_call 9; refine (nw _ hgs).mono ?_; rintro e wx ⟨b, rfl, hx⟩; clear nw hgs; have hx : Hid (Apt w wx [obR b N [] 0]) := hx))
    go_loopw [7, 8, 9, 10, 11, 12] (fun vi vo vf i _ _ wr => ∃ (k : Nat) (pi po : Option Addr) (ci co mi mo : Nat) (a o q : List Int) (L F : Int), k ≤ len1 ∧ vi = .slice pi mi ci ∧ vo = .slice po mo co ∧ vf = .int .i64 F ∧ i = .int .i64 (k : Int) ∧ mi = a.length ∧ mo = o.length ∧ a = o ++ q ∧ F = (mo : Int) + (q.length : Int) + L ∧ 0 ≤ L ∧ L ≤ (k : Int) ∧ mi ≤ k ∧ Apt w wr [obR b N q L, obV pi ci a, obV po co o]) (fun _ _ _ i _ _ _ => len1 - (intOf i).toNat)
    case atStart => exact ⟨0, none, none, 0, 0, 0, 0, [], [], [], 0, 0, by omega, rfl, rfl, rfl, rfl, rfl, rfl, rfl, by simp, by omega, by omega, by omega, (hx.out.add (u := obV none 0 []) (Grown.refl _) (Vec.nil _ _ _ _) fun x hx => absurd hx In.no).add (u := obV none 0 []) (Grown.refl _) (Vec.nil _ _ _ _) fun x hx => absurd hx In.no⟩
    case round =>
      clear hx
      obtain ⟨k, pi, po, ci, co, mi, mo, a, o, q, L, F, hk, rfl, rfl, rfl, rfl, hmi, hmo, ha, hF, hL0, hL, hmk, hx⟩ := hrel
      have hx : Hid (Apt w _ [obR b N q L, obV pi ci a, obV po co o]) := hx
      have HMI : Hid (mi = a.length) := hmi
      have HMO : Hid (mo = o.length) := hmo
      have HA : Hid (a = o ++ q) := ha
      have HF : Hid (F = (mo : Int) + (q.length : Int) + L) := hF
      have HS : Hid (mi = mo + q.length) := (by rw [hmi, ha, List.length_append, hmo] : mi = mo + q.length)
      have HQ : Hid (q.length ≤ N) := (room hx.out (i := 0) rfl).1
      have hF1 : 0 ≤ F := by omega
      have hF2 : F ≤ 900 := by have := HS.out; omega
      have hmo2 : mo ≤ k := by have := HS.out; omega
      have hL2 : 0 ≤ L ∧ L ≤ 1000000 := by omega
      have hLk : Hid (L ≤ (k : Int)) := hL
      clear hmi hmo ha hF hL
      by_cases hlt : k < len1
      · have hd : decide ((k : Int) < (len1 : Int)) = true := by rw [decide_eq_true_eq]; omega
        obtain ⟨kb, off, rfl, ck⟩ := hkk k hlt
        obtain ⟨z, hz⟩ : ∃ z, z = z1.getD k 0 := ⟨_, rfl⟩
        rw [← hz] at ck
        have ckr := ck _ hx.out.grown
        clear hz hkk
        by_cases hz0 : 0 ≤ z
        · have hz0d : decide (0 ≤ z) = true := decide_eq_true hz0
          have of := offer_s hx.out (i := 0) rfl z hL2
          unfold ptr at of
          by_cases hroom : q.length < N
          · -- room
            unfold offQ offL at of
            rw [if_pos hroom, if_pos hroom, decide_eq_true hroom] at of
            obtain ⟨q', hq'⟩ : ∃ q', Hid (q' = q ++ [z]) := ⟨_, rfl⟩
            rw [← hq'.out] at of
            have el : q'.length = q.length + 1 := by rw [hq'.out]; simp
            have e1 : (F + 1 != (mo : Int) + (q'.length : Int) + L) = false := by
              have := HF.out
              rw [bne_eq_false_iff_eq]; omega
            have e2 : decide ((N : Int) < (q'.length : Int)) = false := by rw [decide_eq_false_iff_not]; omega
            have e2n : decide (N < q'.length) = false := by rw [decide_eq_false_iff_not]; omega
            have e2p : q'.length ≤ N := by rw [decide_eq_false_iff_not] at e2n; omega
            have E3 : Hid (F + 1 = (mo : Int) + (q'.length : Int) + L) := by show _ = _; have := HF.out; omega
            have e4 : q'.length ≤ 301 := by have := HS.out; omega
            clear el hroom
            go_wp2_with (first
              | (go_at_call 16; refine of.mono ?_; rintro e w2 ⟨rfl, h2⟩; clear of hx; have h2 : Hid (Apt w w2 [obR b N q' L, obV pi ci a, obV po co o]) := h2; clear ckr; have ckr := ck _ h2.out.grown)
              | (at_builtin; refine wpList_append_vec rfl (.tmp 47) (.tmp 52) 22 rfl Try.underlying22 infoN rfl rfl (f := ivL a) (by rw [HMI.out]; exact (h2.out.all 1 _ rfl).grown ((Grown.refl _).alloc _ _)) rfl (by decide) (new_int _ _ _) (fun _ _ => rfl) (by omega) (by omega) ?_; intro p' c' w3 hv3 ho3 hp3; have h3 : Hid (Apt w w3 [obR b N q' L, obV p' c' (a ++ [z]), obV po co o]) := appended_s h2.out (i := 1) rfl (by rw [← HMI.out]; exact hv3) ho3 hp3; clear hv3 ho3 hp3 ckr; obtain ⟨m2, hm2⟩ : ∃ m2, Hid (m2 = mi + 1) := ⟨_, rfl⟩; rw [← hm2.out])
              | (go_at_call 18; refine (len_s h3.out (i := 0) rfl).mono ?_; rintro e w' ⟨rfl, hw'⟩; have hw' := hw'.symm; subst hw') | (go_at_call 19; refine (lost_s h3.out (i := 0) rfl).mono ?_; rintro e w' ⟨rfl, hw'⟩; have hw' := hw'.symm; subst hw') | (go_at_call 20; refine (size_s h3.out (i := 0) rfl).mono ?_; rintro e w' ⟨rfl, hw'⟩; have hw' := hw'.symm; subst hw'))
            go_roundw
            case rel => exact ⟨k + 1, p', po, c', co, m2, mo, a ++ [z], o, q', L, F + 1, by omega, rfl, rfl, by go_num, by go_num, by rw [hm2.out, HMI.out]; simp, HMO.out, by rw [hq'.out, HA.out, List.append_assoc], E3.out, by omega, by have := hLk.out; omega, by rw [hm2.out]; omega, h3.out⟩
            case measure => simp [intOf]; omega
          · unfold offQ offL at of
            rw [if_neg hroom, if_neg hroom, decide_eq_false hroom] at of
            obtain ⟨L', hL'⟩ : ∃ L', Hid (L' = L + 1) := ⟨_, rfl⟩
            rw [← hL'.out] at of
            have e1 : (F + 1 != (mo : Int) + (q.length : Int) + L') = false := by
              have := HF.out; have := hL'.out
              rw [bne_eq_false_iff_eq]; omega
            have e2 : decide ((N : Int) < (q.length : Int)) = false := by have := HQ.out; rw [decide_eq_false_iff_not]; omega
            have e2n : decide (N < q.length) = false := by have := HQ.out; rw [decide_eq_false_iff_not]; omega
            have e2p : q.length ≤ N := by rw [decide_eq_false_iff_not] at e2n; omega
            have E3 : Hid (F + 1 = (mo : Int) + (q.length : Int) + L') := by show _ = _; have := HF.out; have := hL'.out; omega
            have e4 : q.length ≤ 301 := by have := HS.out; omega
            have e5 : 0 ≤ L' ∧ L' ≤ 1000 := by have := hL'.out; have := hLk.out; omega
            clear hroom
            go_wp2_with (first
              | (go_at_call 16; refine of.mono ?_; rintro e w2 ⟨rfl, h2⟩; clear of hx ckr ck; have h2 : Hid (Apt w w2 [obR b N q L', obV pi ci a, obV po co o]) := h2)
              | (go_at_call 18; refine (len_s h2.out (i := 0) rfl).mono ?_; rintro e w' ⟨rfl, hw'⟩; have hw' := hw'.symm; subst hw') | (go_at_call 19; refine (lost_s h2.out (i := 0) rfl).mono ?_; rintro e w' ⟨rfl, hw'⟩; have hw' := hw'.symm; subst hw') | (go_at_call 20; refine (size_s h2.out (i := 0) rfl).mono ?_; rintro e w' ⟨rfl, hw'⟩; have hw' := hw'.symm; subst hw'))
            go_roundw
            case rel => exact ⟨k + 1, pi, po, ci, co, mi, mo, a, o, q, L', F + 1, by omega, rfl, rfl, by go_num, by go_num, HMI.out, HMO.out, HA.out, E3.out, by omega, by have := hLk.out; have := hL'.out; omega, by omega, h2.out⟩
            case measure => simp [intOf]; omega
        · have hz0d : decide (0 ≤ z) = false := decide_eq_false hz0
          cases hev : (bits .and .i64 z 1 == 0) with
          | true =>
            have dr := drain_s hx.out (i := 0) rfl
            unfold ptr at dr
            obtain ⟨n, hn⟩ : ∃ n, Hid (n = q.length) := ⟨_, rfl⟩
            rw [← hn.out] at dr
            have e4 : n ≤ 301 := by have := HS.out; have := hn.out; omega
            obtain ⟨q', hq'⟩ : ∃ q' : List Int, Hid (q' = []) := ⟨_, rfl⟩
            rw [← hq'.out] at dr
            have e6 : Hid (q'.length = 0) := by show _ = _; rw [hq'.out]; rfl
            have e2 : decide ((N : Int) < (q'.length : Int)) = false := by have := e6.out; rw [decide_eq_false_iff_not]; omega
            have e2n : decide (N < q'.length) = false := by have := e6.out; rw [decide_eq_false_iff_not]; omega
            have e2p : q'.length ≤ N := by rw [decide_eq_false_iff_not] at e2n; omega
            have e5 : q'.length ≤ 301 := by have := e6.out; omega
            go_wp2_with (first
              | (go_at_call 14; refine dr.mono ?_; rintro e w2 ⟨p2, c2, rfl, h2⟩; clear dr hx ckr ck; have h2 : Hid (Apt w w2 [obR b N q' L, obV pi ci a, obV po co o, obV p2 c2 q]) := h2)
              | (at_builtin; refine wpList_append_any rfl (.tmp 60) (.tmp 62) 22 rfl Try.underlying22 infoN rfl rfl (f := ivL o) (by rw [HMO.out]; exact h2.out.all 2 _ rfl) rfl (g := ivL q) (fun hp => src_s h2.out (i := 3) rfl hn.out hp) (fun _ _ => rfl) (by omega) (by omega) ?_; intro p' c' w3 hv3 ho3 hp3; have h3 : Hid (Apt w w3 [obR b N q' L, obV pi ci a, obV p' c' (o ++ q)]) := Apt.front (joined_s h2.out (i := 2) (z := q) rfl (by rw [← HMO.out, ← hn.out]; exact hv3) ho3 hp3); clear hv3 ho3 hp3; obtain ⟨m2, hm2⟩ : ∃ m2, Hid (m2 = mo + n) := ⟨_, rfl⟩; rw [← hm2.out]; have e7 : m2 ≤ 601 := (by rw [hm2.out]; omega); have E3 : Hid (F = (m2 : Int) + (q'.length : Int) + L) := (by show _ = _; have := HF.out; have := e6.out; have := hm2.out; have := hn.out; omega); have e1 : (F != (m2 : Int) + (q'.length : Int) + L) = false := (by rw [bne_eq_false_iff_eq]; exact E3.out))
              | (go_at_call 18; refine (len_s h3.out (i := 0) rfl).mono ?_; rintro e w' ⟨rfl, hw'⟩; have hw' := hw'.symm; subst hw') | (go_at_call 19; refine (lost_s h3.out (i := 0) rfl).mono ?_; rintro e w' ⟨rfl, hw'⟩; have hw' := hw'.symm; subst hw') | (go_at_call 20; refine (size_s h3.out (i := 0) rfl).mono ?_; rintro e w' ⟨rfl, hw'⟩; have hw' := hw'.symm; subst hw'))
            go_roundw
            case rel => exact ⟨k + 1, pi, p', ci, c', mi, m2, a, o ++ q, q', L, F, by omega, rfl, rfl, rfl, by go_num, HMI.out, by rw [hm2.out, HMO.out, hn.out]; simp, by rw [hq'.out, HA.out]; simp, E3.out, by omega, by have := hLk.out; omega, by omega, h3.out⟩
            case measure => simp [intOf]; omega
          | false =>
            have tk := take_s hx.out (i := 0) rfl
            unfold ptr at tk
            cases q with
            | nil =>
              obtain ⟨q', hq'⟩ : ∃ q' : List Int, Hid (q' = []) := ⟨_, rfl⟩
              have tk : Calls Try.prog 11 #[.pointer (some ⟨b + 1, 0, none⟩)] wr fun e w' => e = .returned (.tuple #[.int .i64 0, .bool false]) ∧ Apt w w' [obR b N q' L, obV pi ci a, obV po co o] := by rw [hq'.out]; exact tk
              have e6 : Hid (q'.length = 0) := by show _ = _; rw [hq'.out]; rfl
              have e2 : decide ((N : Int) < (q'.length : Int)) = false := by have := e6.out; rw [decide_eq_false_iff_not]; omega
              have e2n : decide (N < q'.length) = false := by have := e6.out; rw [decide_eq_false_iff_not]; omega
              have e2p : q'.length ≤ N := by rw [decide_eq_false_iff_not] at e2n; omega
              have e5 : q'.length ≤ 301 := by have := e6.out; omega
              have E3 : Hid (F = (mo : Int) + (q'.length : Int) + L) := by show _ = _; have := HF.out; have := e6.out; simp only [List.length_nil] at *; omega
              have e1 : (F != (mo : Int) + (q'.length : Int) + L) = false := by rw [bne_eq_false_iff_eq]; exact E3.out
              go_wp2_with (first
                | (go_at_call 11; refine tk.mono ?_; rintro e w2 ⟨rfl, h2⟩; clear tk hx ckr ck; have h2 : Hid (Apt w w2 [obR b N q' L, obV pi ci a, obV po co o]) := h2)
                | (go_at_call 18; refine (len_s h2.out (i := 0) rfl).mono ?_; rintro e w' ⟨rfl, hw'⟩; have hw' := hw'.symm; subst hw') | (go_at_call 19; refine (lost_s h2.out (i := 0) rfl).mono ?_; rintro e w' ⟨rfl, hw'⟩; have hw' := hw'.symm; subst hw') | (go_at_call 20; refine (size_s h2.out (i := 0) rfl).mono ?_; rintro e w' ⟨rfl, hw'⟩; have hw' := hw'.symm; subst hw'))
              go_roundw
              case rel => exact ⟨k + 1, pi, po, ci, co, mi, mo, a, o, q', L, F, by omega, rfl, rfl, rfl, by go_num, HMI.out, HMO.out, by rw [hq'.out]; exact HA.out, E3.out, by omega, by have := hLk.out; omega, by omega, h2.out⟩
              case measure => simp [intOf]; omega
            | cons x q' =>
              have tk : Calls Try.prog 11 #[.pointer (some ⟨b + 1, 0, none⟩)] wr fun e w' => e = .returned (.tuple #[.int .i64 x, .bool true]) ∧ Apt w w' [obR b N q' L, obV pi ci a, obV po co o] := tk
              have E4 : Hid (q'.length + 1 ≤ N ∧ mi = mo + q'.length + 1) := ⟨HQ.out, by rw [HS.out]; simp; omega⟩
              have e2 : decide ((N : Int) < (q'.length : Int)) = false := by have := E4.out; rw [decide_eq_false_iff_not]; omega
              have e2n : decide (N < q'.length) = false := by have := E4.out; rw [decide_eq_false_iff_not]; omega
              have e2p : q'.length ≤ N := by rw [decide_eq_false_iff_not] at e2n; omega
              have e5 : q'.length ≤ 301 := by have := E4.out; omega
              have E6 : Hid (F = (mo : Int) + (q'.length : Int) + 1 + L) := by show _ = _; have := HF.out; simp only [List.length_cons] at this; omega
              go_wp2_with (first
                | (go_at_call 11; refine tk.mono ?_; rintro e w2 ⟨rfl, h2⟩; clear tk hx ckr ck; have h2 : Hid (Apt w w2 [obR b N q' L, obV pi ci a, obV po co o]) := h2)
                | (at_builtin; refine wpList_append_vec rfl (.tmp 70) (.tmp 72) 22 rfl Try.underlying22 infoN rfl rfl (f := ivL o) (by rw [HMO.out]; exact (h2.out.all 2 _ rfl).grown ((Grown.refl _).alloc _ _)) rfl (by decide) (new_int _ _ _) (fun _ _ => rfl) (by omega) (by omega) ?_; intro p' c' w3 hv3 ho3 hp3; have h3 : Hid (Apt w w3 [obR b N q' L, obV pi ci a, obV p' c' (o ++ [x])]) := appended_s h2.out (i := 2) rfl (by rw [← HMO.out]; exact hv3) ho3 hp3; clear hv3 ho3 hp3; obtain ⟨m2, hm2⟩ : ∃ m2, Hid (m2 = mo + 1) := ⟨_, rfl⟩; rw [← hm2.out]; have e7 : m2 ≤ 601 := (by rw [hm2.out]; omega); have E3 : Hid (F = (m2 : Int) + (q'.length : Int) + L) := (by show _ = _; have := E6.out; have := hm2.out; omega); have e1 : (F != (m2 : Int) + (q'.length : Int) + L) = false := (by rw [bne_eq_false_iff_eq]; exact E3.out))
                | (go_at_call 18; refine (len_s h3.out (i := 0) rfl).mono ?_; rintro e w' ⟨rfl, hw'⟩; have hw' := hw'.symm; subst hw') | (go_at_call 19; refine (lost_s h3.out (i := 0) rfl).mono ?_; rintro e w' ⟨rfl, hw'⟩; have hw' := hw'.symm; subst hw') | (go_at_call 20; refine (size_s h3.out (i := 0) rfl).mono ?_; rintro e w' ⟨rfl, hw'⟩; have hw' := hw'.symm; subst hw'))
              go_roundw
              case rel => exact ⟨k + 1, pi, p', ci, c', mi, m2, a, o ++ [x], q', L, F, by omega, rfl, rfl, rfl, by go_num, HMI.out, by rw [hm2.out, HMO.out]; simp, by rw [HA.out]; simp, E3.out, by omega, by have := hLk.out; omega, by omega, h3.out⟩
              case measure => simp [intOf]; omega
      · obtain rfl : k = len1 := by omega
        have hd : decide ((k : Int) < (k : Int)) = false := by rw [decide_eq_false_iff_not]; omega
        clear hkk
        have dr := drain_s hx.out (i := 0) rfl
        unfold ptr at dr
        obtain ⟨n, hn⟩ : ∃ n, Hid (n = q.length) := ⟨_, rfl⟩
        rw [← hn.out] at dr
        have e4 : n ≤ 301 := by have := HS.out; have := hn.out; omega
        have it : ∀ w1 p' c', Apt w w1 [obR b N [] L, obV pi ci a, obV p' c' a] → Calls Try.prog 13 #[.slice pi mi ci, .slice p' mi c'] w1 fun e w' => e = .returned (.bool true) ∧ Apt w w' [obR b N [] L, obV pi ci a, obV p' c' a] := fun w1 p' c' h => by
          have := HMI.out
          rw [this]; exact ints_s h (i := 1) (j := 2) rfl rfl (by omega)
        have ln : ∀ w1 p' c', Apt w w1 [obR b N [] L, obV pi ci a, obV p' c' a] → Calls Try.prog 18 #[.pointer (some ⟨b + 1, 0, none⟩)] w1 fun e w' => e = .returned (.int .i64 0) ∧ w' = w1 := fun w1 p' c' h => len_s h (i := 0) rfl
        go_wp2_with (first
          | (go_at_call 14; refine dr.mono ?_; rintro e w2 ⟨p2, c2, rfl, h2⟩; clear dr hx; have h2 : Hid (Apt w w2 [obR b N [] L, obV pi ci a, obV po co o, obV p2 c2 q]) := h2)
          | (at_builtin; refine wpList_append_any rfl (.tmp 91) (.tmp 93) 22 rfl Try.underlying22 infoN rfl rfl (f := ivL o) (by rw [HMO.out]; exact h2.out.all 2 _ rfl) rfl (g := ivL q) (fun hp => src_s h2.out (i := 3) rfl hn.out hp) (fun _ _ => rfl) (by omega) (by omega) ?_; intro p' c' w3 hv3 ho3 hp3; have h3 : Hid (Apt w w3 [obR b N [] L, obV pi ci a, obV p' c' a]) := (by have := Apt.front (l := [obR b N [] L, obV pi ci a, obV p' c' (o ++ q)]) (joined_s h2.out (i := 2) (z := q) rfl (by rw [← HMO.out, ← hn.out]; exact hv3) ho3 hp3); rw [← HA.out] at this; exact this); clear hv3 ho3 hp3; have hm2 : mo + n = mi := (by have := HS.out; have := hn.out; omega); rw [hm2]; clear hm2)
          | (go_at_call 13; refine (it _ _ _ h3.out).mono ?_; rintro e w4 ⟨rfl, h4⟩; clear it; have h4 : Hid (Apt w w4 [obR b N [] L, obV pi ci a, obV p' c' a]) := h4)
          | (go_at_call 18; refine (ln _ _ _ h4.out).mono ?_; rintro e w' ⟨rfl, hw'⟩; have hw' := hw'.symm; subst hw'; clear ln))
        go_ret
        exact ⟨rfl, h4.out.grown⟩

/-! ### THE ROW's STEP: WRITTEN OUT: LEAVE IT -/
set_option maxRecDepth 100000 in
theorem lifted (os : Os) (started : os.Started) (H : Type) (enc : TypeId × Value → H) :
    ReturnsInHanded {} Try.checked os 4 .any (Rows.ringOrderSpec.pre6 enc Try.prog Try.f4 Rows.ringOrderRow.domain false) (Rows.ringOrderSpec.post enc Try.prog Try.f4 false true false false) := by
  refine returnsInHanded_of_change (C := Try.checked) own started (by kernel_rfl) Try.func4
    (ChangeSpec.witness6 (enc := enc) (C := Try.checked) false ⟨#[], #[.int .i64 0, .slice none 0 0], []⟩ 8 (by kernel_rfl) (by kernel_rfl) (by kernel_rfl) (by kernel_rfl)) ?_
  intro W base args ds gs before hval0 hW hcnd _
  have hval : ∀ (j : Nat) t v, Try.f4.params[j]? = some t → args[j]? = some v → Value.okWide Try.prog W .any base t v := hval0
  have hW' := hW
  obtain ⟨p, q, hA0, hV, rfl, hfz, hnd⟩ := hW
  have hA : DataW.TrodAll enc Try.prog W 0 (fun _ => true) true Try.f4.params.toList args.toList ds p := hA0
  rw [Try.params4] at hA hval
  obtain ⟨v0, vs0, d0, ds0, p0, q0, hargs, rfl, rfl, h0, r0⟩ := trodAll_cons hA
  obtain ⟨v1, vs1, d1, ds1, p1, q1, rfl, rfl, rfl, h1, r1⟩ := trodAll_cons r0
  obtain ⟨rfl, rfl, rfl⟩ := trodAll_nil r1
  obtain rfl : args = #[v0, v1] := by cases args; simp_all
  obtain ⟨rfl, rfl⟩ := trodVars_none hV
  obtain ⟨a0, rfl, rfl, rfl, w0⟩ := open_int Try.underlying3 (hval 0 3 v0 rfl rfl) h0
  obtain ⟨a1, len1, cap1, rfl⟩ := okWide_slice Try.underlying22 (hval 1 22 v1 rfl rfl)
  have k1 := h1
  have lt1 : ∀ x ∈ p1, x.block < W.heap.size := by obtain ⟨m, hm⟩ := k1; exact DataW.trod_lt m _ _ _ hm
  obtain ⟨z1, w1⟩ : ∃ zs, IsRow .i64 W a1 len1 cap1 zs := by
    obtain ⟨fuel, hf⟩ := h1
    rcases open_ints Try.underlying22 Try.underlying3 (by kernel_rfl) hf with ⟨hcs, _⟩ | ⟨x, l, c, zs, hcs, _, hl, hm, hz, _, hcell, hwz⟩
    · simp [Value.cells] at hcs
      obtain ⟨rfl, rfl, rfl⟩ := hcs
      exact ⟨[], .inl ⟨rfl, rfl, rfl, rfl⟩⟩
    · simp [Value.cells] at hcs
      obtain ⟨rfl, rfl, rfl⟩ := hcs
      exact ⟨zs, .inr ⟨_, rfl, hl, hm, by simpa using hz, hcell, hwz⟩⟩
  clear hA0 hval0
  refine (walk a0 a1 len1 cap1 z1 W w0 w1).mono fun e W' ⟨he, bel⟩ => ?_
  subst he
  exact ⟨_, rfl, _, _, _, [], _, [], hW', trodAll_mk1 (shut_bool Try.underlying4 _), (trodAll_cons_mk (shut_int Try.underlying3 w0) (trodAll_cons_mk (grown_trod laidOut (by kernel_rfl) (of_decide_eq_true (by kernel_rfl)) k1 bel lt1) trodAll_mk0)), rfl, bel.frame _, fun h => by cases h⟩

theorem over : Rows.ringOrderRow.holds Try.pinned (OpenSpec.ofChange Rows.ringOrderSpec) :=
  OpenClaim.holds_of_wide 4 Try.f4 rfl rfl rfl rfl rfl rfl rfl ⟨rfl, rfl, rfl, rfl, rfl⟩ rfl rfl rfl rfl rfl (by kernel_rfl) Try.func4 (by kernel_rfl)
    (of_decide_eq_true (by kernel_rfl)) (by unfold Func.isWrapper; first | (rw [if_pos (by decide +kernel)]; kernel_rfl) | (rw [if_neg (by decide +kernel)]; exact ⟨rfl, rfl⟩))
    (fun os started H enc _ => lifted os started H enc)

/-- ████ THE STATEMENT ████ -/
theorem proved : Rows.RingOrderSaid := over
end Go.Proofs.Ytkkpopfmknmbgaa.ringOrder

namespace Go.Proofs.Ytkkpopfmknmbgaa
/-- The given statement. -/
theorem ringOrder_holds : Rows.RingOrderSaid := ringOrder.proved
#print axioms ringOrder_holds
end Go.Proofs.Ytkkpopfmknmbgaa
