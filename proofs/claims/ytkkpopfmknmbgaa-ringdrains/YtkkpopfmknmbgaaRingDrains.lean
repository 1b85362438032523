/-
  Proved: pantrylaw12.RingDrains returns true for every size and every slice of numbers: Drain tells what as many Takes would (P12.2). No condition.
-/
import Derived.Test.YtkkpopfmknmbgaaRows
import Derived.WalkKit
import Derived.ProofKit
import Derived.OpenShut
import Derived.Test.YtkkpopfmknmbgaaRgSep
import Derived.ShutString
import Derived.ChangeOld
import Derived.Below
namespace Go.Proofs.Ytkkpopfmknmbgaa.ringDrains
open Go.ChangeShapes Go.WideShapes Go.ChangeAt Go.RowKit
open Go.ChangeMaps (open_string shut_string)
set_option linter.unusedVariables false

theorem own : ownKnob Try.prog.godebug = none := by kernel_rfl
theorem laidOut : laidOutB Try.prog = true := by kernel_rfl

/-- WHAT THE WALK IS TOLD OF A SLICE OF INTEGERS THAT CAME IN: it is nil; or it leads to a row of 'cap' cells, the numbers 'zs' (the first 'len' are its elements, the rest its spare room), each fitting its kind. -/
def IsRow (k : IntKind) (w : World) (a : Option Addr) (len cap : Nat) (zs : List Int) : Prop :=
  (a = none ∧ len = 0 ∧ cap = 0 ∧ zs = []) ∨
  ∃ x, a = some x ∧ len ≤ cap ∧ cap ≤ maxLen ∧ zs.length = cap ∧ (∀ i, i < zs.length → w.cell? (x.add i) = some (.int k (zs.getD i 0))) ∧ ∀ n ∈ zs, (Lit.int k n).wf = true

/-! ### STEP 1: THE WALK: the Go text returns true, AND WRITES NOTHING THAT WAS THERE: 'Below w.heap.size w w'' (Derived/Below.lean: '.refl', '.alloc', '.drew', '.setCell' at a new block, '.trans'). Open each 'IsRow' by 'rcases' AHEAD of 'go_enter'; part every test ahead of the walk. -/
open Go.Proofs.Ytkkpopfmknmbgaa.Rn in set_option maxRecDepth 20000 in set_option maxHeartbeats 8000000 in
theorem walk (a0 : Int) (a1 : Option Addr) (len1 cap1 : Nat) (z1 : List Int) (w : World) (w0 : (Lit.int .i64 a0).wf = true) (w1 : IsRow .i64 w a1 len1 cap1 z1) :
    Calls Try.prog 6 #[.int .i64 a0, .slice a1 len1 cap1] w fun e w' => e = .returned (.bool true) ∧ Grown w w' := by
  have hk := keys_open w1
  clear w0 w1
  obtain ⟨N, n1, n2, e, _, _, _⟩ := size_all a0
  have nw := fun (w1 : World) (g : Grown w w1) => new_s (Apt.none g) a0 n1 n2 e
  have nw2 := fun (b : Nat) (w1 : World) (h : Apt w w1 [obR b N [] 0]) => new_s h a0 n1 n2 e
  clear e
  unfold ptr at nw nw2
  by_cases hl : 200 < len1
  · clear hk
    have d1 : decide (200 < (len1 : Int)) = true := by rw [decide_eq_true_eq]; omega
    go_enter Try.func6, Try.ntmps6
    go_wp2_with (first | (go_at_call 8; refine (small_s _).mono ?_; rintro e ws ⟨rfl, hgs⟩) | (go_at_call 9; refine (nw _ hgs).mono ?_; rintro e wx ⟨b, rfl, hx⟩; clear nw hgs; have hx : Hid (Apt w wx [obR b N [] 0]) := hx) | (go_at_call 9; refine (nw2 _ _ hx.out).mono ?_; rintro e wy ⟨d, rfl, hy⟩; clear nw2 hx; have hy : Hid (Apt w wy [obR b N [] 0, obR d N [] 0]) := hy))
    go_ret
    exact ⟨rfl, hy.out.grown⟩
  · have d1 : decide (200 < (len1 : Int)) = false := by rw [decide_eq_false_iff_not]; omega
    have hlen : len1 ≤ 200 := by omega
    have hkk : ∀ k, k < len1 → ∃ kb off, a1 = some ⟨kb, off, none⟩ ∧ ∀ W, Grown w W → W.cell? ⟨kb, off + k, none⟩ = some (.int .i64 (z1.getD k 0)) := fun k hlt => by
      rcases hk with h | ⟨kb, off, h1, h2, h3⟩
      · omega
      · exact ⟨kb, off, h1, fun W g => keys_cell (h3 k hlt) h2 g⟩
    have of : ∀ b d w1 q L z, 0 ≤ L ∧ L ≤ 1000000 → Apt w w1 [obR b N q L, obR d N q L] → Calls Try.prog 16 #[.pointer (some ⟨b + 1, 0, none⟩), .int .i64 z] w1 fun e w' => e = .returned (.bool (decide (q.length < N))) ∧ Apt w w' [obR b N (offQ N q z) (offL N q L), obR d N q L] := fun b d w1 q L z h0 h => offer_s h (i := 0) rfl z h0
    have of2 : ∀ b d w1 q L z q2 L2, 0 ≤ L ∧ L ≤ 1000000 → Apt w w1 [obR b N q2 L2, obR d N q L] → Calls Try.prog 16 #[.pointer (some ⟨d + 1, 0, none⟩), .int .i64 z] w1 fun e w' => e = .returned (.bool (decide (q.length < N))) ∧ Apt w w' [obR b N q2 L2, obR d N (offQ N q z) (offL N q L)] := fun b d w1 q L z q2 L2 h0 h => offer_s h (i := 1) rfl z h0
    have tk : ∀ b d w1 q L, Apt w w1 [obR b N q L, obR d N q L] → Calls Try.prog 11 #[.pointer (some ⟨b + 1, 0, none⟩)] w1 fun e w' => e = .returned (.tuple #[.int .i64 (q.getD 0 0), .bool (decide (0 < q.length))]) ∧ Apt w w' [obR b N q.tail L, obR d N q L] := fun b d w1 q L h => take_s h (i := 0) rfl
    have tk2 : ∀ b d w1 q L q2, Apt w w1 [obR b N q2 L, obR d N q L] → Calls Try.prog 11 #[.pointer (some ⟨d + 1, 0, none⟩)] w1 fun e w' => e = .returned (.tuple #[.int .i64 (q.getD 0 0), .bool (decide (0 < q.length))]) ∧ Apt w w' [obR b N q2 L, obR d N q.tail L] := fun b d w1 q L q2 h => take_s h (i := 1) rfl
    have hmx : Try.prog.follows .mixedOrders = true := by kernel_rfl
    clear hk hl
    go_enter Try.func6, Try.ntmps6
    go_wp2_with (first | (go_at_call 8; refine (small_s _).mono ?_; rintro e ws ⟨rfl, hgs⟩) | (go_at_call 9; refine (nw _ hgs).mono ?_; rintro e wx ⟨b, rfl, hx⟩; clear nw hgs; have hx : Hid (Apt w wx [obR b N [] 0]) := hx) | (go_at_call 9; refine (nw2 _ _ hx.out).mono ?_; rintro e wy ⟨d, rfl, hy⟩; clear nw2 hx; have hy : Hid (Apt w wy [obR b N [] 0, obR d N [] 0]) := hy))
    go_loopw [8, 9, 10, 11, 12] (fun i _ _ _ _ wr => ∃ (k : Nat) (q : List Int) (L : Int), k ≤ len1 ∧ i = .int .i64 (k : Int) ∧ q.length ≤ k ∧ 0 ≤ L ∧ L ≤ k ∧ Apt w wr [obR b N q L, obR d N q L]) (fun i _ _ _ _ _ => len1 - (intOf i).toNat)
    case atStart => exact ⟨0, [], 0, by omega, rfl, by simp, by omega, by omega, hy.out⟩
    case round =>
      clear hy
      obtain ⟨k, q, L, hk, rfl, hq, hL0, hL, hx⟩ := hrel
      have hx : Hid (Apt w _ [obR b N q L, obR d N q L]) := hx
      have hql : Hid (q.length ≤ k) := hq
      clear hq
      by_cases hlt : k < len1
      · have hd : decide ((k : Int) < (len1 : Int)) = true := by rw [decide_eq_true_eq]; omega
        obtain ⟨kb, off, rfl, ck⟩ := hkk k hlt
        obtain ⟨z, hz⟩ : ∃ z, z = z1.getD k 0 := ⟨_, rfl⟩
        rw [← hz] at ck
        have ckr := ck _ hx.out.grown
        have o1 := of _ _ _ _ _ z ⟨hL0, by omega⟩ hx.out.drew
        have o2 := fun w2 q2 L2 => of2 b d w2 q L z q2 L2 ⟨hL0, by omega⟩
        obtain ⟨o, ho⟩ : ∃ o, o = decide (q.length < N) := ⟨_, rfl⟩
        have hoo : (o != o) = false := by simp
        simp only [← ho] at o1 o2
        obtain ⟨q', hq'⟩ : ∃ q', q' = offQ N q z := ⟨_, rfl⟩
        obtain ⟨L', hL'⟩ : ∃ L', L' = offL N q L := ⟨_, rfl⟩
        simp only [← hq', ← hL'] at o1 o2
        have HQ : Hid (q'.length ≤ k + 1 ∧ 0 ≤ L' ∧ L' ≤ k + 1) := by
          have := hql.out
          rw [hq', hL']
          unfold offQ offL
          refine ⟨?_, ?_, ?_⟩ <;> split <;> (try simp only [List.length_append, List.length_cons, List.length_nil]) <;> omega
        clear hz hq' hL' ho of of2 hkk
        go_wp2_with fail
        refine region_fill [5, 11, 12] [(47, .pointer (some ⟨b + 1, 0, none⟩)), (48, .slice (some ⟨kb, off, none⟩) len1 cap1), (49, .int .i64 (k : Int)), (50, .pointer (some ⟨kb, off + k, none⟩)), (51, .int .i64 z), (53, .pointer (some ⟨d + 1, 0, none⟩)), (54, .slice (some ⟨kb, off, none⟩) len1 cap1), (55, .int .i64 (k : Int)), (56, .pointer (some ⟨kb, off + k, none⟩)), (57, .int .i64 z)] hmx (by kernel_rfl) (by kernel_rfl) ?_
        simp only [fills, Act.put, List.setIfInBounds_toArray, List.set_cons_zero, List.set_cons_succ]
        refine flow_ent (some 52) 16 #[.pointer (some ⟨b + 1, 0, none⟩), .int .i64 z] _ rfl rfl ?run (by go_simp) (o1.mono ?_)
        case run =>
          clear o1 o2 tk tk2
          intro i o ho hi
          iterate 13 (rcases i with _ | i; · first | (exact absurd hi (by decide)) | (cases ho; go_simp))
          cases ho
        rintro e w2 ⟨rfl, h2⟩
        refine ⟨_, rfl, ?_⟩
        have h2 : Hid (Apt w w2 [obR b N q' L', obR d N q L]) := h2
        have ck2 := ck _ h2.out.grown
        simp only [Act.put, List.setIfInBounds_toArray, List.set_cons_zero, List.set_cons_succ]
        refine flow_ent (some 58) 16 #[.pointer (some ⟨d + 1, 0, none⟩), .int .i64 z] _ rfl rfl ?run (by go_simp) ((o2 w2 q' L' h2.out).mono ?_)
        case run =>
          clear o1 o2 tk tk2
          intro i o ho hi
          iterate 13 (rcases i with _ | i; · first | (exact absurd hi (by decide)) | (cases ho; go_simp))
          cases ho
        rintro e w3 ⟨rfl, h3⟩
        refine ⟨_, rfl, ?_⟩
        have h3 : Hid (Apt w w3 [obR b N q' L', obR d N q' L']) := h3
        have ck3 := ck _ h3.out.grown
        simp only [Act.put, List.setIfInBounds_toArray, List.set_cons_zero, List.set_cons_succ]
        clear o1 o2
        refine flow_val (some 59) (.bool false) w3 _ rfl rfl ?run (by go_simp) ?next
        case run =>
          clear tk tk2
          intro i o ho hi
          iterate 13 (rcases i with _ | i; · first | (exact absurd hi (by decide)) | (cases ho; go_simp))
          cases ho
        case next =>
          clear ckr ck2 ck3 ck
          simp only [Act.put, List.setIfInBounds_toArray, List.set_cons_zero, List.set_cons_succ]
          show Exit.then _ (Exit.then _ (Exit.inBlock 1 (Exit.then _ _))) Exit.normal _ _
          by_cases h5 : k % 5 = 4
          · have h5' : ((k : Int) % 5 == 4) = true := by rw [beq_iff_eq]; omega
            obtain ⟨x, hx0⟩ : ∃ x, x = q'.getD 0 0 := ⟨_, rfl⟩
            obtain ⟨o5, ho5⟩ : ∃ o5, o5 = decide (0 < q'.length) := ⟨_, rfl⟩
            have ta := tk b d w3 q' L' h3.out
            have tb := fun w4 => tk2 b d w4 q' L' q'.tail
            rw [← hx0, ← ho5] at ta
            simp only [← hx0, ← ho5] at tb
            have hxx : (x != x) = false := by simp
            have hbb : (o5 != o5) = false := by simp
            have HT : Hid (q'.tail.length ≤ k + 1) := by
              have := HQ.out.1
              show q'.tail.length ≤ k + 1
              rw [List.length_tail]; omega
            obtain ⟨q2, hq2⟩ : ∃ q2, q2 = q'.tail := ⟨_, rfl⟩
            rw [← hq2] at ta HT
            simp only [← hq2] at tb
            clear hx0 ho5 hq2 tk tk2
            go_wp2_with (first | (go_at_call 11; refine ta.mono ?_; rintro e w4 ⟨rfl, h4⟩; clear ta; have h4 : Hid (Apt w w4 [obR b N q2 L', obR d N q' L']) := h4) | (go_at_call 11; refine (tb _ h4.out).mono ?_; rintro e w5 ⟨rfl, h5⟩; clear tb; have h5 : Hid (Apt w w5 [obR b N q2 L', obR d N q2 L']) := h5))
            go_roundw
            case rel => exact ⟨k + 1, q2, L', by omega, by go_num, HT.out, HQ.out.2.1, by have := HQ.out.2.2; omega, h5.out⟩
            case measure => simp [intOf]; omega
          · have h5' : ((k : Int) % 5 == 4) = false := by rw [beq_eq_false_iff_ne]; omega
            clear tk tk2
            go_wp2_with fail
            go_roundw
            case rel => exact ⟨k + 1, q', L', by omega, by go_num, HQ.out.1, HQ.out.2.1, by have := HQ.out.2.2; omega, h3.out⟩
            case measure => simp [intOf]; omega
      · obtain rfl : k = len1 := by omega
        have hd : decide ((k : Int) < (k : Int)) = false := by rw [decide_eq_false_iff_not]; omega
        clear of of2 hkk tk tk2
        go_wp2_with fail
        go_loopw [13, 14, 15] (fun al _ _ wr => ∃ (p : Option Addr) (c m : Nat) (a r : List Int), al = .slice p m c ∧ m = a.length ∧ a ++ r = q ∧ Apt w wr [obR b N r L, obR d N q L, obV p c a]) (fun al _ _ _ => q.length - lenV al)
        case atStart => exact ⟨none, 0, 0, [], q, rfl, rfl, rfl, hx.out.add (u := obV none 0 []) (Grown.refl _) (Vec.nil _ _ _ _) fun x hx => absurd hx In.no⟩
        case round =>
          clear hx
          obtain ⟨p, c, m, a, r, rfl, hm, har, hx⟩ := hrel
          have HM : Hid (m = a.length) := hm
          have HA : Hid (a ++ r = q) := har
          have hx : Hid (Apt w _ [obR b N r L, obR d N q L, obV p c a]) := hx
          have hml : m ≤ k := by
            have := hql.out
            have : a.length + r.length = q.length := by rw [← har, List.length_append]
            omega
          have hmd : decide ((m : Int) ≤ (k : Int)) = true := by rw [decide_eq_true_eq]; omega
          cases r with
          | cons x r =>
            have hl1 : ∀ w1, Apt w w1 [obR b N (x :: r) L, obR d N q L, obV p c a] → Calls Try.prog 18 #[.pointer (some ⟨b + 1, 0, none⟩)] w1 fun e w' => e = .returned (.int .i64 ((r.length : Int) + 1)) ∧ w' = w1 := fun w1 h => len_s h (i := 0) rfl
            have tk1 : ∀ w1, Apt w w1 [obR b N (x :: r) L, obR d N q L, obV p c a] → Calls Try.prog 11 #[.pointer (some ⟨b + 1, 0, none⟩)] w1 fun e w' => e = .returned (.tuple #[.int .i64 x, .bool true]) ∧ Apt w w' [obR b N r L, obR d N q L, obV p c a] := fun w1 h => take_s h (i := 0) rfl
            obtain ⟨n, hn⟩ : ∃ n : Int, Hid (n = (r.length : Int) + 1) := ⟨_, rfl⟩
            rw [← hn.out] at hl1
            have hn0 : decide (0 < n) = true := by have := hn.out; rw [decide_eq_true_eq]; omega
            clear hm har
            go_wp2_with (first
              | (go_at_call 18; refine (hl1 _ hx.out).mono ?_; rintro e w' ⟨rfl, hw'⟩; have hw' := hw'.symm; subst hw'; clear hl1) | (go_at_call 11; refine (tk1 _ hx.out).mono ?_; rintro e w2 ⟨rfl, h2⟩; clear tk1; have h2 : Hid (Apt w w2 [obR b N r L, obR d N q L, obV p c a]) := h2)
              | (at_builtin; refine wpList_append_vec rfl (.tmp 98) (.tmp 100) 22 rfl Try.underlying22 infoN rfl rfl (f := ivL a) (by rw [HM.out]; exact (h2.out.all 2 _ rfl).grown ((Grown.refl _).alloc _ _)) rfl (by decide) (new_int _ _ _) (fun _ _ => rfl) (by omega) (by omega) ?_; intro p' c' w3 hv3 ho3 hp3; have h3 : Hid (Apt w w3 [obR b N r L, obR d N q L, obV p' c' (a ++ [x])]) := appended_s h2.out (i := 2) rfl (by rw [← HM.out]; exact hv3) ho3 hp3; clear hv3 ho3 hp3))
            go_roundw
            case rel => exact ⟨p', c', m + 1, a ++ [x], r, rfl, by rw [List.length_append, HM.out]; rfl, by rw [List.append_assoc]; exact HA.out, h3.out⟩
            case measure =>
              have e1 := HA.out
              have e2 : a.length + (r.length + 1) = q.length := by rw [← e1, List.length_append]; rfl
              have e3 := HM.out
              simp [lenV]
              omega
          | nil =>
            have e0 : a = q := by rw [← har, List.append_nil]
            subst e0
            have hl1 : ∀ w1, Apt w w1 [obR b N [] L, obR d N a L, obV p c a] → Calls Try.prog 18 #[.pointer (some ⟨b + 1, 0, none⟩)] w1 fun e w' => e = .returned (.int .i64 0) ∧ w' = w1 := fun w1 h => len_s h (i := 0) rfl
            have dr : ∀ w1, Apt w w1 [obR b N [] L, obR d N a L, obV p c a] → Calls Try.prog 14 #[.pointer (some ⟨d + 1, 0, none⟩)] w1 fun e w' => ∃ p2 c2, e = .returned (.slice p2 m c2) ∧ Apt w w' [obR b N [] L, obR d N [] L, obV p c a, obV p2 c2 a] := fun w1 h => by rw [hm]; exact drain_s h (i := 1) rfl
            have it : ∀ w1 p2 c2, Apt w w1 [obR b N [] L, obR d N [] L, obV p c a, obV p2 c2 a] → Calls Try.prog 13 #[.slice p m c, .slice p2 m c2] w1 fun e w' => e = .returned (.bool true) ∧ Apt w w' [obR b N [] L, obR d N [] L, obV p c a, obV p2 c2 a] := fun w1 p2 c2 h => by
              have := hql.out
              rw [hm]; exact ints_s h (i := 2) (j := 3) rfl rfl (by omega)
            have l1 : ∀ w1 p2 c2, Apt w w1 [obR b N [] L, obR d N [] L, obV p c a, obV p2 c2 a] → Calls Try.prog 19 #[.pointer (some ⟨b + 1, 0, none⟩)] w1 fun e w' => e = .returned (.int .i64 L) ∧ w' = w1 := fun w1 p2 c2 h => lost_s h (i := 0) rfl
            have l2 : ∀ w1 p2 c2, Apt w w1 [obR b N [] L, obR d N [] L, obV p c a, obV p2 c2 a] → Calls Try.prog 19 #[.pointer (some ⟨d + 1, 0, none⟩)] w1 fun e w' => e = .returned (.int .i64 L) ∧ w' = w1 := fun w1 p2 c2 h => lost_s h (i := 1) rfl
            clear hm har
            go_wp2_with (first
              | (go_at_call 18; refine (hl1 _ hx.out).mono ?_; rintro e w' ⟨rfl, hw'⟩; have hw' := hw'.symm; subst hw'; clear hl1) | (go_at_call 14; refine (dr _ hx.out).mono ?_; rintro e w2 ⟨p2, c2, rfl, h2⟩; clear dr; have h2 : Hid (Apt w w2 [obR b N [] L, obR d N [] L, obV p c a, obV p2 c2 a]) := h2)
              | (go_at_call 13; refine (it _ _ _ h2.out).mono ?_; rintro e w3 ⟨rfl, h3⟩; clear it; have h3 : Hid (Apt w w3 [obR b N [] L, obR d N [] L, obV p c a, obV p2 c2 a]) := h3)
              | (go_at_call 19; refine (l1 _ _ _ h3.out).mono ?_; rintro e w' ⟨rfl, hw'⟩; have hw' := hw'.symm; subst hw'; clear l1)
              | (go_at_call 19; refine (l2 _ _ _ h3.out).mono ?_; rintro e w' ⟨rfl, hw'⟩; have hw' := hw'.symm; subst hw'; clear l2))
            go_ret
            exact ⟨rfl, h3.out.grown⟩

/-! ### THE ROW's STEP: WRITTEN OUT: LEAVE IT -/
set_option maxRecDepth 100000 in
theorem lifted (os : Os) (started : os.Started) (H : Type) (enc : TypeId × Value → H) :
    ReturnsInHanded {} Try.checked os 6 .any (Rows.ringDrainsSpec.pre6 enc Try.prog Try.f6 Rows.ringDrainsRow.domain false) (Rows.ringDrainsSpec.post enc Try.prog Try.f6 false true false false) := by
  refine returnsInHanded_of_change (C := Try.checked) own started (by kernel_rfl) Try.func6
    (ChangeSpec.witness6 (enc := enc) (C := Try.checked) false ⟨#[], #[.int .i64 0, .slice none 0 0], []⟩ 8 (by kernel_rfl) (by kernel_rfl) (by kernel_rfl) (by kernel_rfl)) ?_
  intro W base args ds gs before hval0 hW hcnd _
  have hval : ∀ (j : Nat) t v, Try.f6.params[j]? = some t → args[j]? = some v → Value.okWide Try.prog W .any base t v := hval0
  have hW' := hW
  obtain ⟨p, q, hA0, hV, rfl, hfz, hnd⟩ := hW
  have hA : DataW.TrodAll enc Try.prog W 0 (fun _ => true) true Try.f6.params.toList args.toList ds p := hA0
  rw [Try.params6] at hA hval
  obtain ⟨v0, vs0, d0, ds0, p0, q0, hargs, rfl, rfl, h0, r0⟩ := trodAll_cons hA
  obtain ⟨v1, vs1, d1, ds1, p1, q1, rfl, rfl, rfl, h1, r1⟩ := trodAll_cons r0
  obtain ⟨rfl, rfl, rfl⟩ := trodAll_nil r1
  obtain rfl : args = #[v0, v1] := by cases args; simp_all
  obtain ⟨rfl, rfl⟩ := trodVars_none hV
  obtain ⟨a0, rfl, rfl, rfl, w0⟩ := open_int Try.underlying3 (hval 0 3 v0 rfl rfl) h0
  obtain ⟨a1, len1, cap1, rfl⟩ := okWide_slice Try.underlying22 (hval 1 22 v1 rfl rfl)
  have k1 := h1
  have lt1 : ∀ x ∈ p1, x.block < W.heap.size := by obtain ⟨m, hm⟩ := k1; exact DataW.trod_lt m _ _ _ hm
  obtain ⟨z1, w1⟩ : ∃ zs, IsRow .i64 W a1 len1 cap1 zs := by
    obtain ⟨fuel, hf⟩ := h1
    rcases open_ints Try.underlying22 Try.underlying3 (by kernel_rfl) hf with ⟨hcs, _⟩ | ⟨x, l, c, zs, hcs, _, hl, hm, hz, _, hcell, hwz⟩
    · simp [Value.cells] at hcs
      obtain ⟨rfl, rfl, rfl⟩ := hcs
      exact ⟨[], .inl ⟨rfl, rfl, rfl, rfl⟩⟩
    · simp [Value.cells] at hcs
      obtain ⟨rfl, rfl, rfl⟩ := hcs
      exact ⟨zs, .inr ⟨_, rfl, hl, hm, by simpa using hz, hcell, hwz⟩⟩
  clear hA0 hval0
  refine (walk a0 a1 len1 cap1 z1 W w0 w1).mono fun e W' ⟨he, bel⟩ => ?_
  subst he
  exact ⟨_, rfl, _, _, _, [], _, [], hW', trodAll_mk1 (shut_bool Try.underlying4 _), (trodAll_cons_mk (shut_int Try.underlying3 w0) (trodAll_cons_mk (grown_trod laidOut (by kernel_rfl) (of_decide_eq_true (by kernel_rfl)) k1 bel lt1) trodAll_mk0)), rfl, bel.frame _, fun h => by cases h⟩

theorem over : Rows.ringDrainsRow.holds Try.pinned (OpenSpec.ofChange Rows.ringDrainsSpec) :=
  OpenClaim.holds_of_wide 6 Try.f6 rfl rfl rfl rfl rfl rfl rfl ⟨rfl, rfl, rfl, rfl, rfl⟩ rfl rfl rfl rfl rfl (by kernel_rfl) Try.func6 (by kernel_rfl)
    (of_decide_eq_true (by kernel_rfl)) (by unfold Func.isWrapper; first | (rw [if_pos (by decide +kernel)]; kernel_rfl) | (rw [if_neg (by decide +kernel)]; exact ⟨rfl, rfl⟩))
    (fun os started H enc _ => lifted os started H enc)

/-- ████ THE STATEMENT ████ -/
theorem proved : Rows.RingDrainsSaid := over
end Go.Proofs.Ytkkpopfmknmbgaa.ringDrains

namespace Go.Proofs.Ytkkpopfmknmbgaa
/-- The given statement. -/
theorem ringDrains_holds : Rows.RingDrainsSaid := ringDrains.proved
#print axioms ringDrains_holds
end Go.Proofs.Ytkkpopfmknmbgaa
