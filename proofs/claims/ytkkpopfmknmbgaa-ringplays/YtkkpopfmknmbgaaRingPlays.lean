/-
  Proved: pantrylaw12.RingPlays returns true for every size and every slice of numbers: a ring answers, call by call, as the document's does (P12.1, P12.2). No condition.
-/
import Derived.Test.YtkkpopfmknmbgaaRows
import Derived.WalkKit
import Derived.ProofKit
import Derived.OpenShut
import Derived.Test.YtkkpopfmknmbgaaRgSep
import Derived.ShutString
import Derived.ChangeOld
import Derived.Below
namespace Go.Proofs.Ytkkpopfmknmbgaa.ringPlays
open Go.ChangeShapes Go.WideShapes Go.ChangeAt Go.RowKit
open Go.ChangeMaps (open_string shut_string)
set_option linter.unusedVariables false

theorem own : ownKnob Try.prog.godebug = none := by kernel_rfl
theorem laidOut : laidOutB Try.prog = true := by kernel_rfl

/-- WHAT THE WALK IS TOLD OF A SLICE OF INTEGERS THAT CAME IN: it is nil; or it leads to a row of 'cap' cells, the numbers 'zs' (the first 'len' are its elements, the rest its spare room), each fitting its kind. -/
def IsRow (k : IntKind) (w : World) (a : Option Addr) (len cap : Nat) (zs : List Int) : Prop :=
  (a = none ∧ len = 0 ∧ cap = 0 ∧ zs = []) ∨
  ∃ x, a = some x ∧ len ≤ cap ∧ cap ≤ maxLen ∧ zs.length = cap ∧ (∀ i, i < zs.length → w.cell? (x.add i) = some (.int k (zs.getD i 0))) ∧ ∀ n ∈ zs, (Lit.int k n).wf = true

/-! ### STEP 1: THE WALK: the Go text returns true, AND WRITES NOTHING THAT WAS THERE: 'Below w.heap.size w w'' (Derived/Below.lean: '.refl', '.alloc', '.drew', '.setCell' at a new block, '.trans'). Open each 'IsRow' by 'rcases' AHEAD of 'go_enter'; part every test ahead of the walk. -/
open Go.Proofs.Ytkkpopfmknmbgaa.Rn in set_option maxRecDepth 20000 in set_option maxHeartbeats 8000000 in
theorem walk (a0 : Int) (a1 : Option Addr) (len1 cap1 : Nat) (z1 : List Int) (w : World) (w0 : (Lit.int .i64 a0).wf = true) (w1 : IsRow .i64 w a1 len1 cap1 z1) :
    Calls Try.prog 3 #[.int .i64 a0, .slice a1 len1 cap1] w fun e w' => e = .returned (.bool true) ∧ Grown w w' := by
  have hk := keys_open w1
  clear w0 w1
  obtain ⟨N, n1, n2, e, _, _, _⟩ := size_all a0
  have nw := fun (w1 : World) (g : Grown w w1) => new_s (Apt.none g) a0 n1 n2 e
  have nr := fun (b : Nat) (w1 : World) (h : Apt w w1 [obR b N [] 0]) => rnew_s h a0 e
  clear e
  unfold ptr at nw nr
  by_cases hl : 300 < len1
  · clear hk
    have d1 : decide (300 < (len1 : Int)) = true := by rw [decide_eq_true_eq]; omega
    go_enter Try.func3, Try.ntmps3
    go_wp2_with (first | (go_at_call 8; refine (small_s _).mono ?_; rintro e ws ⟨rfl, hgs⟩) | (go_at_call 9; refine (nw _ hgs).mono ?_; rintro e wx ⟨b, rfl, hx⟩; clear nw hgs; have hx : Hid (Apt w wx [obR b N [] 0]) := hx) | (go_at_call 10; refine (nr _ _ hx.out).mono ?_; rintro e wy ⟨A, rfl, hy⟩; clear nr hx; have hy : Hid (Apt w wy [obR b N [] 0, obD A N none 0 [] 0]) := hy))
    go_ret
    exact ⟨rfl, hy.out.grown⟩
  · have d1 : decide (300 < (len1 : Int)) = false := by rw [decide_eq_false_iff_not]; omega
    have hlen : len1 ≤ 300 := by omega
    have hkk : ∀ k, k < len1 → ∃ kb off, a1 = some ⟨kb, off, none⟩ ∧ ∀ W, Grown w W → W.cell? ⟨kb, off + k, none⟩ = some (.int .i64 (z1.getD k 0)) := fun k hlt => by
      rcases hk with h | ⟨kb, off, h1, h2, h3⟩
      · omega
      · exact ⟨kb, off, h1, fun W g => keys_cell (h3 k hlt) h2 g⟩
    have hmx : Try.prog.follows .mixedOrders = true := by kernel_rfl
    clear hk hl
    go_enter Try.func3, Try.ntmps3
    go_wp2_with (first | (go_at_call 8; refine (small_s _).mono ?_; rintro e ws ⟨rfl, hgs⟩) | (go_at_call 9; refine (nw _ hgs).mono ?_; rintro e wx ⟨b, rfl, hx⟩; clear nw hgs; have hx : Hid (Apt w wx [obR b N [] 0]) := hx) | (go_at_call 10; refine (nr _ _ hx.out).mono ?_; rintro e wy ⟨A, rfl, hy⟩; clear nr hx; have hy : Hid (Apt w wy [obR b N [] 0, obD A N none 0 [] 0]) := hy))
    go_loopw [8, 9, 10, 11, 12, 13] (fun i _ _ _ _ _ wr => ∃ (k : Nat) (p : Option Addr) (c : Nat) (q : List Int) (L : Int), k ≤ len1 ∧ i = .int .i64 (k : Int) ∧ 0 ≤ L ∧ L ≤ (k : Int) ∧ Apt w wr [obR b N q L, obD A N p c q L]) (fun i _ _ _ _ _ _ => len1 - (intOf i).toNat)
    case atStart => exact ⟨0, none, 0, [], 0, by omega, rfl, by omega, by omega, hy.out⟩
    case round =>
      clear hy
      obtain ⟨k, p, c, q, L, hk, rfl, hL0, hL, hx⟩ := hrel
      have hx : Hid (Apt w _ [obR b N q L, obD A N p c q L]) := hx
      have HL : Hid (0 ≤ L ∧ L ≤ (k : Int)) := ⟨hL0, hL⟩
      have HQ : Hid (q.length ≤ N) := (room hx.out (i := 0) rfl).1
      by_cases hlt : k < len1
      · have hd : decide ((k : Int) < (len1 : Int)) = true := by rw [decide_eq_true_eq]; omega
        obtain ⟨kb, off, rfl, ck⟩ := hkk k hlt
        obtain ⟨z, hz⟩ : ∃ z, z = z1.getD k 0 := ⟨_, rfl⟩
        rw [← hz] at ck
        have ckr := ck _ hx.out.grown
        clear hz hkk hL0 hL
        by_cases hz1 : z = -1
        · subst hz1
          have ta := take_s hx.out (i := 0) rfl
          have tb := fun (w1 : World) (h : Apt w w1 [obR b N q.tail L, obD A N p c q L]) => rtake_s h (i := 1) rfl (by have := HQ.out; omega)
          unfold ptr at ta tb
          obtain ⟨x, hx0⟩ : ∃ x, x = q.getD 0 0 := ⟨_, rfl⟩
          obtain ⟨o5, ho5⟩ : ∃ o5, o5 = decide (0 < q.length) := ⟨_, rfl⟩
          rw [← hx0, ← ho5] at ta
          simp only [← hx0, ← ho5] at tb
          have hxx : (x == x) = true := by simp
          have hbb : (o5 == o5) = true := by simp
          obtain ⟨q', hq'⟩ : ∃ q', Hid (q' = q.tail) := ⟨_, rfl⟩
          rw [← hq'.out] at ta
          simp only [← hq'.out] at tb
          clear hx0 ho5
          go_wp2_with (first
            | (go_at_call 11; refine ta.mono ?_; rintro e w2 ⟨rfl, h2⟩; clear ta ckr ck hx; have h2 : Hid (Apt w w2 [obR b N q' L, obD A N p c q L]) := h2)
            | (go_at_call 12; refine (tb _ h2.out).mono ?_; rintro e w3 ⟨p', c', rfl, h3⟩; clear tb h2; have h3 : Hid (Apt w w3 [obR b N q' L, obD A N p' c' q' L]) := h3))
          obtain ⟨y0, y1, y2⟩ := Rr.cells (w := _) (h3.out.all 1 _ rfl)
          have qle := (room h3.out (i := 0) rfl).1
          go_quiet (first | (go_at_call 18; exact Calls.quiet_of_same (len_s (h3.out.drewN _) (i := 0) rfl)) | (go_at_call 19; exact Calls.quiet_of_same (lost_s (h3.out.drewN _) (i := 0) rfl)) | (go_at_call 20; exact Calls.quiet_of_same (size_s (h3.out.drewN _) (i := 0) rfl)))
          clear y0 y1 y2
          go_wp2_with fail
          go_roundw
          case rel => exact ⟨k + 1, p', c', q', L, by omega, by go_num, HL.out.1, by have := HL.out.2; omega, h3.out.drewN _⟩
          case measure => simp [intOf]; omega

        · by_cases hz2 : z = -2
          · subst hz2
            have da := drain_s hx.out (i := 0) rfl
            have db := fun (p2 : Option Addr) (c2 : Nat) (w1 : World) (h : Apt w w1 [obR b N [] L, obD A N p c q L, obV p2 c2 q]) => rdrain_s h (i := 1) rfl
            have it : ∀ w1 p2 c2, Apt w w1 [obR b N [] L, obD A N none 0 [] L, obV p2 c2 q, obV p c q] → Calls Try.prog 13 #[.slice p2 q.length c2, .slice p q.length c] w1 fun e w' => e = .returned (.bool true) ∧ Apt w w' [obR b N [] L, obD A N none 0 [] L, obV p2 c2 q, obV p c q] := fun w1 p2 c2 h => ints_s h (i := 2) (j := 3) rfl rfl (by have := HQ.out; omega)
            unfold ptr at da db
            obtain ⟨n, hn⟩ : ∃ n, Hid (n = q.length) := ⟨_, rfl⟩
            obtain ⟨q', hq'⟩ : ∃ q' : List Int, Hid (q' = []) := ⟨_, rfl⟩
            rw [← hn.out] at da
            simp only [← hn.out] at db it
            go_wp2_with (first
              | (go_at_call 14; refine da.mono ?_; rintro e w2 ⟨p2, c2, rfl, h2⟩; clear da ckr ck hx; have h2 : Hid (Apt w w2 [obR b N [] L, obD A N p c q L, obV p2 c2 q]) := h2)
              | (go_at_call 15; refine (db _ _ _ h2.out).mono ?_; rintro e w3 ⟨rfl, h3⟩; clear db h2; have h3 : Hid (Apt w w3 [obR b N [] L, obD A N none 0 [] L, obV p2 c2 q, obV p c q]) := h3)
              | (go_at_call 13; refine (it _ _ _ h3.out).mono ?_; rintro e w4 ⟨rfl, h4⟩; clear it h3; have h4 : Hid (Apt w w4 [obR b N q' L, obD A N none 0 q' L]) := (by rw [hq'.out]; exact Apt.front (Apt.front (l := [obR b N [] L, obD A N none 0 [] L, obV p2 c2 q]) h4))))
            obtain ⟨y0, y1, y2⟩ := Rr.cells (w := _) (h4.out.all 1 _ rfl)
            have qle := (room h4.out (i := 0) rfl).1
            go_quiet (first | (go_at_call 18; exact Calls.quiet_of_same (len_s (h4.out.drewN _) (i := 0) rfl)) | (go_at_call 19; exact Calls.quiet_of_same (lost_s (h4.out.drewN _) (i := 0) rfl)) | (go_at_call 20; exact Calls.quiet_of_same (size_s (h4.out.drewN _) (i := 0) rfl)))
            clear y0 y1 y2
            go_wp2_with fail
            go_roundw
            case rel => exact ⟨k + 1, none, 0, q', L, by omega, by go_num, HL.out.1, by have := HL.out.2; omega, h4.out.drewN _⟩
            case measure => simp [intOf]; omega

          · have hz1b : (z == -1) = false := by rw [beq_eq_false_iff_ne]; exact hz1
            have hz2b : (z == -2) = false := by rw [beq_eq_false_iff_ne]; exact hz2
            have hLb : 0 ≤ L ∧ L ≤ 1000000 := by have := HL.out; omega
            have oa := fun (w1 : World) (h : Apt w w1 [obR b N q L, obD A N p c q L]) => offer_s h (i := 0) rfl z hLb
            have ob := fun (w1 : World) (q2 : List Int) (L2 : Int) (h : Apt w w1 [obR b N q2 L2, obD A N p c q L]) => roffer_s h (i := 1) rfl z n2 HQ.out hLb
            unfold ptr at oa ob
            obtain ⟨o, ho⟩ : ∃ o, o = decide (q.length < N) := ⟨_, rfl⟩
            have hoo : (o == o) = true := by simp
            obtain ⟨q', hq'⟩ : ∃ q', Hid (q' = offQ N q z) := ⟨_, rfl⟩
            obtain ⟨L', hL'⟩ : ∃ L', Hid (L' = offL N q L) := ⟨_, rfl⟩
            simp only [← ho, ← hq'.out, ← hL'.out] at oa ob
            have HL2 : Hid (0 ≤ L' ∧ L' ≤ (k : Int) + 1) := by
              have := HL.out
              show _ ∧ _
              rw [hL'.out]
              unfold offL
              constructor <;> split <;> omega
            clear ho hLb
            go_wp2_with fail
            refine region_fill [5, 11, 12, 13] [(70, .pointer (some ⟨b + 1, 0, none⟩)), (71, .slice (some ⟨kb, off, none⟩) len1 cap1), (72, .int .i64 (k : Int)), (73, .pointer (some ⟨kb, off + k, none⟩)), (74, .int .i64 z), (76, .pointer (some ⟨A, 0, none⟩)), (77, .slice (some ⟨kb, off, none⟩) len1 cap1), (78, .int .i64 (k : Int)), (79, .pointer (some ⟨kb, off + k, none⟩)), (80, .int .i64 z)] hmx (by kernel_rfl) (by kernel_rfl) ?_
            simp only [fills, Act.put, List.setIfInBounds_toArray, List.set_cons_zero, List.set_cons_succ]
            refine flow_ent (some 75) 16 #[.pointer (some ⟨b + 1, 0, none⟩), .int .i64 z] _ rfl rfl ?run (by go_simp) ((oa _ hx.out.drew).mono ?_)
            case run =>
              clear oa ob
              intro i o ho hi
              iterate 14 (rcases i with _ | i; · first | (exact absurd hi (by decide)) | (cases ho; go_simp))
              cases ho
            rintro e w2 ⟨rfl, h2⟩
            refine ⟨_, rfl, ?_⟩
            have h2 : Hid (Apt w w2 [obR b N q' L', obD A N p c q L]) := h2
            have ck2 := ck _ h2.out.grown
            simp only [Act.put, List.setIfInBounds_toArray, List.set_cons_zero, List.set_cons_succ]
            refine flow_ent (some 81) 17 #[.pointer (some ⟨A, 0, none⟩), .int .i64 z] _ rfl rfl ?run (by go_simp) ((ob w2 q' L' h2.out).mono ?_)
            case run =>
              clear oa ob
              intro i o ho hi
              iterate 14 (rcases i with _ | i; · first | (exact absurd hi (by decide)) | (cases ho; go_simp))
              cases ho
            rintro e w3 ⟨p', c', rfl, h3⟩
            refine ⟨_, rfl, ?_⟩
            have h3 : Hid (Apt w w3 [obR b N q' L', obD A N p' c' q' L']) := h3
            have ck3 := ck _ h3.out.grown
            simp only [Act.put, List.setIfInBounds_toArray, List.set_cons_zero, List.set_cons_succ]
            clear oa ob
            refine flow_val (some 82) (.bool true) w3 _ rfl rfl ?run (by go_simp) ?_
            case run =>
              intro i o ho hi
              iterate 14 (rcases i with _ | i; · first | (exact absurd hi (by decide)) | (cases ho; go_simp))
              cases ho
            simp only [Act.put, List.setIfInBounds_toArray, List.set_cons_zero, List.set_cons_succ]
            refine flow_val (some 9) (.bool true) w3 _ rfl rfl ?run (by go_simp) ?_
            case run =>
              intro i o ho hi
              iterate 14 (rcases i with _ | i; · first | (exact absurd hi (by decide)) | (cases ho; go_simp))
              cases ho
            clear ckr ck2 ck3 ck
            simp only [Act.put, List.setIfInBounds_toArray, List.set_cons_zero, List.set_cons_succ]
            show Exit.then _ _ Exit.normal _ _
            go_wp2_with fail
            obtain ⟨y0, y1, y2⟩ := Rr.cells (w := _) (h3.out.all 1 _ rfl)
            have qle := (room h3.out (i := 0) rfl).1
            go_quiet (first | (go_at_call 18; exact Calls.quiet_of_same (len_s (h3.out.drewN _) (i := 0) rfl)) | (go_at_call 19; exact Calls.quiet_of_same (lost_s (h3.out.drewN _) (i := 0) rfl)) | (go_at_call 20; exact Calls.quiet_of_same (size_s (h3.out.drewN _) (i := 0) rfl)))
            clear y0 y1 y2
            go_wp2_with fail
            go_roundw
            case rel => exact ⟨k + 1, p', c', q', L', by omega, by go_num, HL2.out.1, by have := HL2.out.2; omega, h3.out.drewN _⟩
            case measure => simp [intOf]; omega

      · obtain rfl : k = len1 := by omega
        have hd : decide ((k : Int) < (k : Int)) = false := by rw [decide_eq_false_iff_not]; omega
        clear hkk
        have da := fun (w1 : World) (h : Apt w w1 [obR b N q L, obD A N p c q L]) => drain_s h (i := 0) rfl
        have it : ∀ w1 p2 c2, Apt w w1 [obR b N [] L, obD A N p c q L, obV p2 c2 q] → Calls Try.prog 13 #[.slice p2 q.length c2, .slice p q.length c] w1 fun e w' => e = .returned (.bool true) ∧ Grown w w' := fun w1 p2 c2 h => (ints_g (h.all 2 _ rfl) (Rr.vec (h.all 1 _ rfl)) (by have := HQ.out; omega)).mono (by rintro e w' ⟨rfl, m, rfl⟩; exact ⟨rfl, (h.drewN m).grown⟩)
        unfold ptr at da
        obtain ⟨n, hn⟩ : ∃ n, Hid (n = q.length) := ⟨_, rfl⟩
        have y1 := (Rr.cells (hx.out.all 1 _ rfl)).2.1
        rw [← hn.out] at y1
        simp only [← hn.out] at da it
        go_wp2_with fail
        go_region_with (first
          | (go_at_call 14; refine (da _ hx.out.drew).mono ?_; rintro e w2 ⟨p2, c2, rfl, h2⟩; clear da; have h2 : Hid (Apt w w2 [obR b N [] L, obD A N p c q L, obV p2 c2 q]) := h2; have y2 := (Rr.cells (h2.out.all 1 _ rfl)).2.1; rw [← hn.out] at y2)
          | (go_at_call 13; refine (it _ _ _ h2.out).mono ?_; rintro e w4 ⟨rfl, h4⟩; clear it))
        all_goals
          go_wp2_with fail
          go_ret
          exact ⟨rfl, h4⟩

/-! ### THE ROW's STEP: WRITTEN OUT: LEAVE IT -/
set_option maxRecDepth 100000 in
theorem lifted (os : Os) (started : os.Started) (H : Type) (enc : TypeId × Value → H) :
    ReturnsInHanded {} Try.checked os 3 .any (Rows.ringPlaysSpec.pre6 enc Try.prog Try.f3 Rows.ringPlaysRow.domain false) (Rows.ringPlaysSpec.post enc Try.prog Try.f3 false true false false) := by
  refine returnsInHanded_of_change (C := Try.checked) own started (by kernel_rfl) Try.func3
    (ChangeSpec.witness6 (enc := enc) (C := Try.checked) false ⟨#[], #[.int .i64 0, .slice none 0 0], []⟩ 8 (by kernel_rfl) (by kernel_rfl) (by kernel_rfl) (by kernel_rfl)) ?_
  intro W base args ds gs before hval0 hW hcnd _
  have hval : ∀ (j : Nat) t v, Try.f3.params[j]? = some t → args[j]? = some v → Value.okWide Try.prog W .any base t v := hval0
  have hW' := hW
  obtain ⟨p, q, hA0, hV, rfl, hfz, hnd⟩ := hW
  have hA : DataW.TrodAll enc Try.prog W 0 (fun _ => true) true Try.f3.params.toList args.toList ds p := hA0
  rw [Try.params3] at hA hval
  obtain ⟨v0, vs0, d0, ds0, p0, q0, hargs, rfl, rfl, h0, r0⟩ := trodAll_cons hA
  obtain ⟨v1, vs1, d1, ds1, p1, q1, rfl, rfl, rfl, h1, r1⟩ := trodAll_cons r0
  obtain ⟨rfl, rfl, rfl⟩ := trodAll_nil r1
  obtain rfl : args = #[v0, v1] := by cases args; simp_all
  obtain ⟨rfl, rfl⟩ := trodVars_none hV
  obtain ⟨a0, rfl, rfl, rfl, w0⟩ := open_int Try.underlying3 (hval 0 3 v0 rfl rfl) h0
  obtain ⟨a1, len1, cap1, rfl⟩ := okWide_slice Try.underlying22 (hval 1 22 v1 rfl rfl)
  have k1 := h1
  have lt1 : ∀ x ∈ p1, x.block < W.heap.size := by obtain ⟨m, hm⟩ := k1; exact DataW.trod_lt m _ _ _ hm
  obtain ⟨z1, w1⟩ : ∃ zs, IsRow .i64 W a1 len1 cap1 zs := by
    obtain ⟨fuel, hf⟩ := h1
    rcases open_ints Try.underlying22 Try.underlying3 (by kernel_rfl) hf with ⟨hcs, _⟩ | ⟨x, l, c, zs, hcs, _, hl, hm, hz, _, hcell, hwz⟩
    · simp [Value.cells] at hcs
      obtain ⟨rfl, rfl, rfl⟩ := hcs
      exact ⟨[], .inl ⟨rfl, rfl, rfl, rfl⟩⟩
    · simp [Value.cells] at hcs
      obtain ⟨rfl, rfl, rfl⟩ := hcs
      exact ⟨zs, .inr ⟨_, rfl, hl, hm, by simpa using hz, hcell, hwz⟩⟩
  clear hA0 hval0
  refine (walk a0 a1 len1 cap1 z1 W w0 w1).mono fun e W' ⟨he, bel⟩ => ?_
  subst he
  exact ⟨_, rfl, _, _, _, [], _, [], hW', trodAll_mk1 (shut_bool Try.underlying4 _), (trodAll_cons_mk (shut_int Try.underlying3 w0) (trodAll_cons_mk (grown_trod laidOut (by kernel_rfl) (of_decide_eq_true (by kernel_rfl)) k1 bel lt1) trodAll_mk0)), rfl, bel.frame _, fun h => by cases h⟩

theorem over : Rows.ringPlaysRow.holds Try.pinned (OpenSpec.ofChange Rows.ringPlaysSpec) :=
  OpenClaim.holds_of_wide 3 Try.f3 rfl rfl rfl rfl rfl rfl rfl ⟨rfl, rfl, rfl, rfl, rfl⟩ rfl rfl rfl rfl rfl (by kernel_rfl) Try.func3 (by kernel_rfl)
    (of_decide_eq_true (by kernel_rfl)) (by unfold Func.isWrapper; first | (rw [if_pos (by decide +kernel)]; kernel_rfl) | (rw [if_neg (by decide +kernel)]; exact ⟨rfl, rfl⟩))
    (fun os started H enc _ => lifted os started H enc)

/-- ████ THE STATEMENT ████ -/
theorem proved : Rows.RingPlaysSaid := over
end Go.Proofs.Ytkkpopfmknmbgaa.ringPlays

namespace Go.Proofs.Ytkkpopfmknmbgaa
/-- The given statement. -/
theorem ringPlays_holds : Rows.RingPlaysSaid := ringPlays.proved
#print axioms ringPlays_holds
end Go.Proofs.Ytkkpopfmknmbgaa
