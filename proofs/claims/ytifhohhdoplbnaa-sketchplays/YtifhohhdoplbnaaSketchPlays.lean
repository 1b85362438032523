/-
  Proved: pantrylaw03.SketchPlays returns true for every capacity, every seed and every slice of keys: key by key a sketch is the document's (P3.1, P3.2). No condition.
-/
import Derived.Test.YtifhohhdoplbnaaRows
import Derived.WalkKit
import Derived.ProofKit
import Derived.OpenShut
import Derived.Test.YtifhohhdoplbnaaSkPlay
import Derived.ShutString
import Derived.ChangeOld
import Derived.Below
namespace Go.Proofs.Ytifhohhdoplbnaa.sketchPlays
open Go.ChangeShapes Go.WideShapes Go.ChangeAt Go.RowKit
open Go.ChangeMaps (open_string shut_string)
set_option linter.unusedVariables false

theorem own : ownKnob Try.prog.godebug = none := by kernel_rfl
theorem laidOut : laidOutB Try.prog = true := by kernel_rfl

/-- WHAT THE WALK IS TOLD OF A SLICE OF INTEGERS THAT CAME IN: it is nil; or it leads to a row of 'cap' cells, the numbers 'zs' (the first 'len' are its elements, the rest its spare room), each fitting its kind. -/
def IsRow (k : IntKind) (w : World) (a : Option Addr) (len cap : Nat) (zs : List Int) : Prop :=
  (a = none ∧ len = 0 ∧ cap = 0 ∧ zs = []) ∨
  ∃ x, a = some x ∧ len ≤ cap ∧ cap ≤ maxLen ∧ zs.length = cap ∧ (∀ i, i < zs.length → w.cell? (x.add i) = some (.int k (zs.getD i 0))) ∧ ∀ n ∈ zs, (Lit.int k n).wf = true

/-! ### STEP 1: THE WALK: the Go text returns true, AND WRITES NOTHING THAT WAS THERE: 'Below w.heap.size w w'' (Derived/Below.lean: '.refl', '.alloc', '.drew', '.setCell' at a new block, '.trans'). Open each 'IsRow' by 'rcases' AHEAD of 'go_enter'; part every test ahead of the walk. -/
set_option maxRecDepth 20000 in set_option maxHeartbeats 8000000 in
theorem walk (a0 : Int) (a1 : Int) (a2 : Option Addr) (len2 cap2 : Nat) (z2 : List Int) (w : World) (w0 : (Lit.int .i64 a0).wf = true) (w1 : (Lit.int .i64 a1).wf = true) (w2 : IsRow .i64 w a2 len2 cap2 z2) :
    Calls Try.prog 3 #[.int .i64 a0, .int .i64 a1, .slice a2 len2 cap2] w fun e w' => e = .returned (.bool true) ∧ Grown w w' := by
  have hk := keys_open w2
  clear w0 w1 w2
  by_cases hl : a0 ≤ 1024 ∧ len2 ≤ 400
  · obtain ⟨hl0, hl⟩ := hl
    obtain ⟨m, m1, m2, hm⟩ := width_of a0
    have nw := fun w => new_c a0 a1 w m m2 hm
    have rn := fun w => refNew_any a0 a1 w (16 * m) (by omega) (by rw [hm]; omega)
    unfold ptr at nw rn
    clear hm
    have hd3 : decide (400 < (len2 : Int)) = false := by rw [decide_eq_false_iff_not]; omega
    have hd4 : decide (1024 < a0) = false := by rw [decide_eq_false_iff_not]; omega
    have hk' : Hid (len2 = 0) ∨ ∃ b off, a2 = some ⟨b, off, none⟩ ∧ b < w.heap.size ∧ ∀ i, i < len2 → w.cell? ⟨b, off + i, none⟩ = some (.int .i64 (z2.getD i 0)) := hk
    clear hk
    rcases hk' with HL | ⟨kb, off, rfl, hkb, hcell⟩
    all_goals
      go_enter Try.func3, Try.ntmps3
      go_wp2_with (first | (go_at_call 7; refine (small_any _).mono ?_; rintro e ws ⟨rfl, hgs⟩) | (go_at_call 8; refine (nw _).mono ?_; rintro e wx ⟨rfl, hx, hgx⟩) | (go_at_call 9; refine (rn _).mono ?_; rintro e wy ⟨rfl, hy, hgy⟩))
      have hb : Both wy ws.heap.size wx.heap.size a1 0 m (fun _ _ => 0) := ⟨hx.grown hgy, hy, by have := hx.last; omega⟩
      have hg := grownTrans (grownTrans hgs hgx) hgy
      obtain ⟨BX, hBX⟩ : ∃ BX, BX = ws.heap.size := ⟨_, rfl⟩
      obtain ⟨BY, hBY⟩ : ∃ BY, BY = wx.heap.size := ⟨_, rfl⟩
      have HB : Hid (w.heap.size ≤ BX) := by rw [hBX]; exact hgs.2.2
      rw [← hBX, ← hBY] at hb ⊢
      clear hBX hBY nw rn hx hy hgs hgx hgy
      go_loopw [10] (fun i wr => ∃ (k : Nat) (n : Int) (c : Nat → Nat → Int), k ≤ len2 ∧ i = .int .i64 k ∧ Both wr BX BY a1 n m c ∧ Grown w wr ∧ 0 ≤ n ∧ n < 160 * (m : Int)) (fun i _ => len2 - (intOf i).toNat)
      case atStart => exact ⟨0, 0, _, by omega, rfl, hb, hg, by omega, by omega⟩
      case round =>
        clear hb hg
        obtain ⟨k, n, c, hk, rfl, hb, hg, hn0, hn1⟩ := hrel
        by_cases hlt : k < len2
        · first
          | exact absurd hlt (by have := HL.out; omega)
          | (have ck := keys_cell (hcell k hlt) hkb hg
             have hd : decide ((k : Int) < (len2 : Int)) = true := by rw [decide_eq_true_eq]; omega
             obtain ⟨key, hkey⟩ : ∃ key, key = z2.getD k 0 := ⟨_, rfl⟩
             have ck3 : ∀ W, Grown w W → W.cell? ⟨kb, off + k, none⟩ = some (.int .i64 key) := fun W g => by rw [hkey]; exact keys_cell (hcell k hlt) hkb g
             rw [← hkey] at ck
             clear hkey
             have HBB : Hid (Both wr BX BY a1 n m c) := hb
             by_cases hkm : key = -1
             · subst hkm
               have hh := halve_c hb.x m2 hn0 (by omega)
               have hr := fun W n' h => @refHalve_any W BY (16 * m) a1 n' c h (by omega)
               have hbd := hb.bd
               have HBD : Hid (∀ i, i < 4 → ∀ j, j < 16 * m → 0 ≤ c i j ∧ c i j ≤ 15) := hbd
               unfold ptr at hh hr
               clear hb hbd ck3
               go_wp2_with (first | (go_at_call 10; refine hh.mono ?_; rintro e wh ⟨rfl, hxh, hoh⟩) | (go_at_call 11; refine (hr _ _ (HBB.out.keepY hoh) hn0 (by omega) HBD.out).mono ?_; rintro e wg ⟨rfl, hyg, hog⟩))
               go_roundw
               case rel => exact ⟨k + 1, n / 2, _, by omega, by go_num, HBB.out.mk2 hxh hyg hog, grown_off2 hg hoh hog HB.out HBB.out.apart, by omega, by omega⟩
               case measure => simp [intOf]; omega
             · have hkb' : (key == -1) = false := by simpa using hkm
               obtain ⟨x, hx⟩ : ∃ x, x = mixB a1 key := ⟨_, rfl⟩
               have hh := add_c hb.x m1 m2 hn0 (by omega) key
               have hr := fun W h => @refAdd_any W BY m a1 n c h m1 m2 hn0 (by omega) hb.bd key
               have hnb := nC_bd (c := c) (m := m) x hn0 hn1
               rw [← hx] at hh
               simp only [← hx] at hr
               obtain ⟨ok, hok⟩ : ∃ ok, ok = okG (kc c x m) 4 := ⟨_, rfl⟩
               obtain ⟨ag, hag⟩ : ∃ ag, ag = agedC c x m n := ⟨_, rfl⟩
               obtain ⟨n', hn'⟩ : ∃ n', n' = nC c x m n := ⟨_, rfl⟩
               obtain ⟨c', hc'⟩ : ∃ c', c' = cC c x m n := ⟨_, rfl⟩
               rw [← hok, ← hag, ← hn', ← hc'] at hh
               simp only [← hok, ← hag, ← hn', ← hc'] at hr
               rw [← hn'] at hnb
               unfold ptr at hh hr
               clear hb hok hag hn' hc' hx hkm
               go_wp2_with (first | (go_at_call 12; refine hh.mono ?_; rintro e wh ⟨rfl, hxh, hoh⟩; have hgh := hoh.grown hg HB.out; have ck4 := ck3 _ hgh) | (go_at_call 13; refine (hr _ (HBB.out.keepY hoh)).mono ?_; rintro e wg ⟨rfl, hyg, hog⟩; have hgg := grown_off2 hg hoh hog HB.out HBB.out.apart; have ck5 := ck3 _ hgg))
               have hb3 := HBB.out.mk2 hxh hyg hog
               obtain ⟨F, hF⟩ : ∃ F : Int → Int, F = fun y => leastK (kc c' (mixB a1 y) m) 4 := ⟨_, rfl⟩
               have cx : ∀ (d : Nat) (y : Int), Calls Try.prog 14 #[ptr BX, .int .i64 y] (wg.drewN d) fun e w' => e = .returned (.int .i64 (F y)) ∧ w' = wg.drewN d := fun d y => by rw [hF]; exact count_c (hb3.drewN d).x m1 m2 y
               have cy : ∀ (d : Nat) (y : Int), Calls Try.prog 15 #[ptr BY, .int .i64 y] (wg.drewN d) fun e w' => e = .returned (.int .i64 (F y)) ∧ ∃ d', w' = (wg.drewN d).drewN d' := fun d y => by rw [hF]; exact refCount_c (hb3.drewN d).y m1 m2 hb3.bd y
               have q1 : (ok != ok) = false := by simp
               have q2 : (ag != ag) = false := by simp
               have q3 : (F key != F key) = false := by simp
               have q4 : (F (k : Int) != F (k : Int)) = false := by simp
               have HB3 : Hid (Both wg BX BY a1 n' m c') := hb3
               unfold ptr at cx cy
               clear hF hxh hoh hgh ck4 hyg hog ck3 ck hh hr hb3
               go_quiet (first | (go_at_call 14; exact Calls.quiet_of_same (cx _ _)) | (go_at_call 15; exact Calls.quiet_of (cy _ _)))
               go_wp2
               go_roundw
               case rel => exact ⟨k + 1, n', c', by omega, by go_num, HB3.out.drewN _, grownDrewN hgg _, hnb.1, hnb.2⟩
               case measure => simp [intOf]; omega)
        · obtain rfl : k = len2 := by omega
          have sm := fun W h => @same_any W BX m a1 n c BY a1 (Both.x h) (Both.y h) m2
          have sm' : ∀ W, Both W BX BY a1 n m c → Calls Try.prog 16 #[ptr BX, ptr BY] W fun e w' => e = .returned (.bool true) ∧ Grown W w' := sm
          unfold ptr at sm'
          clear sm
          go_wp2_with (first | (go_at_call 16; refine (sm' _ hb).mono ?_; rintro e wp ⟨rfl, hgp⟩; replace hb := hb.grown hgp; replace hg := grownTrans hg hgp; clear hgp) | (go_at_call 17; refine (row_i (b := BX) hb.x m2 _ (by decide) (by decide)).mono ?_; rintro e wq ⟨rfl, hr, hgq⟩))
          have HR : Hid (BY + 5 ≤ wp.heap.size) := by have := hb.last; show BY + 5 ≤ _; omega
          have HW : Hid (w.heap.size ≤ wp.heap.size) := hg.2.2
          have hbq := hb.grown hgq
          have hgz := grownTrans hg hgq
          obtain ⟨R, hRe⟩ : ∃ R, R = wp.heap.size := ⟨_, rfl⟩
          rw [← hRe] at hr HR HW ⊢
          clear hRe hb hg hgq
          go_loopw [17] (fun i wz => ∃ (t : Nat) (f : Nat → Value), t ≤ 16 * m ∧ i = .int .i64 t ∧ wz.rowIs R 3 (16 * m) f ∧ Both wz BX BY a1 n m c ∧ Grown w wz) (fun i _ => 16 * m - (intOf i).toNat)
          case atStart => exact ⟨0, _, by omega, rfl, hr, hbq, hgz⟩
          case round =>
            clear hr hbq hgz
            obtain ⟨t, f, ht, rfl, hr, hb, hg⟩ := hrel
            by_cases htl : t < 16 * m
            · have c1 := hr.cell htl
              have c2 := hr.frozen t
              have HRR := hr
              clear hr
              go_wp2
              go_roundw
              case rel => exact ⟨t + 1, _, by omega, by go_num, HRR.set t _, hb.store HR.out t _, hg.setCell (a := ⟨R, t, none⟩) HW.out _⟩
              case measure => simp [intOf]; omega
            · obtain rfl : t = 16 * m := by omega
              clear hr
              go_wp2_with (first | (go_at_call 16; refine (sm' _ hb).mono ?_; rintro e wp' ⟨rfl, hgp⟩; replace hg := grownTrans hg hgp; clear hgp) | (go_at_call 17; refine (row_none BX _ (by decide)).mono ?_; rintro e wq' ⟨rfl, rfl⟩))
              go_ret
              exact ⟨rfl, hg⟩
  · have hl' : 1024 < a0 ∨ (a0 ≤ 1024 ∧ 400 < len2) := by omega
    clear hl hk
    rcases hl' with hl | ⟨hl, hl'⟩
    · have hd3 : decide (1024 < a0) = true := by rw [decide_eq_true_eq]; omega
      go_enter Try.func3, Try.ntmps3
      go_wp2_with (first | (go_at_call 7; refine (small_any _).mono ?_; rintro e ws ⟨rfl, hgs⟩))
      go_ret
      exact ⟨rfl, hgs⟩
    · have hd3 : decide (1024 < a0) = false := by rw [decide_eq_false_iff_not]; omega
      have hd4 : decide (400 < (len2 : Int)) = true := by rw [decide_eq_true_eq]; omega
      go_enter Try.func3, Try.ntmps3
      go_wp2_with (first | (go_at_call 7; refine (small_any _).mono ?_; rintro e ws ⟨rfl, hgs⟩))
      go_ret
      exact ⟨rfl, hgs⟩

/-! ### THE ROW's STEP: WRITTEN OUT: LEAVE IT -/
set_option maxRecDepth 100000 in
theorem lifted (os : Os) (started : os.Started) (H : Type) (enc : TypeId × Value → H) :
    ReturnsInHanded {} Try.checked os 3 .any (Rows.sketchPlaysSpec.pre6 enc Try.prog Try.f3 Rows.sketchPlaysRow.domain false) (Rows.sketchPlaysSpec.post enc Try.prog Try.f3 false true false false) := by
  refine returnsInHanded_of_change (C := Try.checked) own started (by kernel_rfl) Try.func3
    (ChangeSpec.witness6 (enc := enc) (C := Try.checked) false ⟨#[], #[.int .i64 0, .int .i64 0, .slice none 0 0], []⟩ 8 (by kernel_rfl) (by kernel_rfl) (by kernel_rfl) (by kernel_rfl)) ?_
  intro W base args ds gs before hval0 hW hcnd _
  have hval : ∀ (j : Nat) t v, Try.f3.params[j]? = some t → args[j]? = some v → Value.okWide Try.prog W .any base t v := hval0
  have hW' := hW
  obtain ⟨p, q, hA0, hV, rfl, hfz, hnd⟩ := hW
  have hA : DataW.TrodAll enc Try.prog W 0 (fun _ => true) true Try.f3.params.toList args.toList ds p := hA0
  rw [Try.params3] at hA hval
  obtain ⟨v0, vs0, d0, ds0, p0, q0, hargs, rfl, rfl, h0, r0⟩ := trodAll_cons hA
  obtain ⟨v1, vs1, d1, ds1, p1, q1, rfl, rfl, rfl, h1, r1⟩ := trodAll_cons r0
  obtain ⟨v2, vs2, d2, ds2, p2, q2, rfl, rfl, rfl, h2, r2⟩ := trodAll_cons r1
  obtain ⟨rfl, rfl, rfl⟩ := trodAll_nil r2
  obtain rfl : args = #[v0, v1, v2] := by cases args; simp_all
  obtain ⟨rfl, rfl⟩ := trodVars_none hV
  obtain ⟨a0, rfl, rfl, rfl, w0⟩ := open_int Try.underlying3 (hval 0 3 v0 rfl rfl) h0
  obtain ⟨a1, rfl, rfl, rfl, w1⟩ := open_int Try.underlying3 (hval 1 3 v1 rfl rfl) h1
  obtain ⟨a2, len2, cap2, rfl⟩ := okWide_slice Try.underlying22 (hval 2 22 v2 rfl rfl)
  have k2 := h2
  have lt2 : ∀ x ∈ p2, x.block < W.heap.size := by obtain ⟨m, hm⟩ := k2; exact DataW.trod_lt m _ _ _ hm
  obtain ⟨z2, w2⟩ : ∃ zs, IsRow .i64 W a2 len2 cap2 zs := by
    obtain ⟨fuel, hf⟩ := h2
    rcases open_ints Try.underlying22 Try.underlying3 (by kernel_rfl) hf with ⟨hcs, _⟩ | ⟨x, l, c, zs, hcs, _, hl, hm, hz, _, hcell, hwz⟩
    · simp [Value.cells] at hcs
      obtain ⟨rfl, rfl, rfl⟩ := hcs
      exact ⟨[], .inl ⟨rfl, rfl, rfl, rfl⟩⟩
    · simp [Value.cells] at hcs
      obtain ⟨rfl, rfl, rfl⟩ := hcs
      exact ⟨zs, .inr ⟨_, rfl, hl, hm, by simpa using hz, hcell, hwz⟩⟩
  clear hA0 hval0
  refine (walk a0 a1 a2 len2 cap2 z2 W w0 w1 w2).mono fun e W' ⟨he, bel⟩ => ?_
  subst he
  exact ⟨_, rfl, _, _, _, [], _, [], hW', trodAll_mk1 (shut_bool Try.underlying4 _), (trodAll_cons_mk (shut_int Try.underlying3 w0) (trodAll_cons_mk (shut_int Try.underlying3 w1) (trodAll_cons_mk (grown_trod laidOut (by kernel_rfl) (of_decide_eq_true (by kernel_rfl)) k2 bel lt2) trodAll_mk0))), rfl, bel.frame _, fun h => by cases h⟩

theorem over : Rows.sketchPlaysRow.holds Try.pinned (OpenSpec.ofChange Rows.sketchPlaysSpec) :=
  OpenClaim.holds_of_wide 3 Try.f3 rfl rfl rfl rfl rfl rfl rfl ⟨rfl, rfl, rfl, rfl, rfl⟩ rfl rfl rfl rfl rfl (by kernel_rfl) Try.func3 (by kernel_rfl)
    (of_decide_eq_true (by kernel_rfl)) (by unfold Func.isWrapper; first | (rw [if_pos (by decide +kernel)]; kernel_rfl) | (rw [if_neg (by decide +kernel)]; exact ⟨rfl, rfl⟩))
    (fun os started H enc _ => lifted os started H enc)

/-- ████ THE STATEMENT ████ -/
theorem proved : Rows.SketchPlaysSaid := over
end Go.Proofs.Ytifhohhdoplbnaa.sketchPlays

namespace Go.Proofs.Ytifhohhdoplbnaa
/-- The given statement. -/
theorem sketchPlays_holds : Rows.SketchPlaysSaid := sketchPlays.proved
#print axioms sketchPlays_holds
end Go.Proofs.Ytifhohhdoplbnaa
