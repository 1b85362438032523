/-
  Proved: pantrylaw04.DoorPlays returns true for every width, every seed and every slice of keys: key by key a door is the document's (P4.1, P4.2). No condition.
-/
import Derived.Test.YtmhmoonjejillaaRows
import Derived.WalkKit
import Derived.ProofKit
import Derived.OpenShut
import Derived.Test.YtmhmoonjejillaaDrPlay
import Derived.ShutString
import Derived.ChangeOld
import Derived.Below
namespace Go.Proofs.Ytmhmoonjejillaa.doorPlays
open Go.ChangeShapes Go.WideShapes Go.ChangeAt Go.RowKit
open Go.ChangeMaps (open_string shut_string)
set_option linter.unusedVariables false

theorem own : ownKnob Try.prog.godebug = none := by kernel_rfl
theorem laidOut : laidOutB Try.prog = true := by kernel_rfl

/-- WHAT THE WALK IS TOLD OF A SLICE OF INTEGERS THAT CAME IN: it is nil; or it leads to a row of 'cap' cells, the numbers 'zs' (the first 'len' are its elements, the rest its spare room), each fitting its kind. -/
def IsRow (k : IntKind) (w : World) (a : Option Addr) (len cap : Nat) (zs : List Int) : Prop :=
  (a = none ∧ len = 0 ∧ cap = 0 ∧ zs = []) ∨
  ∃ x, a = some x ∧ len ≤ cap ∧ cap ≤ maxLen ∧ zs.length = cap ∧ (∀ i, i < zs.length → w.cell? (x.add i) = some (.int k (zs.getD i 0))) ∧ ∀ n ∈ zs, (Lit.int k n).wf = true

/-! ### STEP 1: THE WALK: the Go text returns true, AND WRITES NOTHING THAT WAS THERE: 'Below w.heap.size w w'' (Derived/Below.lean: '.refl', '.alloc', '.drew', '.setCell' at a new block, '.trans'). Open each 'IsRow' by 'rcases' AHEAD of 'go_enter'; part every test ahead of the walk. -/
set_option maxRecDepth 20000 in set_option maxHeartbeats 16000000 in
theorem walk (a0 : Int) (a1 : Int) (a2 : Option Addr) (len2 cap2 : Nat) (z2 : List Int) (w : World) (w0 : (Lit.int .i64 a0).wf = true) (w1 : (Lit.int .i64 a1).wf = true) (w2 : IsRow .i64 w a2 len2 cap2 z2) :
    Calls Try.prog 3 #[.int .i64 a0, .int .i64 a1, .slice a2 len2 cap2] w fun e w' => e = .returned (.bool true) ∧ Grown w w' := by
  have hk := keys_open w2
  clear w0 w1 w2
  by_cases hl : a0 ≤ 1024 ∧ len2 ≤ 300
  · obtain ⟨hl0, hl⟩ := hl
    obtain ⟨m, m1, m2, hm, hP⟩ := words_of a0
    have nw := fun w => new_b a0 a1 w m m2 hm
    have rn := fun w => rNew_any a0 a1 w m m2 hm
    unfold ptr at nw rn
    clear hm hP
    have hd3 : decide (300 < (len2 : Int)) = false := by rw [decide_eq_false_iff_not]; omega
    have hd4 : decide (1024 < a0) = false := by rw [decide_eq_false_iff_not]; omega
    have hk' : Hid (len2 = 0) ∨ ∃ b off, a2 = some ⟨b, off, none⟩ ∧ b < w.heap.size ∧ ∀ i, i < len2 → w.cell? ⟨b, off + i, none⟩ = some (.int .i64 (z2.getD i 0)) := hk
    clear hk
    rcases hk' with HL | ⟨kb, off, rfl, hkb, hcell⟩
    all_goals
      go_enter Try.func3, Try.ntmps3
      go_wp2_with (first | (go_at_call 7; refine (dSmall_any _).mono ?_; rintro e ws ⟨rfl, hgs⟩) | (go_at_call 8; refine (nw _).mono ?_; rintro e wx ⟨rfl, hx, hgx⟩) | (go_at_call 9; refine (rn _).mono ?_; rintro e wy ⟨rfl, hy, hgy⟩))
      have hb : BothD wy ws.heap.size wx.heap.size a1 m noS := ⟨hx.grown hgy, hy, by have := hx.last; omega⟩
      have hg := grownTrans (grownTrans hgs hgx) hgy
      obtain ⟨BX, hBX⟩ : ∃ BX, BX = ws.heap.size := ⟨_, rfl⟩
      obtain ⟨BY, hBY⟩ : ∃ BY, BY = wx.heap.size := ⟨_, rfl⟩
      have HB : Hid (w.heap.size ≤ BX) := by rw [hBX]; exact hgs.2.2
      rw [← hBX, ← hBY] at hb ⊢
      clear hBX hBY nw rn hx hy hgs hgx hgy
      obtain ⟨n, hn⟩ : ∃ n : Nat, n = 64 * m := ⟨_, rfl⟩
      have sz : ∀ d, Calls Try.prog 10 #[ptr (BX + 1)] (wy.drewN d) fun e w' => e = .returned (.int .i64 (n : Int)) ∧ w' = wy.drewN d := fun d => by
        have := size_b (hb.drewN d).x m2
        rw [show (64 * (m : Int)) = (n : Int) by omega] at this
        exact this
      have cl := Ow.cell1 hb.y
      rw [← hn] at cl
      have q0 : ((n : Int) != (n : Int)) = false := by simp
      have HBB : Hid (BothD wy BX BY a1 m noS) := hb
      clear hb hn
      unfold ptr at sz
      go_quiet (first | (go_at_call 10; exact Calls.quiet_of_same (sz _)))
      go_wp2
      clear sz cl q0
      go_loopw [10] (fun i wr => ∃ (k : Nat) (s : Nat → Bool), k ≤ len2 ∧ i = .int .i64 k ∧ BothD wr BX BY a1 m s ∧ Grown w wr) (fun i _ => len2 - (intOf i).toNat)
      case atStart => exact ⟨0, noS, by omega, rfl, HBB.out.drewN _, grownDrewN hg _⟩
      case round =>
        clear HBB hg
        obtain ⟨k, s, hk, rfl, hb, hg⟩ := hrel
        by_cases hlt : k < len2
        · first
          | exact absurd hlt (by have := HL.out; omega)
          | (have ck := keys_cell (hcell k hlt) hkb hg
             have hd : decide ((k : Int) < (len2 : Int)) = true := by rw [decide_eq_true_eq]; omega
             obtain ⟨key, hkey⟩ : ∃ key, key = z2.getD k 0 := ⟨_, rfl⟩
             have ck3 : ∀ W, Grown w W → W.cell? ⟨kb, off + k, none⟩ = some (.int .i64 key) := fun W g => by rw [hkey]; exact keys_cell (hcell k hlt) hkb g
             rw [← hkey] at ck
             clear hkey
             have HBB : Hid (BothD wr BX BY a1 m s) := hb
             by_cases hkm : key = -1
             · subst hkm
               have hh := clear_b hb.x (by omega)
               have hr := fun W (h : Rd W BY a1 m s) => rClear_any h m2
               have ox := fun W (h : BothD W BX BY a1 m noS) => ones_b h.x m2
               have oy := fun W (h : BothD W BX BY a1 m noS) => rOnes_any h.y m2
               have xh := fun W (h : BothD W BX BY a1 m noS) => has_b h.x (by omega) m2 (k : Int)
               have yh := fun W (h : BothD W BX BY a1 m noS) => rHas_any h.y (by omega) m2 (k : Int)
               simp only [show cn noS (64 * m) = 0 from cn_off _] at ox oy
               simp only [hasS_no] at xh yh
               unfold ptr at hh hr ox oy xh yh
               clear hb
               go_wp2_with (first | (go_at_call 11; refine hh.mono ?_; rintro e wh ⟨rfl, hxh, hoh⟩) | (go_at_call 12; refine (hr _ (HBB.out.keepY hoh)).mono ?_; rintro e wg ⟨rfl, hyg, hog⟩; have hb3 := HBB.out.mk2 hxh hyg hog) | (go_at_call 15; refine (ox _ hb3).mono ?_; rintro e w' ⟨rfl, hw⟩; have hw := hw.symm; subst hw) | (go_at_call 16; refine (oy _ hb3).mono ?_; rintro e w' ⟨rfl, hw⟩; have hw := hw.symm; subst hw) | (go_at_call 17; refine (xh _ hb3).mono ?_; rintro e w4 ⟨rfl, hg4⟩) | (go_at_call 18; refine (yh _ (hb3.grown hg4)).mono ?_; rintro e w' ⟨rfl, d5, hw⟩; subst hw))
               go_roundw
               case rel => exact ⟨k + 1, noS, by omega, by go_num, (hb3.grown hg4).drewN d5, grownDrewN (grownTrans (grownD hg hoh hog HB.out hb3.apart) hg4) d5⟩
               case measure => simp [intOf]; omega
             · have hkb' : (key == -1) = false := by simpa using hkm
               have hh := fun W (h : Drb W BX a1 m s) => put_b h (by omega) m2 key
               have hr := fun W (h : Rd W BY a1 m s) => rPut_any h (by omega) m2 key
               obtain ⟨had, hhad⟩ : ∃ had, had = hasS s (mixB a1 key) m := ⟨_, rfl⟩
               obtain ⟨s', hs'⟩ : ∃ s', s' = putS s (mixB a1 key) m := ⟨_, rfl⟩
               simp only [← hhad, ← hs'] at hh hr
               have ox := fun W (h : BothD W BX BY a1 m s') => ones_b h.x m2
               have oy := fun W (h : BothD W BX BY a1 m s') => rOnes_any h.y m2
               have xh := fun W (h : BothD W BX BY a1 m s') => has_b h.x (by omega) m2 (k : Int)
               have yh := fun W (h : BothD W BX BY a1 m s') => rHas_any h.y (by omega) m2 (k : Int)
               obtain ⟨N, hN⟩ : ∃ N, N = cn s' (64 * m) := ⟨_, rfl⟩
               obtain ⟨h4, hh4⟩ : ∃ h4, h4 = hasS s' (mixB a1 (k : Int)) m := ⟨_, rfl⟩
               simp only [← hN] at ox oy
               simp only [← hh4] at xh yh
               have q1 : (had != had) = false := by simp
               have q2 : ((N : Int) != (N : Int)) = false := by simp
               have q3 : (h4 != h4) = false := by simp
               unfold ptr at hh hr ox oy xh yh
               clear hb hhad hs' hN hh4 hkm
               go_wp2
               go_region_with (first | (go_at_call 13; refine (hh _ (by first | exact (HBB.out.drewN _).x | exact HBB.out.x)).mono ?_; rintro e wh ⟨rfl, hxh, hoh⟩; have hgh := hoh.grown (grownDrewN hg 1) HB.out; have ck4 := ck3 _ hgh) | (go_at_call 14; refine (hr _ ((HBB.out.drewN _).keepY hoh)).mono ?_; rintro e wg ⟨rfl, hyg, hog⟩; have hgg := hog.grown hgh (by have := HB.out; have := HBB.out.apart; omega); have ck5 := ck3 _ hgg; have hb3 := HBB.out.mk2 hxh hyg hog))
               all_goals
                 clear hh hr ck ck3 ck4 ck5 HBB hxh hyg hoh hog hgh hg
                 go_wp2_with (first | (go_at_call 15; refine (ox _ hb3).mono ?_; rintro e w' ⟨rfl, hw⟩; have hw := hw.symm; subst hw) | (go_at_call 16; refine (oy _ hb3).mono ?_; rintro e w' ⟨rfl, hw⟩; have hw := hw.symm; subst hw) | (go_at_call 17; refine (xh _ hb3).mono ?_; rintro e w4 ⟨rfl, hg4⟩) | (go_at_call 18; refine (yh _ (hb3.grown hg4)).mono ?_; rintro e w' ⟨rfl, d5, hw⟩; subst hw))
                 go_roundw
                 case rel => exact ⟨k + 1, s', by omega, by go_num, (hb3.grown hg4).drewN d5, grownDrewN (grownTrans hgg hg4) d5⟩
                 case measure => simp [intOf]; omega)
        · obtain rfl : k = len2 := by omega
          go_wp2
          go_ret
          exact ⟨rfl, hg⟩
  · have hl' : 1024 < a0 ∨ (a0 ≤ 1024 ∧ 300 < len2) := by omega
    clear hl hk
    rcases hl' with hl | ⟨hl, hl'⟩
    · have hd3 : decide (1024 < a0) = true := by rw [decide_eq_true_eq]; omega
      go_enter Try.func3, Try.ntmps3
      go_wp2_with (first | (go_at_call 7; refine (dSmall_any _).mono ?_; rintro e ws ⟨rfl, hgs⟩))
      go_ret
      exact ⟨rfl, hgs⟩
    · have hd3 : decide (1024 < a0) = false := by rw [decide_eq_false_iff_not]; omega
      have hd4 : decide (300 < (len2 : Int)) = true := by rw [decide_eq_true_eq]; omega
      go_enter Try.func3, Try.ntmps3
      go_wp2_with (first | (go_at_call 7; refine (dSmall_any _).mono ?_; rintro e ws ⟨rfl, hgs⟩))
      go_ret
      exact ⟨rfl, hgs⟩

/-! ### THE ROW's STEP: WRITTEN OUT: LEAVE IT -/
set_option maxRecDepth 100000 in
theorem lifted (os : Os) (started : os.Started) (H : Type) (enc : TypeId × Value → H) :
    ReturnsInHanded {} Try.checked os 3 .any (Rows.doorPlaysSpec.pre6 enc Try.prog Try.f3 Rows.doorPlaysRow.domain false) (Rows.doorPlaysSpec.post enc Try.prog Try.f3 false true false false) := by
  refine returnsInHanded_of_change (C := Try.checked) own started (by kernel_rfl) Try.func3
    (ChangeSpec.witness6 (enc := enc) (C := Try.checked) false ⟨#[], #[.int .i64 0, .int .i64 0, .slice none 0 0], []⟩ 8 (by kernel_rfl) (by kernel_rfl) (by kernel_rfl) (by kernel_rfl)) ?_
  intro W base args ds gs before hval0 hW hcnd _
  have hval : ∀ (j : Nat) t v, Try.f3.params[j]? = some t → args[j]? = some v → Value.okWide Try.prog W .any base t v := hval0
  have hW' := hW
  obtain ⟨p, q, hA0, hV, rfl, hfz, hnd⟩ := hW
  have hA : DataW.TrodAll enc Try.prog W 0 (fun _ => true) true Try.f3.params.toList args.toList ds p := hA0
  rw [Try.params3] at hA hval
  obtain ⟨v0, vs0, d0, ds0, p0, q0, hargs, rfl, rfl, h0, r0⟩ := trodAll_cons hA
  obtain ⟨v1, vs1, d1, ds1, p1, q1, rfl, rfl, rfl, h1, r1⟩ := trodAll_cons r0
  obtain ⟨v2, vs2, d2, ds2, p2, q2, rfl, rfl, rfl, h2, r2⟩ := trodAll_cons r1
  obtain ⟨rfl, rfl, rfl⟩ := trodAll_nil r2
  obtain rfl : args = #[v0, v1, v2] := by cases args; simp_all
  obtain ⟨rfl, rfl⟩ := trodVars_none hV
  obtain ⟨a0, rfl, rfl, rfl, w0⟩ := open_int Try.underlying3 (hval 0 3 v0 rfl rfl) h0
  obtain ⟨a1, rfl, rfl, rfl, w1⟩ := open_int Try.underlying3 (hval 1 3 v1 rfl rfl) h1
  obtain ⟨a2, len2, cap2, rfl⟩ := okWide_slice Try.underlying22 (hval 2 22 v2 rfl rfl)
  have k2 := h2
  have lt2 : ∀ x ∈ p2, x.block < W.heap.size := by obtain ⟨m, hm⟩ := k2; exact DataW.trod_lt m _ _ _ hm
  obtain ⟨z2, w2⟩ : ∃ zs, IsRow .i64 W a2 len2 cap2 zs := by
    obtain ⟨fuel, hf⟩ := h2
    rcases open_ints Try.underlying22 Try.underlying3 (by kernel_rfl) hf with ⟨hcs, _⟩ | ⟨x, l, c, zs, hcs, _, hl, hm, hz, _, hcell, hwz⟩
    · simp [Value.cells] at hcs
      obtain ⟨rfl, rfl, rfl⟩ := hcs
      exact ⟨[], .inl ⟨rfl, rfl, rfl, rfl⟩⟩
    · simp [Value.cells] at hcs
      obtain ⟨rfl, rfl, rfl⟩ := hcs
      exact ⟨zs, .inr ⟨_, rfl, hl, hm, by simpa using hz, hcell, hwz⟩⟩
  clear hA0 hval0
  refine (walk a0 a1 a2 len2 cap2 z2 W w0 w1 w2).mono fun e W' ⟨he, bel⟩ => ?_
  subst he
  exact ⟨_, rfl, _, _, _, [], _, [], hW', trodAll_mk1 (shut_bool Try.underlying4 _), (trodAll_cons_mk (shut_int Try.underlying3 w0) (trodAll_cons_mk (shut_int Try.underlying3 w1) (trodAll_cons_mk (grown_trod laidOut (by kernel_rfl) (of_decide_eq_true (by kernel_rfl)) k2 bel lt2) trodAll_mk0))), rfl, bel.frame _, fun h => by cases h⟩

theorem over : Rows.doorPlaysRow.holds Try.pinned (OpenSpec.ofChange Rows.doorPlaysSpec) :=
  OpenClaim.holds_of_wide 3 Try.f3 rfl rfl rfl rfl rfl rfl rfl ⟨rfl, rfl, rfl, rfl, rfl⟩ rfl rfl rfl rfl rfl (by kernel_rfl) Try.func3 (by kernel_rfl)
    (of_decide_eq_true (by kernel_rfl)) (by unfold Func.isWrapper; first | (rw [if_pos (by decide +kernel)]; kernel_rfl) | (rw [if_neg (by decide +kernel)]; exact ⟨rfl, rfl⟩))
    (fun os started H enc _ => lifted os started H enc)

/-- ████ THE STATEMENT ████ -/
theorem proved : Rows.DoorPlaysSaid := over
end Go.Proofs.Ytmhmoonjejillaa.doorPlays

namespace Go.Proofs.Ytmhmoonjejillaa
/-- The given statement. -/
theorem doorPlays_holds : Rows.DoorPlaysSaid := doorPlays.proved
#print axioms doorPlays_holds
end Go.Proofs.Ytmhmoonjejillaa
