/-
  Proved: pantrylaw04.DoorOrder returns true for every width, every seed, every slice of keys and every other key: the order in which keys come does not matter, nor how often they come (P4.2). No condition.
-/
import Derived.Test.YtmhmoonjejillaaRows
import Derived.WalkKit
import Derived.ProofKit
import Derived.OpenShut
import Derived.Test.YtmhmoonjejillaaDrLaws
import Derived.ShutString
import Derived.ChangeOld
import Derived.Below
namespace Go.Proofs.Ytmhmoonjejillaa.doorOrder
open Go.ChangeShapes Go.WideShapes Go.ChangeAt Go.RowKit
open Go.ChangeMaps (open_string shut_string)
set_option linter.unusedVariables false

theorem own : ownKnob Try.prog.godebug = none := by kernel_rfl
theorem laidOut : laidOutB Try.prog = true := by kernel_rfl

/-- WHAT THE WALK IS TOLD OF A SLICE OF INTEGERS THAT CAME IN: it is nil; or it leads to a row of 'cap' cells, the numbers 'zs' (the first 'len' are its elements, the rest its spare room), each fitting its kind. -/
def IsRow (k : IntKind) (w : World) (a : Option Addr) (len cap : Nat) (zs : List Int) : Prop :=
  (a = none ∧ len = 0 ∧ cap = 0 ∧ zs = []) ∨
  ∃ x, a = some x ∧ len ≤ cap ∧ cap ≤ maxLen ∧ zs.length = cap ∧ (∀ i, i < zs.length → w.cell? (x.add i) = some (.int k (zs.getD i 0))) ∧ ∀ n ∈ zs, (Lit.int k n).wf = true

/-! ### STEP 1: THE WALK: the Go text returns true, AND WRITES NOTHING THAT WAS THERE: 'Below w.heap.size w w'' (Derived/Below.lean: '.refl', '.alloc', '.drew', '.setCell' at a new block, '.trans'). Open each 'IsRow' by 'rcases' AHEAD of 'go_enter'; part every test ahead of the walk. -/
set_option maxRecDepth 20000 in set_option maxHeartbeats 8000000 in
theorem walk (a0 : Int) (a1 : Int) (a2 : Option Addr) (len2 cap2 : Nat) (z2 : List Int) (a3 : Int) (w : World) (w0 : (Lit.int .i64 a0).wf = true) (w1 : (Lit.int .i64 a1).wf = true) (w2 : IsRow .i64 w a2 len2 cap2 z2) (w3 : (Lit.int .i64 a3).wf = true) :
    Calls Try.prog 5 #[.int .i64 a0, .int .i64 a1, .slice a2 len2 cap2, .int .i64 a3] w fun e w' => e = .returned (.bool true) ∧ Grown w w' := by
  have hk := keys_open w2
  clear w0 w1 w2 w3
  by_cases hl : a0 ≤ 1024 ∧ len2 ≤ 200
  · obtain ⟨hl0, hl⟩ := hl
    obtain ⟨m, m1, m2, hm, hP⟩ := words_of a0
    have nw := fun w => new_b a0 a1 w m m2 hm
    unfold ptr at nw
    clear hm hP
    have hd3 : decide (200 < (len2 : Int)) = false := by rw [decide_eq_false_iff_not]; omega
    have hd4 : decide (1024 < a0) = false := by rw [decide_eq_false_iff_not]; omega
    have hk' : Hid (len2 = 0) ∨ ∃ b off, a2 = some ⟨b, off, none⟩ ∧ b < w.heap.size ∧ ∀ i, i < len2 → w.cell? ⟨b, off + i, none⟩ = some (.int .i64 (z2.getD i 0)) := hk
    clear hk
    have T : Hid True := trivial
    rcases hk' with HL | ⟨kb, off, rfl, hkb, hcell⟩
    all_goals
      go_enter Try.func5, Try.ntmps5
      go_wp2_with (first | (go_at_call 7; refine (dSmall_any _).mono ?_; rintro e ws ⟨rfl, hgs⟩) | (go_at_call 8; clear T; refine (nw _).mono ?_; rintro e wx ⟨rfl, hx, hgx⟩) | (go_at_call 8; refine (nw _).mono ?_; rintro e wy ⟨rfl, hy, hgy⟩))
      have hg := grownTrans (grownTrans hgs hgx) hgy
      have ht : Twin wy ws.heap.size wx.heap.size a1 m noS noS := ⟨hx.grown hgy, hy, by have := hx.last; omega⟩
      obtain ⟨BX, hBX⟩ : ∃ BX, BX = ws.heap.size := ⟨_, rfl⟩
      obtain ⟨BY, hBY⟩ : ∃ BY, BY = wx.heap.size := ⟨_, rfl⟩
      have HB : Hid (w.heap.size ≤ BX) := by rw [hBX]; exact hgs.2.2
      rw [← hBX, ← hBY] at ht ⊢
      have HY : Hid (w.heap.size ≤ BY) := by have := ht.apart; have := HB.out; show _ ≤ _; omega
      clear hBX hBY nw hgs hgx hgy hx hy
      go_loopw [12] (fun i wr => ∃ (k : Nat) (s : Nat → Bool), k ≤ len2 ∧ i = .int .i64 k ∧ Twin wr BX BY a1 m s noS ∧ Grown w wr ∧ UpTo z2 a1 m s k) (fun i _ => len2 - (intOf i).toNat)
      case atStart => exact ⟨0, noS, by omega, rfl, ht, hg, upTo_zero _ _ _⟩
      case round =>
        clear ht hg
        obtain ⟨k, s, hk, rfl, ht, hg, hu⟩ := hrel
        by_cases hlt : k < len2
        · first
          | exact absurd hlt (by have := HL.out; omega)
          | (have ck := keys_cell (hcell k hlt) hkb hg
             have hu' := upTo_next hu
             obtain ⟨key, hkey⟩ : ∃ key, key = z2.getD k 0 := ⟨_, rfl⟩
             rw [← hkey] at ck hu'
             clear hkey
             have pt := put_b ht.x (by omega) m2 key
             obtain ⟨s', hs'⟩ : ∃ s', s' = putS s (mixB a1 key) m := ⟨_, rfl⟩
             rw [← hs'] at pt hu'
             have HU : Hid (UpTo z2 a1 m s' (k + 1)) := hu'
             clear hs' hu hu'
             unfold ptr at pt
             go_wp2_with (first | (go_at_call 13; refine pt.mono ?_; rintro e w2 ⟨rfl, hs2, ho2⟩))
             go_roundw
             case rel => exact ⟨k + 1, s', by omega, by go_num, ht.setX hs2 ho2, ho2.grown hg HB.out, HU.out⟩
             case measure => simp [intOf]; omega)
        · obtain rfl : k = len2 := by omega
          have HU : Hid (UpTo z2 a1 m s k) := hu
          clear hu
          go_wp2
          go_loopw [13] (fun i wr => ∃ (t : Nat) (v : Int) (s2 : Nat → Bool), t ≤ k ∧ i = .int .i64 v ∧ v = (t : Int) - 1 ∧ Twin wr BX BY a1 m s s2 ∧ Grown w wr ∧ From z2 a1 m k s2 t) (fun i _ => (intOf i + 1).toNat)
          case atStart => exact ⟨k, _, noS, by omega, rfl, rfl, ht, hg, from_none _ _ _ _⟩
          case round =>
            clear ht hg
            obtain ⟨t, v, s2, htk, rfl, hv, ht, hg, hf⟩ := hrel
            by_cases hpos : 0 < t
            · first
              | exact absurd hpos (by have := HL.out; omega)
              | (obtain ⟨r, rfl⟩ : ∃ r, t = r + 1 := ⟨t - 1, by omega⟩
                 obtain rfl : v = (r : Int) := by omega
                 have ck := keys_cell (hcell r (by omega)) hkb hg
                 have c0 : ∀ W, Grown w W → W.cell? ⟨kb, off, none⟩ = some (.int .i64 (z2.getD 0 0)) := fun W g => keys_cell (k := 0) (hcell 0 (by omega)) hkb g
                 have hf' := from_next (by omega) hf
                 obtain ⟨key, hkey⟩ : ∃ key, key = z2.getD r 0 := ⟨_, rfl⟩
                 obtain ⟨key0, hkey0⟩ : ∃ key0, key0 = z2.getD 0 0 := ⟨_, rfl⟩
                 rw [← hkey] at ck hf'
                 rw [← hkey0] at hf'
                 simp only [← hkey0] at c0
                 clear hkey hkey0
                 have pt := put_b ht.y (by omega) m2 key
                 obtain ⟨s3, hs3⟩ : ∃ s3, s3 = putS s2 (mixB a1 key) m := ⟨_, rfl⟩
                 rw [← hs3] at pt hf'
                 have pt2 := fun W (h : Drb W BY a1 m s3) => put_b h (by omega) m2 key0
                 obtain ⟨s4, hs4⟩ : ∃ s4, s4 = putS s3 (mixB a1 key0) m := ⟨_, rfl⟩
                 rw [← hs4] at hf'
                 simp only [← hs4] at pt2
                 have HF : Hid (From z2 a1 m k s4 r) := hf'
                 have T : Hid True := trivial
                 clear hs3 hs4 hf hf' hv
                 unfold ptr at pt pt2
                 go_wp2_with (first | (go_at_call 13; clear T; refine pt.mono ?_; rintro e w2 ⟨rfl, hs2, ho2⟩; have hg2 := ho2.grown hg HY.out; have c02 := c0 _ hg2) | (go_at_call 13; refine (pt2 _ hs2).mono ?_; rintro e w3 ⟨rfl, hs3, ho3⟩))
                 go_roundw
                 case rel => exact ⟨r, _, s4, by omega, rfl, rfl, (ht.setY hs2 ho2).setY hs3 ho3, ho3.grown hg2 HY.out, HF.out⟩
                 case measure => simp [intOf])
            · obtain rfl : t = 0 := by omega
              obtain rfl : v = -1 := by omega
              obtain rfl : s = s2 := same_bits HU.out hf
              have ox := ones_b ht.x m2
              have oy := ones_b ht.y m2
              have hx := has_b ht.x (by omega) m2 a3
              have hy := fun W (h : Twin W BX BY a1 m s s) => has_b h.y (by omega) m2 a3
              obtain ⟨N, hN⟩ : ∃ N, N = cn s (64 * m) := ⟨_, rfl⟩
              obtain ⟨h3, hh3⟩ : ∃ h3, h3 = hasS s (mixB a1 a3) m := ⟨_, rfl⟩
              rw [← hN] at ox oy
              rw [← hh3] at hx
              simp only [← hh3] at hy
              have T : Hid True := trivial
              have T2 : Hid True := trivial
              have hbe : (h3 == h3) = true := by simp
              clear hN hh3 hf HU hv
              unfold ptr at ox oy hx hy
              go_wp2_with (first | (go_at_call 15; clear T; refine ox.mono ?_; rintro e w' ⟨rfl, hw⟩; have hw := hw.symm; subst hw) | (go_at_call 15; refine oy.mono ?_; rintro e w' ⟨rfl, hw⟩; have hw := hw.symm; subst hw) | (go_at_call 17; clear T2; refine hx.mono ?_; rintro e w2 ⟨rfl, hg2⟩) | (go_at_call 17; refine (hy _ (ht.grown hg2)).mono ?_; rintro e w3 ⟨rfl, hg3⟩))
              go_ret
              exact ⟨rfl, grownTrans (grownTrans hg hg2) hg3⟩
  · have hl' : 1024 < a0 ∨ (a0 ≤ 1024 ∧ 200 < len2) := by omega
    clear hl hk
    rcases hl' with hl | ⟨hl, hl'⟩
    · have hd3 : decide (1024 < a0) = true := by rw [decide_eq_true_eq]; omega
      go_enter Try.func5, Try.ntmps5
      go_wp2_with (first | (go_at_call 7; refine (dSmall_any _).mono ?_; rintro e ws ⟨rfl, hgs⟩))
      go_ret
      exact ⟨rfl, hgs⟩
    · have hd3 : decide (1024 < a0) = false := by rw [decide_eq_false_iff_not]; omega
      have hd4 : decide (200 < (len2 : Int)) = true := by rw [decide_eq_true_eq]; omega
      go_enter Try.func5, Try.ntmps5
      go_wp2_with (first | (go_at_call 7; refine (dSmall_any _).mono ?_; rintro e ws ⟨rfl, hgs⟩))
      go_ret
      exact ⟨rfl, hgs⟩

/-! ### THE ROW's STEP: WRITTEN OUT: LEAVE IT -/
set_option maxRecDepth 100000 in
theorem lifted (os : Os) (started : os.Started) (H : Type) (enc : TypeId × Value → H) :
    ReturnsInHanded {} Try.checked os 5 .any (Rows.doorOrderSpec.pre6 enc Try.prog Try.f5 Rows.doorOrderRow.domain false) (Rows.doorOrderSpec.post enc Try.prog Try.f5 false true false false) := by
  refine returnsInHanded_of_change (C := Try.checked) own started (by kernel_rfl) Try.func5
    (ChangeSpec.witness6 (enc := enc) (C := Try.checked) false ⟨#[], #[.int .i64 0, .int .i64 0, .slice none 0 0, .int .i64 0], []⟩ 8 (by kernel_rfl) (by kernel_rfl) (by kernel_rfl) (by kernel_rfl)) ?_
  intro W base args ds gs before hval0 hW hcnd _
  have hval : ∀ (j : Nat) t v, Try.f5.params[j]? = some t → args[j]? = some v → Value.okWide Try.prog W .any base t v := hval0
  have hW' := hW
  obtain ⟨p, q, hA0, hV, rfl, hfz, hnd⟩ := hW
  have hA : DataW.TrodAll enc Try.prog W 0 (fun _ => true) true Try.f5.params.toList args.toList ds p := hA0
  rw [Try.params5] at hA hval
  obtain ⟨v0, vs0, d0, ds0, p0, q0, hargs, rfl, rfl, h0, r0⟩ := trodAll_cons hA
  obtain ⟨v1, vs1, d1, ds1, p1, q1, rfl, rfl, rfl, h1, r1⟩ := trodAll_cons r0
  obtain ⟨v2, vs2, d2, ds2, p2, q2, rfl, rfl, rfl, h2, r2⟩ := trodAll_cons r1
  obtain ⟨v3, vs3, d3, ds3, p3, q3, rfl, rfl, rfl, h3, r3⟩ := trodAll_cons r2
  obtain ⟨rfl, rfl, rfl⟩ := trodAll_nil r3
  obtain rfl : args = #[v0, v1, v2, v3] := by cases args; simp_all
  obtain ⟨rfl, rfl⟩ := trodVars_none hV
  obtain ⟨a0, rfl, rfl, rfl, w0⟩ := open_int Try.underlying3 (hval 0 3 v0 rfl rfl) h0
  obtain ⟨a1, rfl, rfl, rfl, w1⟩ := open_int Try.underlying3 (hval 1 3 v1 rfl rfl) h1
  obtain ⟨a2, len2, cap2, rfl⟩ := okWide_slice Try.underlying22 (hval 2 22 v2 rfl rfl)
  have k2 := h2
  have lt2 : ∀ x ∈ p2, x.block < W.heap.size := by obtain ⟨m, hm⟩ := k2; exact DataW.trod_lt m _ _ _ hm
  obtain ⟨z2, w2⟩ : ∃ zs, IsRow .i64 W a2 len2 cap2 zs := by
    obtain ⟨fuel, hf⟩ := h2
    rcases open_ints Try.underlying22 Try.underlying3 (by kernel_rfl) hf with ⟨hcs, _⟩ | ⟨x, l, c, zs, hcs, _, hl, hm, hz, _, hcell, hwz⟩
    · simp [Value.cells] at hcs
      obtain ⟨rfl, rfl, rfl⟩ := hcs
      exact ⟨[], .inl ⟨rfl, rfl, rfl, rfl⟩⟩
    · simp [Value.cells] at hcs
      obtain ⟨rfl, rfl, rfl⟩ := hcs
      exact ⟨zs, .inr ⟨_, rfl, hl, hm, by simpa using hz, hcell, hwz⟩⟩
  obtain ⟨a3, rfl, rfl, rfl, w3⟩ := open_int Try.underlying3 (hval 3 3 v3 rfl rfl) h3
  clear hA0 hval0
  refine (walk a0 a1 a2 len2 cap2 z2 a3 W w0 w1 w2 w3).mono fun e W' ⟨he, bel⟩ => ?_
  subst he
  exact ⟨_, rfl, _, _, _, [], _, [], hW', trodAll_mk1 (shut_bool Try.underlying4 _), (trodAll_cons_mk (shut_int Try.underlying3 w0) (trodAll_cons_mk (shut_int Try.underlying3 w1) (trodAll_cons_mk (grown_trod laidOut (by kernel_rfl) (of_decide_eq_true (by kernel_rfl)) k2 bel lt2) (trodAll_cons_mk (shut_int Try.underlying3 w3) trodAll_mk0)))), rfl, bel.frame _, fun h => by cases h⟩

theorem over : Rows.doorOrderRow.holds Try.pinned (OpenSpec.ofChange Rows.doorOrderSpec) :=
  OpenClaim.holds_of_wide 5 Try.f5 rfl rfl rfl rfl rfl rfl rfl ⟨rfl, rfl, rfl, rfl, rfl⟩ rfl rfl rfl rfl rfl (by kernel_rfl) Try.func5 (by kernel_rfl)
    (of_decide_eq_true (by kernel_rfl)) (by unfold Func.isWrapper; first | (rw [if_pos (by decide +kernel)]; kernel_rfl) | (rw [if_neg (by decide +kernel)]; exact ⟨rfl, rfl⟩))
    (fun os started H enc _ => lifted os started H enc)

/-- ████ THE STATEMENT ████ -/
theorem proved : Rows.DoorOrderSaid := over
end Go.Proofs.Ytmhmoonjejillaa.doorOrder

namespace Go.Proofs.Ytmhmoonjejillaa
/-- The given statement. -/
theorem doorOrder_holds : Rows.DoorOrderSaid := doorOrder.proved
#print axioms doorOrder_holds
end Go.Proofs.Ytmhmoonjejillaa
