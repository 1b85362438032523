/-
  Proved: pantrylaw05.FilterPlays returns true for every capacity, every seed, every slice of keys and any other key: key by key a filter is the document's (P5.1, P5.2, P5.3). No condition.
-/
import Derived.Test.YtaelaikfpehciaaRows
import Derived.WalkKit
import Derived.ProofKit
import Derived.OpenShut
import Derived.Test.YtaelaikfpehciaaFtRef
import Derived.Test.YtaelaikfpehciaaGenCls
import Derived.ShutString
import Derived.ChangeOld
import Derived.Below
namespace Go.Proofs.Ytaelaikfpehciaa.filterPlays
open Go.ChangeShapes Go.WideShapes Go.ChangeAt Go.RowKit
open Go.ChangeMaps (open_string shut_string)
set_option linter.unusedVariables false

theorem own : ownKnob Try.prog.godebug = none := by kernel_rfl
theorem laidOut : laidOutB Try.prog = true := by kernel_rfl

/-- WHAT THE WALK IS TOLD OF A SLICE OF INTEGERS THAT CAME IN: it is nil; or it leads to a row of 'cap' cells, the numbers 'zs' (the first 'len' are its elements, the rest its spare room), each fitting its kind. -/
def IsRow (k : IntKind) (w : World) (a : Option Addr) (len cap : Nat) (zs : List Int) : Prop :=
  (a = none ∧ len = 0 ∧ cap = 0 ∧ zs = []) ∨
  ∃ x, a = some x ∧ len ≤ cap ∧ cap ≤ maxLen ∧ zs.length = cap ∧ (∀ i, i < zs.length → w.cell? (x.add i) = some (.int k (zs.getD i 0))) ∧ ∀ n ∈ zs, (Lit.int k n).wf = true

/-! ### STEP 1: THE WALK: the Go text returns true, AND WRITES NOTHING THAT WAS THERE: 'Below w.heap.size w w'' (Derived/Below.lean: '.refl', '.alloc', '.drew', '.setCell' at a new block, '.trans'). Open each 'IsRow' by 'rcases' AHEAD of 'go_enter'; part every test ahead of the walk. -/
set_option maxRecDepth 20000 in set_option maxHeartbeats 16000000 in
theorem walk (a0 : Int) (a1 : Int) (a2 : Option Addr) (len2 cap2 : Nat) (z2 : List Int) (a3 : Int) (w : World) (w0 : (Lit.int .i64 a0).wf = true) (w1 : (Lit.int .i64 a1).wf = true) (w2 : IsRow .i64 w a2 len2 cap2 z2) (w3 : (Lit.int .i64 a3).wf = true) :
    Calls Try.prog 3 #[.int .i64 a0, .int .i64 a1, .slice a2 len2 cap2, .int .i64 a3] w fun e w' => e = .returned (.bool true) ∧ Grown w w' := by
  have hk := keys_open w2
  clear w0 w1 w2 w3
  by_cases hl : a0 ≤ 1024 ∧ len2 ≤ 600
  · obtain ⟨hl0, hl⟩ := hl
    obtain ⟨m, m1, m2, hm⟩ := width_of a0
    have nw := fun w => new_f a0 a1 w m m1 m2 hm
    have rn := fun w => rNew_f a0 a1 w m m1 m2 hm
    unfold ptr at nw rn
    clear hm
    have hd3 : decide (600 < (len2 : Int)) = false := by rw [decide_eq_false_iff_not]; omega
    have hd4 : decide (1024 < a0) = false := by rw [decide_eq_false_iff_not]; omega
    have hk' : Hid (len2 = 0) ∨ ∃ b off, a2 = some ⟨b, off, none⟩ ∧ b < w.heap.size ∧ ∀ i, i < len2 → w.cell? ⟨b, off + i, none⟩ = some (.int .i64 (z2.getD i 0)) := hk
    clear hk
    rcases hk' with HL | ⟨kb, off, rfl, hkb, hcell⟩
    all_goals
      go_enter Try.func3, Try.ntmps3
      go_wp2_with (first | (go_at_call 7; refine (fSmall_any _).mono ?_; rintro e ws ⟨rfl, hgs⟩) | (go_at_call 8; refine (nw _).mono ?_; rintro e wx ⟨FX, rfl, hx, hgx⟩) | (go_at_call 9; refine (rn _).mono ?_; rintro e wy ⟨FY, rfl, hy, hgy⟩))
      have hb : BothF wy ws.heap.size FX wx.heap.size FY a1 m Fs.zero := ⟨hx.grown hgy, hy, hx.last⟩
      have hg := grownTrans (grownTrans hgs hgx) hgy
      obtain ⟨BX, hBX⟩ : ∃ BX, BX = ws.heap.size := ⟨_, rfl⟩
      obtain ⟨BY, hBY⟩ : ∃ BY, BY = wx.heap.size := ⟨_, rfl⟩
      have HB : Hid (w.heap.size ≤ BX) := by rw [hBX]; exact hgs.2.2
      rw [← hBX, ← hBY] at hb
      clear hBX hBY nw rn hx hy hgs hgx hgy
      go_loopw [12] (fun i wr => ∃ (k : Nat) (t : Fs), k ≤ len2 ∧ i = .int .i64 k ∧ BothF wr BX FX BY FY a1 m t ∧ Grown w wr ∧ 0 ≤ t.a ∧ t.a ≤ k) (fun i _ => len2 - (intOf i).toNat)
      case atStart => exact ⟨0, Fs.zero, by omega, rfl, hb, hg, Int.le_refl _, Int.le_refl _⟩
      case round =>
        clear hb hg
        obtain ⟨k, t, hk, rfl, hb, hg, ht0, ht1⟩ := hrel
        by_cases hlt : k < len2
        · first
          | exact absurd hlt (by have := HL.out; omega)
          | (have ck := keys_cell (hcell k hlt) hkb hg
             have hd : decide ((k : Int) < (len2 : Int)) = true := by rw [decide_eq_true_eq]; omega
             obtain ⟨key, hkey⟩ : ∃ key, key = z2.getD k 0 := ⟨_, rfl⟩
             have ck3 : ∀ W, Grown w W → W.cell? ⟨kb, off + k, none⟩ = some (.int .i64 key) := fun W g => by rw [hkey]; exact keys_cell (hcell k hlt) hkb g
             rw [← hkey] at ck
             clear hkey
             have rx := record_f hb.x ht0 (by omega) key
             have ry := fun (W : World) (h : Rl W BY FY a1 m t) => rRecord_f h ht0 (by omega) key
             have ab := t.come_abd (mixB a1 key) m
             obtain ⟨t', hte⟩ : ∃ t', t' = t.come (mixB a1 key) m := ⟨_, rfl⟩
             simp only [← hte] at rx ry ab
             have HA : Hid (0 ≤ t'.a ∧ t'.a ≤ ((k + 1 : Nat) : Int)) := by show _ ∧ _; omega
             obtain ⟨g, hge⟩ : ∃ g : Int → Int, g = fun y => t'.oft (mixB a1 y) m := ⟨_, rfl⟩
             have ox : ∀ W, BothF W BX FX BY FY a1 m t' → ∀ y, Calls Try.prog 13 #[ptr FX, .int .i64 y] W fun e w' => e = .returned (.int .i64 (g y)) ∧ Grown W w' := fun W h y => by rw [hge]; exact often_f h.x y
             have oy : ∀ W, BothF W BX FX BY FY a1 m t' → ∀ y, Calls Try.prog 12 #[ptr FY, .int .i64 y] W fun e w' => e = .returned (.int .i64 (g y)) ∧ Grown W w' := fun W h y => by
               rw [hge]
               refine (rOften_f h.y y).mono ?_
               rintro e w' ⟨rfl, d, rfl⟩
               exact ⟨rfl, grownDrewN (Grown.refl _) d⟩
             have bx : ∀ W, BothF W BX FX BY FY a1 m t' → ∀ y z, Calls Try.prog 15 #[ptr FX, .int .i64 y, .int .i64 z] W fun e w' => e = .returned (.bool (decide (g z < g y))) ∧ Grown W w' := fun W h y z => by rw [hge]; exact better_f h.x y z
             have ax : ∀ W, BothF W BX FX BY FY a1 m t' → Calls Try.prog 14 #[ptr FX] W fun e w' => e = .returned (.int .i64 t'.a) ∧ w' = W := fun W h => ages_f h.x
             obtain ⟨a, hae⟩ : ∃ a, a = t'.a := ⟨_, rfl⟩
             have cy : ∀ W, BothF W BX FX BY FY a1 m t' → W.cell? ⟨FY, 2, none⟩ = some (.int .i64 a) := fun W h => by rw [hae]; exact h.y.cell2
             simp only [← hae] at ax
             have HBB : Hid (BothF wr BX FX BY FY a1 m t) := hb
             have q1 : ∀ y, (g y != g y) = false := fun y => by simp
             have q2 : (a != a) = false := by simp
             have q3 : ∀ y, (g y == g y) = true := fun y => by simp
             clear hb hte ab hge hae
             unfold ptr at rx ry ox oy bx ax
             have hcase : decide (g a3 < g key) = true ∨ decide (g a3 < g key) = false := by cases decide (g a3 < g key) <;> simp
             go_wp2_with (first | (go_at_call 10; refine rx.mono ?_; rintro e wh ⟨rfl, hxh, hoh⟩; have hgh := hoh.grown hg HB.out; have ck4 := ck3 _ hgh) | (go_at_call 11; refine (ry _ (HBB.out.keepY hoh)).mono ?_; rintro e wg ⟨rfl, hyg, hog⟩; have hgg := hog.grown hgh (by have := HB.out; have := HBB.out.apart; have := HBB.out.x.lt; omega); have ck5 := ck3 _ hgg; have hb3 := HBB.out.mk2 hxh hyg hog) | (go_at_call 12; refine (oy _ hb3 _).mono ?_; rintro e w4 ⟨rfl, hg4⟩; replace hb3 := hb3.grown hg4; replace hgg := grownTrans hgg hg4; replace ck5 := ck3 _ hgg; clear hg4))
             clear rx ry ck ck4 HBB hxh hyg hoh hog hgh hg
             have cz := cy _ hb3
             obtain ⟨Good, hGood⟩ : ∃ Good : World → Prop, Good = fun W => BothF W BX FX BY FY a1 m t' ∧ Grown w W := ⟨_, rfl⟩
             have G : ∀ (W W' : World), Good W → Grown W W' → Good W' := fun W W' h h' => by
               rw [hGood] at h ⊢; exact ⟨h.1.grown h', grownTrans h.2 h'⟩
             have g0 : Good w4.drew := by rw [hGood]; exact ⟨hb3.grown (Grown.refl _).drew, hgg.drew⟩
             have GX : ∀ W, Good W → BothF W BX FX BY FY a1 m t' := fun W h => by rw [hGood] at h; exact h.1
             have HGO : Hid (∀ W, Good W → BothF W BX FX BY FY a1 m t' ∧ Grown w W) := fun W h => by rw [hGood] at h; exact h
             have k1 : ∀ r : Wor Good, r.w.cell? ⟨kb, off + k, none⟩ = some (.int .i64 key) := fun r => ck3 _ (HGO.out _ r.h).2
             have k2 : ∀ r : Wor Good, r.w.cell? ⟨FY, 2, none⟩ = some (.int .i64 a) := fun r => cy _ (GX _ r.h)
             have OX : Hid (∀ (r : Wor Good) (y : Int), Calls Try.prog 13 #[.pointer (some ⟨FX, 0, none⟩), .int .i64 y] r.w fun e w' => e = .returned (.int .i64 (g y)) ∧ ∃ r' : Wor Good, w' = r'.w) := fun r y => calls_class ((ox _ (GX _ r.h) y).mono fun _ _ ⟨he, hh⟩ => ⟨he, G _ _ r.h hh⟩)
             have OY : Hid (∀ (r : Wor Good) (y : Int), Calls Try.prog 12 #[.pointer (some ⟨FY, 0, none⟩), .int .i64 y] r.w fun e w' => e = .returned (.int .i64 (g y)) ∧ ∃ r' : Wor Good, w' = r'.w) := fun r y => calls_class ((oy _ (GX _ r.h) y).mono fun _ _ ⟨he, hh⟩ => ⟨he, G _ _ r.h hh⟩)
             have BE : Hid (∀ (r : Wor Good) (y z : Int), Calls Try.prog 15 #[.pointer (some ⟨FX, 0, none⟩), .int .i64 y, .int .i64 z] r.w fun e w' => e = .returned (.bool (decide (g z < g y))) ∧ ∃ r' : Wor Good, w' = r'.w) := fun r y z => calls_class ((bx _ (GX _ r.h) y z).mono fun _ _ ⟨he, hh⟩ => ⟨he, G _ _ r.h hh⟩)
             have AX : Hid (∀ (r : Wor Good), Calls Try.prog 14 #[.pointer (some ⟨FX, 0, none⟩)] r.w fun e w' => e = .returned (.int .i64 a) ∧ ∃ r' : Wor Good, w' = r'.w) := fun r => calls_class ((ax _ (GX _ r.h)).mono fun _ _ ⟨he, hh⟩ => ⟨he, by rw [hh]; exact r.h⟩)
             have hne : Nonempty (Wor Good) := ⟨⟨_, g0⟩⟩
             clear hGood G GX ck3 cy ox oy bx ax hb3 hgg ck5 cz hcell
             rcases hcase with hq | hq
             all_goals
               refine wp_region_class (Good := Good) (by kernel_rfl) (by kernel_rfl) g0 ?_
               repeat (go_big_quiet_step (first | (go_at_call 13; exact OX.out _ _) | (go_at_call 12; exact OY.out _ _) | (go_at_call 15; exact BE.out _ _ _) | (go_at_call 14; exact AX.out _)))
               refine wpQuiet_nil ?_
               intro _ hw'
               obtain ⟨r, hw''⟩ := hw'
               subst hw''
               have hgo := HGO.out _ r.h
               clear k1 k2 OX OY BE AX
               go_wp2
               go_roundw
               case rel => exact ⟨k + 1, t', by omega, by go_num, hgo.1, hgo.2, HA.out.1, HA.out.2⟩
               case measure => simp [intOf]; omega)
        · obtain rfl : k = len2 := by omega
          have hd : decide ((k : Int) < (k : Int)) = false := by rw [decide_eq_false_iff_not]; omega
          clear hb
          go_wp2
          go_ret
          exact ⟨rfl, hg⟩
  · have hl' : 1024 < a0 ∨ (a0 ≤ 1024 ∧ 600 < len2) := by omega
    clear hl hk
    rcases hl' with hl | ⟨hl, hl'⟩
    · have hd3 : decide (1024 < a0) = true := by rw [decide_eq_true_eq]; omega
      go_enter Try.func3, Try.ntmps3
      go_wp2_with (first | (go_at_call 7; refine (fSmall_any _).mono ?_; rintro e ws ⟨rfl, hgs⟩))
      go_ret
      exact ⟨rfl, hgs⟩
    · have hd3 : decide (1024 < a0) = false := by rw [decide_eq_false_iff_not]; omega
      have hd4 : decide (600 < (len2 : Int)) = true := by rw [decide_eq_true_eq]; omega
      go_enter Try.func3, Try.ntmps3
      go_wp2_with (first | (go_at_call 7; refine (fSmall_any _).mono ?_; rintro e ws ⟨rfl, hgs⟩))
      go_ret
      exact ⟨rfl, hgs⟩

/-! ### THE ROW's STEP: WRITTEN OUT: LEAVE IT -/
set_option maxRecDepth 100000 in
theorem lifted (os : Os) (started : os.Started) (H : Type) (enc : TypeId × Value → H) :
    ReturnsInHanded {} Try.checked os 3 .any (Rows.filterPlaysSpec.pre6 enc Try.prog Try.f3 Rows.filterPlaysRow.domain false) (Rows.filterPlaysSpec.post enc Try.prog Try.f3 false true false false) := by
  refine returnsInHanded_of_change (C := Try.checked) own started (by kernel_rfl) Try.func3
    (ChangeSpec.witness6 (enc := enc) (C := Try.checked) false ⟨#[], #[.int .i64 0, .int .i64 0, .slice none 0 0, .int .i64 0], []⟩ 8 (by kernel_rfl) (by kernel_rfl) (by kernel_rfl) (by kernel_rfl)) ?_
  intro W base args ds gs before hval0 hW hcnd _
  have hval : ∀ (j : Nat) t v, Try.f3.params[j]? = some t → args[j]? = some v → Value.okWide Try.prog W .any base t v := hval0
  have hW' := hW
  obtain ⟨p, q, hA0, hV, rfl, hfz, hnd⟩ := hW
  have hA : DataW.TrodAll enc Try.prog W 0 (fun _ => true) true Try.f3.params.toList args.toList ds p := hA0
  rw [Try.params3] at hA hval
  obtain ⟨v0, vs0, d0, ds0, p0, q0, hargs, rfl, rfl, h0, r0⟩ := trodAll_cons hA
  obtain ⟨v1, vs1, d1, ds1, p1, q1, rfl, rfl, rfl, h1, r1⟩ := trodAll_cons r0
  obtain ⟨v2, vs2, d2, ds2, p2, q2, rfl, rfl, rfl, h2, r2⟩ := trodAll_cons r1
  obtain ⟨v3, vs3, d3, ds3, p3, q3, rfl, rfl, rfl, h3, r3⟩ := trodAll_cons r2
  obtain ⟨rfl, rfl, rfl⟩ := trodAll_nil r3
  obtain rfl : args = #[v0, v1, v2, v3] := by cases args; simp_all
  obtain ⟨rfl, rfl⟩ := trodVars_none hV
  obtain ⟨a0, rfl, rfl, rfl, w0⟩ := open_int Try.underlying3 (hval 0 3 v0 rfl rfl) h0
  obtain ⟨a1, rfl, rfl, rfl, w1⟩ := open_int Try.underlying3 (hval 1 3 v1 rfl rfl) h1
  obtain ⟨a2, len2, cap2, rfl⟩ := okWide_slice Try.underlying22 (hval 2 22 v2 rfl rfl)
  have k2 := h2
  have lt2 : ∀ x ∈ p2, x.block < W.heap.size := by obtain ⟨m, hm⟩ := k2; exact DataW.trod_lt m _ _ _ hm
  obtain ⟨z2, w2⟩ : ∃ zs, IsRow .i64 W a2 len2 cap2 zs := by
    obtain ⟨fuel, hf⟩ := h2
    rcases open_ints Try.underlying22 Try.underlying3 (by kernel_rfl) hf with ⟨hcs, _⟩ | ⟨x, l, c, zs, hcs, _, hl, hm, hz, _, hcell, hwz⟩
    · simp [Value.cells] at hcs
      obtain ⟨rfl, rfl, rfl⟩ := hcs
      exact ⟨[], .inl ⟨rfl, rfl, rfl, rfl⟩⟩
    · simp [Value.cells] at hcs
      obtain ⟨rfl, rfl, rfl⟩ := hcs
      exact ⟨zs, .inr ⟨_, rfl, hl, hm, by simpa using hz, hcell, hwz⟩⟩
  obtain ⟨a3, rfl, rfl, rfl, w3⟩ := open_int Try.underlying3 (hval 3 3 v3 rfl rfl) h3
  clear hA0 hval0
  refine (walk a0 a1 a2 len2 cap2 z2 a3 W w0 w1 w2 w3).mono fun e W' ⟨he, bel⟩ => ?_
  subst he
  exact ⟨_, rfl, _, _, _, [], _, [], hW', trodAll_mk1 (shut_bool Try.underlying4 _), (trodAll_cons_mk (shut_int Try.underlying3 w0) (trodAll_cons_mk (shut_int Try.underlying3 w1) (trodAll_cons_mk (grown_trod laidOut (by kernel_rfl) (of_decide_eq_true (by kernel_rfl)) k2 bel lt2) (trodAll_cons_mk (shut_int Try.underlying3 w3) trodAll_mk0)))), rfl, bel.frame _, fun h => by cases h⟩

theorem over : Rows.filterPlaysRow.holds Try.pinned (OpenSpec.ofChange Rows.filterPlaysSpec) :=
  OpenClaim.holds_of_wide 3 Try.f3 rfl rfl rfl rfl rfl rfl rfl ⟨rfl, rfl, rfl, rfl, rfl⟩ rfl rfl rfl rfl rfl (by kernel_rfl) Try.func3 (by kernel_rfl)
    (of_decide_eq_true (by kernel_rfl)) (by unfold Func.isWrapper; first | (rw [if_pos (by decide +kernel)]; kernel_rfl) | (rw [if_neg (by decide +kernel)]; exact ⟨rfl, rfl⟩))
    (fun os started H enc _ => lifted os started H enc)

/-- ████ THE STATEMENT ████ -/
theorem proved : Rows.FilterPlaysSaid := over
end Go.Proofs.Ytaelaikfpehciaa.filterPlays

namespace Go.Proofs.Ytaelaikfpehciaa
/-- The given statement. -/
theorem filterPlays_holds : Rows.FilterPlaysSaid := filterPlays.proved
#print axioms filterPlays_holds
end Go.Proofs.Ytaelaikfpehciaa
