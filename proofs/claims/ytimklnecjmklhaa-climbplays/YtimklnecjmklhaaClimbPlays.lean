/-
  Proved: pantrylaw10.ClimbPlays returns true for every capacity, every period and every slice of bools: Play is the document's, and leaves its list alone (P10.3, P10.4). No condition.
-/
import Derived.Test.YtimklnecjmklhaaRows
import Derived.WalkKit
import Derived.ProofKit
import Derived.OpenShut
import Derived.Test.YtimklnecjmklhaaClPlayR
import Derived.Test.YtimklnecjmklhaaClSmall
import Derived.Test.YtimklnecjmklhaaGenApp
import Derived.ShutString
import Derived.ChangeOld
import Derived.Below
import Derived.Test.YtimklnecjmklhaaGenArgs
namespace Go.Proofs.Ytimklnecjmklhaa.climbPlays
open Go.ChangeShapes Go.WideShapes Go.ChangeAt Go.RowKit
set_option linter.unusedVariables false

theorem own : ownKnob Try.prog.godebug = none := by kernel_rfl
theorem laidOut : laidOutB Try.prog = true := by kernel_rfl

/-! ### The walk: the law returns true, and writes nothing that was there -/
open Go.Proofs.Ytimklnecjmklhaa.Cm Go.Deep in set_option maxRecDepth 20000 in set_option maxHeartbeats 4000000 in
theorem walk (a0 : Int) (a1 : Int) (a2 : Option Addr) (len2 cap2 : Nat) (z2 : Nat → Bool) (w : World) (w0 : (Lit.int .i64 a0).wf = true) (w1 : (Lit.int .i64 a1).wf = true) (w2 : IsBools w a2 len2 cap2 z2) :
    Calls Try.prog 4 #[.int .i64 a0, .int .i64 a1, .slice a2 len2 cap2] w fun e w' => e = .returned (.bool true) ∧ Grown w w' := by
  clear w0 w1
  have hz : Sb w a2 len2 z2 := bools_open w2
  clear w2
  have SM := cSmall
  by_cases hl : 2000 < len2
  · have d3 : decide (2000 < (len2 : Int)) = true := by rw [decide_eq_true_eq]; omega
    go_enter Try.func4, Try.ntmps4
    go_wp2_with (first | (go_at_call 8; refine (SM _).mono ?_; rintro e w1 ⟨rfl, g1⟩))
    go_ret
    exact ⟨rfl, g1⟩
  have d3 : decide (2000 < (len2 : Int)) = false := by rw [decide_eq_false_iff_not]; omega
  have infoBool : (Try.prog.info? 4).map (fun i => (i.zero, i.size, i.bytes)) = some (some (.bool false), 1, 1) := by kernel_rfl
  have PL := fun (p : Option Addr) (c : Nat) w h => play_c a0 a1 p len2 c z2 w h (by omega)
  have RP := fun (p : Option Addr) (c : Nat) w h => rplay_c a0 a1 p len2 c z2 w h (by omega)
  obtain ⟨q, eq⟩ : ∃ q, q = pst a0 a1 z2 len2 := ⟨_, rfl⟩
  simp only [← eq] at PL RP
  obtain ⟨C, eC⟩ : ∃ C, C = wh a0 := ⟨_, rfl⟩
  obtain ⟨P, eP⟩ : ∃ P, P = pr C q.x := ⟨_, rfl⟩
  obtain ⟨h, m, l, s, x⟩ := q
  simp only [← eC] at PL RP eP
  simp only [← eP] at PL RP
  clear eq eC eP
  by_cases h0 : len2 = 0
  · have E : ∀ W, Sb W a2 len2 z2 := fun W => .inl h0
    subst h0
    go_enter Try.func4, Try.ntmps4
    go_wp2_with (first | (go_at_call 8; refine (SM _).mono ?_; rintro e w1 ⟨rfl, g1⟩) | (at_builtin; refine wpList_append_nothing rfl (.tmp 19) (.tmp 20) 32 rfl Try.underlying32 infoBool rfl rfl (Nat.le_refl _) ?_) | (go_at_call 19; refine (PL _ _ _ (.inl rfl)).mono ?_; rintro e w2 ⟨rfl, g2⟩) | (go_at_call 20; refine (RP _ _ _ (E _)).mono ?_; rintro e w3 ⟨rfl, g3⟩))
    have g4 := grownTrans (grownTrans (g1.alloc #[] 4) g2) (grownTrans (((Grown.refl _).alloc #[.int .i64 h, .int .i64 m, .int .i64 l, .int .i64 s] 23).alloc #[.int .i64 C, .int .i64 x, .int .i64 P] 34) g3)
    have S1 : Sb w3 (some ⟨w1.heap.size, 0, none⟩) 0 z2 := .inl rfl
    have S1 := S1.grown (((Grown.refl w3).alloc #[.int .i64 h, .int .i64 m, .int .i64 l, .int .i64 s] 23).alloc #[.int .i64 C, .int .i64 x, .int .i64 P] 34)
    have k1 : Cb w3 w2.heap.size h m l s := Cb.grown (heap2_old _ _ _) g3
    have k2 : Qb w3 (w2.heap.size + 1) C x P := Qb.grown (heap2_new _ _ _) g3
    have k3 : Cb ((w3.alloc (.cells #[.int .i64 h, .int .i64 m, .int .i64 l, .int .i64 s] 23)).alloc (.cells #[.int .i64 C, .int .i64 x, .int .i64 P] 34)) w3.heap.size h m l s := heap2_old _ _ _
    have k4 : Qb ((w3.alloc (.cells #[.int .i64 h, .int .i64 m, .int .i64 l, .int .i64 s] 23)).alloc (.cells #[.int .i64 C, .int .i64 x, .int .i64 P] 34)) (w3.heap.size + 1) C x P := heap2_new _ _ _
    have g5 : Grown w3 ((w3.alloc (.cells #[.int .i64 h, .int .i64 m, .int .i64 l, .int .i64 s] 23)).alloc (.cells #[.int .i64 C, .int .i64 x, .int .i64 P] 34)) := ((Grown.refl _).alloc _ _).alloc _ _
    replace k1 := k1.grown g5
    replace k2 := k2.grown g5
    have g6 := grownTrans g4 g5
    have S2 := hz.grown g6
    obtain ⟨W0, eW⟩ : ∃ W, W = ((w3.alloc (.cells #[.int .i64 h, .int .i64 m, .int .i64 l, .int .i64 s] 23)).alloc (.cells #[.int .i64 C, .int .i64 x, .int .i64 P] 34)) := ⟨_, rfl⟩
    simp only [← eW] at k1 k2 k3 k4 g6 S1 S2 ⊢
    clear eW g5 g4 g3 g2 g1 PL RP SM
    go_loopw [13] (fun i wr => ∃ k d : Nat, k ≤ 0 ∧ i = .int .i64 k ∧ wr = W0.drewN d) (fun i _ => 0 - (intOf i).toNat)
    case atStart => exact ⟨0, 0, by omega, rfl, rfl⟩
    case round =>
      obtain ⟨k, d, hk, rfl, rfl⟩ := hrel
      obtain rfl : k = 0 := by omega
      have hd0 := True.intro
      · clear hd0
        have hd : decide (((0 : Nat) : Int) < ((0 : Nat) : Int)) = false := by rw [decide_eq_false_iff_not]; omega
        have gq := guardC
        have he := eqC
        have gQ := guardQ
        have hE := eqQ
        replace k1 := k1.grown (grownDrewN (Grown.refl W0) d)
        replace k2 := k2.grown (grownDrewN (Grown.refl W0) d)
        replace k3 := k3.grown (grownDrewN (Grown.refl W0) d)
        replace k4 := k4.grown (grownDrewN (Grown.refl W0) d)
        replace g6 := grownDrewN g6 d
        clear S1 S2
        obtain ⟨i0, i1, i2, i3⟩ := k1.cells
        obtain ⟨j0, j1, j2⟩ := k2.cells
        obtain ⟨m0, m1, m2, m3⟩ := k3.cells
        obtain ⟨n0, n1, n2⟩ := k4.cells
        clear k1 k2 k3 k4
        go_wp2
        go_ret
        exact ⟨rfl, g6⟩
  have hz' := hz
  rcases hz' with hz' | ⟨b, off, rfl, hb, hc⟩
  · omega
  have HC : Hid (∀ W, Grown w W → ∀ j, j < len2 * 1 → W.cell? ((⟨b, off, none⟩ : Addr).add j) = some (.bool (z2 j))) := fun W g j hj => by
    have e : (⟨b, off, none⟩ : Addr).add j = ⟨b, off + j, none⟩ := by unfold Addr.add; split <;> simp_all
    rw [e]; exact keys_cell (hc j (by omega)) hb g
  go_enter Try.func4, Try.ntmps4
  go_wp2_with (first | (go_at_call 8; refine (SM _).mono ?_; rintro e w1 ⟨rfl, g1⟩; have V0 : Vec (w1.alloc (.cells #[] 4)) 4 1 (some ⟨w1.heap.size, 0, none⟩) 0 0 (fun _ => .bool false) := Vec.laid w1 _ #[] 0 1 (by simp) (by simp) _ (fun j hj => by omega); have CC := HC.out _ (g1.alloc #[] 4)) | (at_builtin; refine wpList_append_vec rfl (.tmp 19) (.tmp 20) 32 rfl Try.underlying32 infoBool rfl rfl V0 rfl (by omega) CC (fun _ _ => rfl) (by omega) (by omega) ?_; intro p' c' w4 hv4 ho4 hp4; have g4 := ho4.grown (g1.alloc #[] 4) (fun k hk => by rw [In.eq hk]; exact g1.2.2); obtain ⟨B, rfl, hB1, hB2, _, _⟩ := hv4.opens (by omega); have SB : Sb w4 (some ⟨B, 0, none⟩) len2 z2 := .inr ⟨B, 0, rfl, hB1, fun i hi => (by have := hB2 i (by omega); rw [Nat.zero_add, this]; simp)⟩; clear hv4 ho4 hp4 hB1 hB2 V0 CC) | (go_at_call 19; refine (PL _ _ _ SB).mono ?_; rintro e w2 ⟨rfl, g2⟩; have g7 := grownTrans g4 (((g2).alloc #[.int .i64 h, .int .i64 m, .int .i64 l, .int .i64 s] 23).alloc #[.int .i64 C, .int .i64 x, .int .i64 P] 34)) | (go_at_call 20; refine (RP _ _ _ (hz.grown g7)).mono ?_; rintro e w3 ⟨rfl, g3⟩))
  have S1 := ((SB.grown g2).grown (((Grown.refl _).alloc #[.int .i64 h, .int .i64 m, .int .i64 l, .int .i64 s] 23).alloc #[.int .i64 C, .int .i64 x, .int .i64 P] 34)).grown g3
  replace S1 := S1.grown (((Grown.refl w3).alloc #[.int .i64 h, .int .i64 m, .int .i64 l, .int .i64 s] 23).alloc #[.int .i64 C, .int .i64 x, .int .i64 P] 34)
  replace g4 := grownTrans g7 g3
  clear SB g7 d3 hb infoBool
  have k1 : Cb w3 w2.heap.size h m l s := Cb.grown (heap2_old _ _ _) g3
  have k2 : Qb w3 (w2.heap.size + 1) C x P := Qb.grown (heap2_new _ _ _) g3
  have k3 : Cb ((w3.alloc (.cells #[.int .i64 h, .int .i64 m, .int .i64 l, .int .i64 s] 23)).alloc (.cells #[.int .i64 C, .int .i64 x, .int .i64 P] 34)) w3.heap.size h m l s := heap2_old _ _ _
  have k4 : Qb ((w3.alloc (.cells #[.int .i64 h, .int .i64 m, .int .i64 l, .int .i64 s] 23)).alloc (.cells #[.int .i64 C, .int .i64 x, .int .i64 P] 34)) (w3.heap.size + 1) C x P := heap2_new _ _ _
  have g5 : Grown w3 ((w3.alloc (.cells #[.int .i64 h, .int .i64 m, .int .i64 l, .int .i64 s] 23)).alloc (.cells #[.int .i64 C, .int .i64 x, .int .i64 P] 34)) := ((Grown.refl _).alloc _ _).alloc _ _
  replace k1 := k1.grown g5
  replace k2 := k2.grown g5
  have g6 := grownTrans g4 g5
  have S2 := hz.grown g6
  obtain ⟨W0, eW⟩ : ∃ W, W = ((w3.alloc (.cells #[.int .i64 h, .int .i64 m, .int .i64 l, .int .i64 s] 23)).alloc (.cells #[.int .i64 C, .int .i64 x, .int .i64 P] 34)) := ⟨_, rfl⟩
  simp only [← eW] at k1 k2 k3 k4 g6 S1 S2 ⊢
  clear eW g5 g4 g3 g2 g1 PL RP SM
  go_loopw [13] (fun i wr => ∃ k d : Nat, k ≤ len2 ∧ i = .int .i64 k ∧ wr = W0.drewN d) (fun i _ => len2 - (intOf i).toNat)
  case atStart => exact ⟨0, 0, by omega, rfl, rfl⟩
  case round =>
    obtain ⟨k, d, hk, rfl, rfl⟩ := hrel
    by_cases hlt : k < len2
    · rcases S1 with S1 | ⟨b1, o1, e1, _, c1⟩
      · omega
      rcases S2 with S2 | ⟨b2, o2, e2, _, c2⟩
      · omega
      cases e1
      cases e2
      have hd : decide ((k : Int) < (len2 : Int)) = true := by rw [decide_eq_true_eq]; omega
      replace c1 := c1 k hlt
      rw [Nat.zero_add] at c1
      replace c2 := c2 k hlt
      clear k1 k2 k3 k4 hz hc HC
      go_wp2
      go_quiet (fail)
      go_wp2
      exact ⟨⟨k + 1, _, by omega, by go_num, rfl⟩, by simp [intOf]; omega⟩
    · have hk2 : k = len2 := by omega
      subst hk2
      have hd : decide ((k : Int) < (k : Int)) = false := by rw [decide_eq_false_iff_not]; omega
      have gq := guardC
      have he := eqC
      have gQ := guardQ
      have hE := eqQ
      replace k1 := k1.grown (grownDrewN (Grown.refl W0) d)
      replace k2 := k2.grown (grownDrewN (Grown.refl W0) d)
      replace k3 := k3.grown (grownDrewN (Grown.refl W0) d)
      replace k4 := k4.grown (grownDrewN (Grown.refl W0) d)
      replace g6 := grownDrewN g6 d
      clear S1 S2
      obtain ⟨i0, i1, i2, i3⟩ := k1.cells
      obtain ⟨j0, j1, j2⟩ := k2.cells
      obtain ⟨m0, m1, m2, m3⟩ := k3.cells
      obtain ⟨n0, n1, n2⟩ := k4.cells
      clear k1 k2 k3 k4
      go_wp2
      go_ret
      exact ⟨rfl, g6⟩

/-! ### The row's step -/
set_option maxRecDepth 100000 in
theorem lifted (os : Os) (started : os.Started) (H : Type) (enc : TypeId × Value → H) :
    ReturnsInHanded {} Try.checked os 4 .any (Rows.climbPlaysSpec.pre6 enc Try.prog Try.f4 Rows.climbPlaysRow.domain false) (Rows.climbPlaysSpec.post enc Try.prog Try.f4 false true false false) := by
  refine returnsInHanded_of_change (C := Try.checked) own started (by kernel_rfl) Try.func4
    (ChangeSpec.witness6 (enc := enc) (C := Try.checked) false ⟨#[], #[.int .i64 0, .int .i64 0, .slice none 0 0], []⟩ 8 (by kernel_rfl) (by kernel_rfl) (by kernel_rfl) (by kernel_rfl)) ?_
  intro W base args ds gs before hval0 hW hcnd _
  have hval : ∀ (j : Nat) t v, Try.f4.params[j]? = some t → args[j]? = some v → Value.okWide Try.prog W .any base t v := hval0
  have hW' := hW
  obtain ⟨p, q, hA0, hV, rfl, hfz, hnd⟩ := hW
  have hA : DataW.TrodAll enc Try.prog W 0 (fun _ => true) true Try.f4.params.toList args.toList ds p := hA0
  rw [Try.params4] at hA hval
  obtain ⟨v0, vs0, d0, ds0, p0, q0, hargs, rfl, rfl, h0, r0⟩ := trodAll_cons hA
  obtain ⟨v1, vs1, d1, ds1, p1, q1, rfl, rfl, rfl, h1, r1⟩ := trodAll_cons r0
  obtain ⟨v2, vs2, d2, ds2, p2, q2, rfl, rfl, rfl, h2, r2⟩ := trodAll_cons r1
  obtain ⟨rfl, rfl, rfl⟩ := trodAll_nil r2
  obtain rfl : args = #[v0, v1, v2] := by cases args; simp_all
  obtain ⟨rfl, rfl⟩ := trodVars_none hV
  obtain ⟨a0, rfl, rfl, rfl, w0⟩ := open_int Try.underlying3 (hval 0 3 v0 rfl rfl) h0
  obtain ⟨a1, rfl, rfl, rfl, w1⟩ := open_int Try.underlying3 (hval 1 3 v1 rfl rfl) h1
  obtain ⟨a2, len2, cap2, rfl⟩ := okWide_slice Try.underlying32 (hval 2 32 v2 rfl rfl)
  have k2 := h2
  have lt2 : ∀ x ∈ p2, x.block < W.heap.size := by obtain ⟨m, hm⟩ := k2; exact DataW.trod_lt m _ _ _ hm
  obtain ⟨z2, w2⟩ := open_bools Try.underlying32 Try.underlying4 (by kernel_rfl) h2
  clear hA0 hval0
  refine (walk a0 a1 a2 len2 cap2 z2 W w0 w1 w2).mono fun e W' ⟨he, bel⟩ => ?_
  subst he
  exact ⟨_, rfl, _, _, _, [], _, [], hW', trodAll_mk1 (shut_bool Try.underlying4 _), (trodAll_cons_mk (shut_int Try.underlying3 w0) (trodAll_cons_mk (shut_int Try.underlying3 w1) (trodAll_cons_mk (grown_trod laidOut (by kernel_rfl) (of_decide_eq_true (by kernel_rfl)) k2 bel lt2) trodAll_mk0))), rfl, bel.frame _, fun h => by cases h⟩

theorem over : Rows.climbPlaysRow.holds Try.pinned (OpenSpec.ofChange Rows.climbPlaysSpec) :=
  OpenClaim.holds_of_wide 4 Try.f4 rfl rfl rfl rfl rfl rfl rfl ⟨rfl, rfl, rfl, rfl, rfl⟩ rfl rfl rfl rfl rfl (by kernel_rfl) Try.func4 (by kernel_rfl)
    (of_decide_eq_true (by kernel_rfl)) (by unfold Func.isWrapper; first | (rw [if_pos (by decide +kernel)]; kernel_rfl) | (rw [if_neg (by decide +kernel)]; exact ⟨rfl, rfl⟩))
    (fun os started H enc _ => lifted os started H enc)

/-- The statement. -/
theorem proved : Rows.ClimbPlaysSaid := over
end Go.Proofs.Ytimklnecjmklhaa.climbPlays

namespace Go.Proofs.Ytimklnecjmklhaa
/-- The given statement. -/
theorem climbPlays_holds : Rows.ClimbPlaysSaid := climbPlays.proved
#print axioms climbPlays_holds
end Go.Proofs.Ytimklnecjmklhaa
