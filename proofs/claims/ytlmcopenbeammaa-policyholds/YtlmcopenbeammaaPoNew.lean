/-
  What New of package policy does when it is called, and the calls that only look: Weight, Row, Key, Often, Quota, Climb and has. No condition but those told at each sentence.
-/
import Derived.Test.YtlmcopenbeammaaPoMem
import Derived.Test.YtlmcopenbeammaaPoColl
namespace Go.Proofs.Ytlmcopenbeammaa.Po
open Go.RowKit Go.Deep Cm

def wid (c : Int) : Int := max 1 (min c 65536)
/-- The width of a capacity's filter, by sixteens. -/
def mwid (c : Int) : Nat := (ceilI (wid c) 16 65536 / 16).toNat
theorem mwid_is (c : Int) : 1 ≤ mwid c ∧ mwid c ≤ 4096 ∧ ceilI (wid c) 16 65536 = 16 * (mwid c : Int) := by
  obtain ⟨m, h1, h2, h3⟩ := width_of (wid c)
  have e : mwid c = m := by unfold mwid; rw [h3]; omega
  rw [e]; exact ⟨h1, h2, h3⟩
theorem wid_wh (c : Int) : wid (wh c) = wid c := by unfold wid wh mid; omega
theorem wid_le (c : Int) : 1 ≤ wid c ∧ wid c ≤ 65536 := by unfold wid; omega
theorem mwid_wh (c : Int) : mwid (wh c) = mwid c := by unfold mwid; rw [wid_wh]
theorem width_p (c : Int) (w : World) : Calls Try.prog 17 #[.int .i64 c] w fun e w' => e = .returned (.int .i64 (wid c)) ∧ w' = w := by
  unfold wid
  go_enter Try.func17, Try.ntmps17
  go_wp2
  all_goals go_ret
  all_goals (rename_i h1; (first | rw [if_pos h] at h1 | rw [if_neg (by omega)] at h1); exact ⟨congrArg (fun z => Ending.returned (.int .i64 z)) (by omega), rfl⟩)

def Ps.zero (C : Int) : Ps := ⟨Fs.zero, Ds.zero 3, fun _ => none, ⟨0, 0, 0, fs C, wo C⟩⟩
theorem fs_wh (c : Int) : fs (wh c) = fs c := by unfold fs; rw [wh_wh]
theorem wo_wh (c : Int) : wo (wh c) = wo c := by unfold wo; rw [wh_wh]
/-- A policy at block A, its blocks Φ. -/
def Pol (w : World) (A : Nat) (Φ : Nat → Prop) (C seed : Int) (mw : Nat) (y : Ps) : Prop := ∃ S F X M G, Pof w A S F X M G C seed mw y ∧ Φ = foot A S F M G
variable {w w' : World} {A : Nat} {Φ Ψ : Nat → Prop} {C seed : Int} {mw : Nat} {y : Ps}
theorem Pol.lt (h : Pol w A Φ C seed mw y) {k : Nat} (hk : Φ k) : k < w.heap.size := by
  obtain ⟨S, F, X, M, G, h, rfl⟩ := h
  exact h.lt k hk
theorem Pol.out (h : Pol w A Φ C seed mw y) (o : Out Ψ w w') (hd : ∀ k, Φ k → ¬ Ψ k) : Pol w' A Φ C seed mw y := by
  obtain ⟨S, F, X, M, G, h, rfl⟩ := h
  exact ⟨S, F, X, M, G, h.out o hd, rfl⟩
theorem Pol.grown (h : Pol w A Φ C seed mw y) (g : Grown w w') : Pol w' A Φ C seed mw y := h.out (Out.of_grown g fun _ => False) fun _ _ => id
theorem new_p (cap seed : Int) (w : World) :
    Calls Try.prog 7 #[.int .i64 cap, .int .i64 seed] w fun e w' => ∃ A Φ, e = .returned (ptr A) ∧ Pol w' A Φ (wh cap) seed (mwid cap) (Ps.zero (wh cap)) ∧ Grown w w' ∧ ∀ k, Φ k → w.heap.size ≤ k := by
  obtain ⟨m1, m2, m3⟩ := mwid_is cap
  have wi := fun w => width_p cap w
  have nf := fun w => new_f (wid cap) seed w (mwid cap) m1 m2 m3
  have nd := fun w => new_a 3 w
  have oc := fun w => of_c cap w
  have nc := fun w => Cm.new_c cap w
  obtain ⟨v, hv⟩ : ∃ v, v = wid cap := ⟨_, rfl⟩
  rw [← hv] at wi nf
  have HM : Hid (∀ w : World, MapO Try.prog 3 (w.alloc (.map #[] 0)) w.heap.size 1 65536 (.int .i64 0) (fun _ => none)) := fun w => MapO.made _ _ w _ _ _
  have hmm := @run_makeMap Try.prog
  clear hv m1 m2 m3
  unfold ptr at *
  go_enter Try.func7, Try.ntmps7
  go_wp2_with (first | (go_at_call 17; refine (wi _).mono ?_; rintro e w' ⟨rfl, rfl⟩) | (go_at_call 16; refine (nf _).mono ?_; rintro e w1 ⟨F, rfl, f1, g1⟩) | (go_at_call 18; refine (nd _).mono ?_; rintro e w2 ⟨X, G, rfl, d2, g2, b2⟩; have l1 := f1.last; replace f1 := f1.grown g2; have m3 := HM.out w2; have gm : Grown w2 (w2.alloc (.map #[] 0)) := Turn.grown (Grown.refl w2) (Turn.alloc w2.heap.size w2 (.map #[] 0) rfl) (Nat.le_refl _)) | (go_at_call 19; refine (oc _).mono ?_; rintro e w4 ⟨rfl, g4⟩) | (go_at_call 20; refine (nc _).mono ?_; rintro e w5 ⟨rfl, g5⟩))
  go_ret
  have gw : Grown w5 (w5.alloc (.cells #[ptr F, ptr X, .map (some w2.heap.size), .int .i64 (wh cap), .int .i64 (wo cap), .int .i64 (pr (wh cap) (wo cap)), .int .i64 0, .int .i64 0, .int .i64 0, .int .i64 (fs cap)] 55)) := (Grown.refl _).alloc _ _
  have gA := grownTrans (grownTrans gm g4) (grownTrans g5 gw)
  have s1 := g1.2.2
  have s2 := g2.2.2
  have s3 : w2.heap.size + 1 ≤ w4.heap.size := by have := g4.2.2; simp at this; omega
  have s5 := g5.2.2
  refine ⟨w5.heap.size, _, rfl, ⟨_, F, X, w2.heap.size, G, ⟨?_, f1.grown gA, d2.grown gA, m3.keep (grown_block (grownTrans g4 (grownTrans g5 gw)) m3.lt), by omega, by omega, fun k hk => ?_, fun hk => ?_, fun hk => ?_⟩, rfl⟩, grownTrans (grownTrans g1 g2) gA, fun k hk => ?_⟩
  · show Pb _ w5.heap.size F X w2.heap.size (wh cap) (wo (wh cap)) (pr (wh cap) (wo (wh cap))) 0 0 0 (fs (wh cap))
    rw [fs_wh, wo_wh]
    exact blk_alloc_new _ _
  · have := b2 k hk; omega
  · have := d2.lt hk; omega
  · have := d2.lt hk; omega
  · rcases hk with rfl | hk | rfl | hk
    · omega
    · exact hk.1
    · omega
    · have := b2 k hk; omega

variable {S F X M : Nat} {G : Nat → Prop}
theorem keyC_get (k : Int → Option Int) (id : Int) : (keyC k id).getD (.int .i64 0) = .int .i64 ((k id).getD 0) := by unfold keyC; cases k id <;> rfl
theorem keyC_some (k : Int → Option Int) (id : Int) : (keyC k id).isSome = (k id).isSome := by unfold keyC; cases k id <;> rfl
theorem key_p (h : Pof w A S F X M G C seed mw y) {id : Int} (hid : (Lit.int .i64 id).wf = true) :
    Calls Try.prog 14 #[ptr A, .int .i64 id] w fun e w' => e = .returned (.tuple #[.int .i64 ((y.k id).getD 0), .bool (y.k id).isSome]) ∧ w' = w := by
  obtain ⟨_, _, c2, _⟩ := h.pb.cells
  have HM : Hid (MapO Try.prog 3 w M 1 65536 (.int .i64 0) (keyC y.k)) := h.mp
  have hv := keyC_get y.k id
  have hb := keyC_some y.k id
  clear h
  unfold ptr
  go_enter Try.func14, Try.ntmps14
  go_wp2_with (first | (at_lookup; refine wpList_look_ok_mapo rfl _ _ 47 rfl Try.underlying3 Try.underlying47 (zeroI _) HM.out rfl rfl hid hv hb ?_))
  go_ret2
  exact ⟨rfl, rfl⟩
theorem has_p (h : Pof w A S F X M G C seed mw y) {id : Int} (hid : (Lit.int .i64 id).wf = true) :
    Calls Try.prog 41 #[ptr A, .int .i64 id] w fun e w' => e = .returned (.bool (y.k id).isSome) ∧ w' = w := by
  obtain ⟨_, _, c2, _⟩ := h.pb.cells
  have HM : Hid (MapO Try.prog 3 w M 1 65536 (.int .i64 0) (keyC y.k)) := h.mp
  have hv := keyC_get y.k id
  have hb := keyC_some y.k id
  clear h
  unfold ptr
  go_enter Try.func41, Try.ntmps41
  go_wp2_with (first | (at_lookup; refine wpList_look_ok_mapo rfl _ _ 47 rfl Try.underlying3 Try.underlying47 (zeroI _) HM.out rfl rfl hid hv hb ?_))
  go_ret
  exact ⟨rfl, rfl⟩
theorem often_p (h : Pof w A S F X M G C seed mw y) (key : Int) :
    Calls Try.prog 15 #[ptr A, .int .i64 key] w fun e w' => e = .returned (.int .i64 (y.f.oft (mixB seed key) mw)) ∧ Grown w w' := by
  obtain ⟨c0, _⟩ := h.pb.cells
  have of := often_f h.fl key
  clear h
  unfold ptr at *
  go_enter Try.func15, Try.ntmps15
  go_wp2_with (go_at_call 30; refine of.mono ?_; rintro e w' ⟨rfl, hg⟩)
  go_ret
  exact ⟨rfl, hg⟩
theorem row_p (h : Pof w A S F X M G C seed mw y) (row : Int) :
    Calls Try.prog 10 #[ptr A, .int .i64 row] w fun e w' => ∃ p c k, e = .returned (.slice p k c) ∧ k = (y.t.rowI row).length ∧ Vec w' 3 1 p k c (idsC (y.t.rowI row)) ∧ Grown w w' ∧ ∀ x, In p x → w.heap.size ≤ x := by
  obtain ⟨_, c1, _⟩ := h.pb.cells
  have al := fun w => all_m X row w
  have HG : Hid (∃ W : World, W = (w.alloc (.cells #[ptr X] 45)).alloc (.cells #[.int .i64 row] 3) ∧ Grown w W ∧ W.heap[w.heap.size]? = some (.cells #[ptr X] 45 (0, 0)) ∧ W.heap[w.heap.size + 1]? = some (.cells #[.int .i64 row] 3 (0, 0)) ∧ Dq W X G y.t) := by
    have g : Grown w ((w.alloc (.cells #[ptr X] 45)).alloc (.cells #[.int .i64 row] 3)) := ((Grown.refl _).alloc _ _).alloc _ _
    exact ⟨_, rfl, g, heap2_old _ _ _, heap2_new _ _ _, h.dq.grown g⟩
  clear h
  unfold ptr at al ⊢
  go_enter Try.func10, Try.ntmps10
  go_wp2_with (first | (go_at_call 28; refine (al _).mono ?_; rintro e w1 ⟨rfl, hw1⟩; obtain ⟨W, hW, g, k2, k3, hd⟩ := HG.out; unfold ptr at hW; rw [← hW] at hw1; clear hW; subst hw1) | (go_at_call 27; refine (collect_c k2 k3 hd).mono ?_; rintro e w2 ⟨p, c, k, rfl, rfl, hv, hg, hi⟩))
  go_ret
  exact ⟨p, c, _, rfl, rfl, hv, grownTrans g hg, fun x hx => Nat.le_trans g.2.2 (hi x hx)⟩
theorem Wf3.bounds {t : Ds} (hw : t.Wf) : 0 ≤ t.wt 0 ∧ 0 ≤ t.wt 1 ∧ 0 ≤ t.wt 2 := ⟨hw.weight_pos 0, hw.weight_pos 1, hw.weight_pos 2⟩
theorem weight_p (h : Pof w A S F X M G C seed mw y) (ht : y.t.tot 3 ≤ 9223372036854775807) :
    Calls Try.prog 11 #[ptr A] w fun e w' => e = .returned (.int .i64 (y.t.tot 3)) ∧ Grown w w' := by
  have hb := Wf3.bounds h.dq.wf
  rw [Ds.tot3] at ht ⊢
  have H0 : Hid (Pof w A S F X M G C seed mw y) := h
  have wg : ∀ W, Grown w W → ∀ r : Int, Calls Try.prog 29 #[ptr X, .int .i64 r] W fun e w' => e = .returned (.int .i64 (sumD ((y.t.rowI r).map (·.2)))) ∧ Grown W w' := fun W g r => weight_a (h.dq.grown g) r
  have c1 : ∀ W, Grown w W → W.cell? ⟨A, 1, none⟩ = some (.pointer (some ⟨X, 0, none⟩)) := fun W g => (h.grown g).pb.cells.2.1
  have e0 : sumD ((y.t.rowI 0).map (·.2)) = y.t.wt 0 := rfl
  have e1 : sumD ((y.t.rowI 1).map (·.2)) = y.t.wt 1 := rfl
  have e2 : sumD ((y.t.rowI 2).map (·.2)) = y.t.wt 2 := rfl
  obtain ⟨z, hz⟩ : ∃ z : Int → Int, z = fun r => sumD ((y.t.rowI r).map (·.2)) := ⟨_, rfl⟩
  have wg : ∀ W, Grown w W → ∀ r : Int, Calls Try.prog 29 #[ptr X, .int .i64 r] W fun e w' => e = .returned (.int .i64 (z r)) ∧ Grown W w' := fun W g r => by rw [hz]; exact wg W g r
  have e0 : z 0 = y.t.wt 0 := by rw [hz]; exact e0
  have e1 : z 1 = y.t.wt 1 := by rw [hz]; exact e1
  have e2 : z 2 = y.t.wt 2 := by rw [hz]; exact e2
  rw [← e0, ← e1, ← e2] at ht ⊢
  rw [← e0, ← e1, ← e2] at hb
  clear hz e0 e1 e2 h
  obtain ⟨b0, b1, b2⟩ := hb
  unfold ptr at *
  go_enter Try.func11, Try.ntmps11
  go_wp2
  go_loopw [3, 5] (fun s i wr => ∃ d : Nat, i = .int .i64 d ∧ d ≤ 3 ∧ Grown w wr ∧ s = .int .i64 (if d = 0 then 0 else if d = 1 then z 0 else if d = 2 then z 0 + z 1 else z 0 + z 1 + z 2)) (fun _ i _ => 3 - (intOf i).toNat)
  case atStart => exact ⟨0, rfl, by omega, Grown.refl _, rfl⟩
  case round =>
    obtain ⟨d, rfl, hd, g, rfl⟩ := hrel
    have cw := c1 _ g
    rcases d with _ | _ | _ | _ | d
    · simp only [if_true, Int.natCast_zero]
      go_wp2_with (go_at_call 29; refine (wg _ g _).mono ?_; rintro e w2 ⟨rfl, g2⟩)
      go_roundw
      case rel => exact ⟨1, by go_num, by omega, grownTrans g g2, by simp⟩
      case measure => simp [intOf]
    · have w1 : IntKind.i64.wrap (z 0 + z 1) = z 0 + z 1 := by simp [IntKind.wrap, IntKind.signed, IntKind.bits]; omega
      simp only [Nat.zero_add, Nat.reduceEqDiff, if_false, if_true, Int.natCast_one]
      go_wp2_with (go_at_call 29; refine (wg _ g _).mono ?_; rintro e w2 ⟨rfl, g2⟩)
      go_roundw
      case rel => exact ⟨2, by go_num, by omega, grownTrans g g2, by simp⟩
      case measure => simp [intOf]
    · have w2 : IntKind.i64.wrap (z 0 + z 1 + z 2) = z 0 + z 1 + z 2 := by simp [IntKind.wrap, IntKind.signed, IntKind.bits]; omega
      simp only [Nat.zero_add, Nat.reduceAdd, Nat.reduceEqDiff, if_false, if_true, Int.cast_ofNat_Int]
      go_wp2_with (go_at_call 29; refine (wg _ g _).mono ?_; rintro e w2 ⟨rfl, g2⟩)
      go_roundw
      case rel => exact ⟨3, by go_num, by omega, grownTrans g g2, by simp⟩
      case measure => simp [intOf]
    · simp only [Nat.zero_add, Nat.reduceAdd, Nat.reduceEqDiff, if_false, Int.cast_ofNat_Int]
      go_wp2
      go_ret
      exact ⟨rfl, g⟩
    · omega
end Go.Proofs.Ytlmcopenbeammaa.Po
