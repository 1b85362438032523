/-
  What Turn of package climb, and the document's own, does when it is called: the climb and the number told here; memory has at most new blocks. Condition: the numbers are of the Go type int.
-/
import Derived.Test.YtlmcopenbeammaaClWalks
namespace Go.Proofs.Ytlmcopenbeammaa.Cm
open Go.RowKit Go.Deep

/-- How far a turn goes. -/
def fa (h m l s : Int) : Int := if rt (cc h) (cc m) < cr l then -cs s else cs s
theorem fa_le (h m l s : Int) : -4611686018427387903 ≤ fa h m l s ∧ fa h m l s ≤ 4611686018427387903 := by
  have := cs_le s
  unfold fa; split <;> omega

set_option maxHeartbeats 1000000 in
theorem turn_c (h m l s c : Int) (w : World) :
    Calls Try.prog 66 #[cl h m l s, .int .i64 c] w fun e w' => e = .returned (.tuple #[cl 0 0 (rt (cc h) (cc m)) (st (fa h m l s) (rt (cc h) (cc m) - cr l) c), .int .i64 (fa h m l s)]) ∧ Grown w w' := by
  have i1 : ∀ x, cc (cc x) = cc x := by intro x; unfold cc mid; omega
  have c1 := clamped_c h m l s
  have ra := rate_c (cc h) (cc m) (cr l) (cs s)
  rw [i1, i1] at ra
  have hr := rt_le (cc_le h).1 (cc_le m).1
  have hl := cr_le l
  have hs := cs_le s
  have hf := fa_le h m l s
  have sa := fun w => step_c (fa h m l s) (rt (cc h) (cc m) - cr l) c w hf.1 hf.2 (by omega) (by omega)
  have ef : fa h m l s = if rt (cc h) (cc m) < cr l then -cs s else cs s := rfl
  obtain ⟨F, hF⟩ : ∃ x, x = fa h m l s := ⟨_, rfl⟩
  obtain ⟨R, hR⟩ : ∃ x, x = rt (cc h) (cc m) := ⟨_, rfl⟩
  obtain ⟨T, hT⟩ : ∃ x, x = st F (R - cr l) c := ⟨_, rfl⟩
  obtain ⟨H, hH⟩ : ∃ x, x = cc h := ⟨_, rfl⟩
  obtain ⟨M, hM⟩ : ∃ x, x = cc m := ⟨_, rfl⟩
  obtain ⟨L, hL⟩ : ∃ x, x = cr l := ⟨_, rfl⟩
  obtain ⟨S, hS⟩ : ∃ x, x = cs s := ⟨_, rfl⟩
  simp only [← hF, ← hR] at ra hr hf sa ef ⊢
  simp only [← hT] at sa ⊢
  simp only [← hH, ← hM, ← hL, ← hS] at c1 ra hl hs sa ef ⊢
  obtain ⟨hr0, hr1⟩ := hr
  obtain ⟨hl0, hl1⟩ := hl
  obtain ⟨hs0, hs1⟩ := hs
  have CE := fun W => two_cb w W h m l s
  have hg := fun W => two_g w W h m l s
  clear hF hR hH hM hL hS hT i1
  have HF : Hid ((R < L → -S = F) ∧ (L ≤ R → S = F)) := ⟨fun h => by rw [ef, if_pos h], fun h => by rw [ef, if_neg (by omega)]⟩
  clear ef hf
  go_enter Try.func66, Try.ntmps66
  go_wp2_with (first | (refine wpList_store_cb rfl rfl (.tmp 2) (.tmp 9) rfl w.heap.size rfl rfl k ?_; intro w2 k2 o2; have h2 := o2.grown (hg _ g1) (by omega); replace k' := k'.off o2 (by omega); clear k o2) | (go_at_call 87; with_reducible refine (c1 _).mono ?_; rintro e w1 ⟨rfl, g1⟩; obtain ⟨k, k'⟩ := CE _ g1))
  clear g1 CE hg c1
  obtain ⟨Good, hGood⟩ : ∃ Good : World → Prop, Good = fun W => Cb W w.heap.size H M L S ∧ Cb W (w.heap.size + 1) 0 0 0 0 ∧ Grown w W := ⟨_, rfl⟩
  have G : ∀ (W W' : World), Good W → Grown W W' → Good W' := fun W W' h h' => by
    rw [hGood] at h ⊢; exact ⟨h.1.grown h', h.2.1.grown h', grownTrans h.2.2 h'⟩
  have g0 : Good w2.drew := by rw [hGood]; exact ⟨k2.grown (Grown.refl _).drew, k'.grown (Grown.refl _).drew, h2.drew⟩
  have HGO : Hid (∀ W, Good W → Cb W w.heap.size H M L S ∧ Cb W (w.heap.size + 1) 0 0 0 0 ∧ Grown w W) := fun W h => by rw [hGood] at h; exact h
  have GX : ∀ W, Good W → Cb W w.heap.size H M L S := fun W h => by rw [hGood] at h; exact h.1
  have k_0 := fun r : Wor Good => (GX _ r.h).cells.1
  have k_1 := fun r : Wor Good => (GX _ r.h).cells.2.1
  have k_2 := fun r : Wor Good => (GX _ r.h).cells.2.2.1
  have k_3 := fun r : Wor Good => (GX _ r.h).cells.2.2.2
  have TR : Hid (∀ r : Wor Good, Calls Try.prog 88 #[cl H M L S] r.w fun e w' => e = .returned (.int .i64 R) ∧ ∃ r' : Wor Good, w' = r'.w) := fun r => calls_class ((ra r.w).mono fun _ _ ⟨he, hh⟩ => ⟨he, G _ _ r.h hh⟩)
  have hne : Nonempty (Wor Good) := ⟨⟨_, g0⟩⟩
  clear hGood G GX k2 k' h2 ra
  refine wp_region_class (Good := Good) (by kernel_rfl) (by kernel_rfl) g0 ?_
  repeat (go_big_quiet_step (first | (go_at_call 88; with_reducible exact TR.out _)))
  refine wpQuiet_nil ?_
  intro _ hw'
  obtain ⟨r, hw''⟩ := hw'
  subst hw''
  clear g0 TR k_0 k_1 k_2 k_3
  obtain ⟨k, k', hg⟩ := HGO.out _ r.h
  obtain ⟨q0, q1, q2, q3⟩ := k.cells
  clear k HGO
  obtain ⟨W, hW⟩ : ∃ W, W = r.w := ⟨_, rfl⟩
  simp only [← hW] at k' hg q0 q1 q2 q3 ⊢
  clear hW r hne
  by_cases hlt : R < L
  · obtain rfl : -S = F := HF.out.1 hlt
    clear HF
    go_wp2_with (first | (refine wpList_store_cb rfl rfl (.tmp 4) (.tmp 28) rfl (w.heap.size + 1) rfl rfl k4 ?_; intro w5 k5 o5; have h5 := o5.grown h4 (by omega); clear k4 o5) | (go_at_call 89; with_reducible refine (sa _).mono ?_; rintro e w4 ⟨rfl, g4⟩; have k4 := k'.grown g4; have h4 := grownTrans hg g4; clear g4))
    exact bodyPost_ret (results_row_tmp Try.results66 _ _ (w.heap.size + 1) 52 _ (0, 0) _ rfl k5 Try.underlying52 rfl (infoC _ _ _ _)) rfl ⟨rfl, h5⟩
  · obtain rfl : S = F := HF.out.2 (by omega)
    clear HF
    go_wp2_with (first | (refine wpList_store_cb rfl rfl (.tmp 4) (.tmp 28) rfl (w.heap.size + 1) rfl rfl k4 ?_; intro w5 k5 o5; have h5 := o5.grown h4 (by omega); clear k4 o5) | (go_at_call 89; with_reducible refine (sa _).mono ?_; rintro e w4 ⟨rfl, g4⟩; have k4 := k'.grown g4; have h4 := grownTrans hg g4; clear g4))
    exact bodyPost_ret (results_row_tmp Try.results66 _ _ (w.heap.size + 1) 52 _ (0, 0) _ rfl k5 Try.underlying52 rfl (infoC _ _ _ _)) rfl ⟨rfl, h5⟩

end Go.Proofs.Ytlmcopenbeammaa.Cm
