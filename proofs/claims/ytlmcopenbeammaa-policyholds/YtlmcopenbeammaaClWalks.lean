/-
  What each function of package climb but Turn and Play, and each of the document's own answers for it, does when it is called: the climb, number or bool told here; memory has at most new blocks. Condition: the numbers are of the Go type int.
-/
import Derived.Test.YtlmcopenbeammaaClClamp
namespace Go.Proofs.Ytlmcopenbeammaa.Cm
open Go.RowKit Go.Deep

/-- Block b holds that climb. -/
def Cb (w : World) (b : Nat) (h m l s : Int) : Prop := w.heap[b]? = some (.cells #[.int .i64 h, .int .i64 m, .int .i64 l, .int .i64 s] 52 (0, 0))
theorem Cb.lt {w : World} {b : Nat} {h m l s : Int} (k : Cb w b h m l s) : b < w.heap.size := by
  unfold Cb at k
  apply Decidable.byContradiction; intro hb
  rw [Array.getElem?_eq_none (by omega)] at k; cases k
theorem Cb.grown {w w' : World} {b : Nat} {h m l s : Int} (k : Cb w b h m l s) (g : Grown w w') : Cb w' b h m l s := (grown_block g k.lt).trans k
theorem Cb.new (w : World) (h m l s : Int) : Cb (w.alloc (.cells #[.int .i64 h, .int .i64 m, .int .i64 l, .int .i64 s] 52)) w.heap.size h m l s := heap_alloc_new _ _
theorem Cb.cells {w : World} {b : Nat} {h m l s : Int} (k : Cb w b h m l s) : w.cell? ⟨b, 0, none⟩ = some (.int .i64 h) ∧ w.cell? ⟨b, 1, none⟩ = some (.int .i64 m) ∧ w.cell? ⟨b, 2, none⟩ = some (.int .i64 l) ∧ w.cell? ⟨b, 3, none⟩ = some (.int .i64 s) := by
  unfold Cb at k
  simp [World.cell?, k]
theorem Cb.free {w : World} {b : Nat} {h m l s : Int} (k : Cb w b h m l s) : w.frozen? ⟨b, 0, none⟩ = false ∧ w.frozen? ⟨b, 1, none⟩ = false ∧ w.frozen? ⟨b, 2, none⟩ = false ∧ w.frozen? ⟨b, 3, none⟩ = false := by
  unfold Cb at k
  simp [World.frozen?, k]
theorem Cb.set4 {w : World} {b : Nat} {h m l s : Int} (k : Cb w b h m l s) (h' m' l' s' : Int) :
    Cb ((((w.setCell ⟨b, 0, none⟩ (.int .i64 h')).setCell ⟨b, 1, none⟩ (.int .i64 m')).setCell ⟨b, 2, none⟩ (.int .i64 l')).setCell ⟨b, 3, none⟩ (.int .i64 s')) b h' m' l' s' := row4 k _ _ _ _
theorem Cb.set0 {w : World} {b : Nat} {h m l s : Int} (k : Cb w b h m l s) (x : Int) : Cb (w.setCell ⟨b, 0, none⟩ (.int .i64 x)) b x m l s := blk_set k 0 _
theorem Cb.set1 {w : World} {b : Nat} {h m l s : Int} (k : Cb w b h m l s) (x : Int) : Cb (w.setCell ⟨b, 1, none⟩ (.int .i64 x)) b h x l s := blk_set k 1 _
theorem Cb.other {w : World} {b : Nat} {h m l s : Int} (k : Cb w b h m l s) {a : Addr} (hne : b ≠ a.block) (v : Value) : Cb (w.setCell a v) b h m l s := (blk_setCell_other _ _ _ _ hne).trans k
theorem Cb.off {w W : World} {b d n : Nat} {h m l s : Int} (k : Cb w b h m l s) (o : Off d n w W) (hne : b < d ∨ d + n ≤ b) : Cb W b h m l s := (o.block b k.lt hne).trans k
/-- A climb that is stored whole over another: whatever world comes of it. -/
theorem wpList_store_cb {ops : Array Oper} {rest : List Oper} {o : Oper} {a : Act} {w : World} {Q : Exit → Act → World → Prop} (hgd : o.guard = none) (hd : o.dst = none) (x y : Operand) (ho : o.op = .store 52 x y)
    (b : Nat) {h m l s h' m' l' s' : Int} (hx : a.eval x = .pointer (some ⟨b, 0, none⟩)) (hy : a.eval y = cl h' m' l' s') (k : Cb w b h m l s)
    (hn : ∀ W, Cb W b h' m' l' s' → Off b 1 w W → wpList Try.prog ops Q rest a W) : wpList Try.prog ops Q (o :: rest) a w := by
  refine wpList_store_row hgd 52 x y ho b _ hx hy 52 _ k (infoC _ _ _ _) rfl (by simp [Value.oneCell']) ?_
  rw [hd]
  exact hn _ (setRow_heap _ _ _ _ _ _ k) (off_setRow k)
/-- A climb that is loaded whole. -/
theorem wpList_load_cb {ops : Array Oper} {rest : List Oper} {o : Oper} {a : Act} {w : World} {Q : Exit → Act → World → Prop} (hgd : o.guard = none) (x : Operand) (ho : o.op = .load 52 x)
    (b : Nat) {h m l s : Int} (hx : a.eval x = .pointer (some ⟨b, 0, none⟩)) (k : Cb w b h m l s)
    (hn : wpList Try.prog ops Q rest (a.put o.dst (cl h m l s)) w) : wpList Try.prog ops Q (o :: rest) a w :=
  wpList_load_row hgd 52 x ho b hx 52 _ (0, 0) _ k Try.underlying52 rfl (infoC _ _ _ _) hn
/-- Behind a climb's own block. -/
theorem one_cb (w W : World) (h m l s : Int) (g : Grown (w.alloc (.cells #[.int .i64 h, .int .i64 m, .int .i64 l, .int .i64 s] 52)) W) : Cb W w.heap.size h m l s := (Cb.new w h m l s).grown g
theorem one_g (w W : World) (h m l s : Int) (g : Grown (w.alloc (.cells #[.int .i64 h, .int .i64 m, .int .i64 l, .int .i64 s] 52)) W) : Grown w W := grownTrans ((Grown.refl _).alloc _ _) g
/-- Behind a climb's own block and that of its result. -/
theorem two_cb (w W : World) (h m l s : Int) (g : Grown ((w.alloc (.cells #[.int .i64 h, .int .i64 m, .int .i64 l, .int .i64 s] 52)).alloc (.cells #[.int .i64 0, .int .i64 0, .int .i64 0, .int .i64 0] 52)) W) :
    Cb W w.heap.size h m l s ∧ Cb W (w.heap.size + 1) 0 0 0 0 := ⟨(grown_block g (by simp; omega)).trans (heap2_old _ _ _), (grown_block g (by simp)).trans (heap2_new _ _ _)⟩
theorem two_g (w W : World) (h m l s : Int) (g : Grown ((w.alloc (.cells #[.int .i64 h, .int .i64 m, .int .i64 l, .int .i64 s] 52)).alloc (.cells #[.int .i64 0, .int .i64 0, .int .i64 0, .int .i64 0] 52)) W) :
    Grown w W := grownTrans (((Grown.refl _).alloc _ _).alloc _ _) g
theorem cl_eq {a b c d x y z u : Int} (h1 : a = x) (h2 : b = y) (h3 : c = z) (h4 : d = u) : Ending.returned (cl a b c d) = .returned (cl x y z u) := by rw [h1, h2, h3, h4]

theorem new_c (c : Int) (w : World) :
    Calls Try.prog 20 #[.int .i64 c] w fun e w' => e = .returned (cl 0 0 0 (fs c)) ∧ Grown w w' := by
  have FC := fun w => first_c c w
  have CE : ∀ W, Grown (w.alloc (.cells #[.int .i64 0, .int .i64 0, .int .i64 0, .int .i64 0] 52)) W → Cb W w.heap.size 0 0 0 0 := fun W g => (Cb.new w 0 0 0 0).grown g
  have hg : Grown w (w.alloc (.cells #[.int .i64 0, .int .i64 0, .int .i64 0, .int .i64 0] 52)) := (Grown.refl _).alloc _ _
  go_enter Try.func20, Try.ntmps20
  go_wp2_with (go_at_call 39; refine (FC _).mono ?_; rintro e w' ⟨rfl, g1⟩; have k := CE _ g1; obtain ⟨c0, c1, c2, c3⟩ := k.cells; obtain ⟨f0, f1, f2, f3⟩ := k.free)
  exact bodyPost_ret (v := cl 0 0 0 (fs c)) (results_cell_row Try.results20 _ _ w.heap.size 52 _ (0, 0) _ rfl (k.set4 _ _ _ _) Try.underlying52 rfl (infoC _ _ _ _)) rfl ⟨rfl, ((((grownTrans hg g1).setCell (by simp) _).setCell (by simp) _).setCell (by simp) _).setCell (by simp) _⟩
theorem count_c (h m l s : Int) (b : Bool) (w : World) :
    Calls Try.prog 64 #[cl h m l s, .bool b] w fun e w' => e = .returned (cl (if b then cc (cc h + 1) else cc h) (if b then cc m else cc (cc m + 1)) (cr l) (cs s)) ∧ Grown w w' := by
  have i1 : ∀ x, cc (cc x) = cc x := by intro x; unfold cc mid; omega
  have i2 : cr (cr l) = cr l := by unfold cr mid; omega
  have i3 : cs (cs s) = cs s := by unfold cs mid; omega
  have hh := cc_le h
  have hm := cc_le m
  obtain ⟨H, hH⟩ : ∃ x, x = cc h := ⟨_, rfl⟩
  obtain ⟨M, hM⟩ : ∃ x, x = cc m := ⟨_, rfl⟩
  obtain ⟨L, hL⟩ : ∃ x, x = cr l := ⟨_, rfl⟩
  obtain ⟨S, hS⟩ : ∃ x, x = cs s := ⟨_, rfl⟩
  have c1 := clamped_c h m l s
  have e1 := i1 h
  have e2 := i1 m
  simp only [← hH, ← hM, ← hL, ← hS] at c1 hh hm e1 e2 i2 i3 ⊢
  have CE := fun W => two_cb w W h m l s
  have hg := fun W => two_g w W h m l s
  clear hH hM hL hS i1
  obtain ⟨hh0, hh1⟩ := hh
  obtain ⟨hm0, hm1⟩ := hm
  cases b with
  | true =>
    have c2 := clamped_c (H + 1) M L S
    rw [e2, i2, i3] at c2
    go_enter Try.func64, Try.ntmps64
    clear e1 e2 i2 i3
    go_wp2_with (first | (refine wpList_store_cb rfl rfl (.tmp 2) (.tmp 6) rfl w.heap.size rfl rfl k ?_; intro w2 k2 o2; obtain ⟨q0, q1, q2, q3⟩ := k2.cells; obtain ⟨f0, f1, f2, f3⟩ := k2.free; have h2 := o2.grown (hg _ g1) (by omega); replace k' := k'.off o2 (by omega); clear k o2) | (refine wpList_store_cb rfl rfl (.tmp 4) (.tmp 17) rfl (w.heap.size + 1) rfl rfl k3 ?_; intro w4 k4 o4; have h4 := o4.grown h3 (by omega); clear o4) | (go_at_call 87; with_reducible refine (c1 _).mono ?_; rintro e w1 ⟨rfl, g1⟩; obtain ⟨k, k'⟩ := CE _ g1) | (go_at_call 87; with_reducible refine (c2 _).mono ?_; rintro e w3 ⟨rfl, g3⟩; have k3 := Cb.grown (Cb.other k' (by simp) _) g3; have h3 := grownTrans (h2.setCell (by simp) _) g3; clear g3))
    exact bodyPost_ret (results_cell_row Try.results64 _ _ (w.heap.size + 1) 52 _ (0, 0) _ rfl k4 Try.underlying52 rfl (infoC _ _ _ _)) rfl ⟨rfl, h4⟩
  | false =>
    have c2 := clamped_c H (M + 1) L S
    rw [e1, i2, i3] at c2
    go_enter Try.func64, Try.ntmps64
    clear e1 e2 i2 i3
    go_wp2_with (first | (refine wpList_store_cb rfl rfl (.tmp 2) (.tmp 6) rfl w.heap.size rfl rfl k ?_; intro w2 k2 o2; obtain ⟨q0, q1, q2, q3⟩ := k2.cells; obtain ⟨f0, f1, f2, f3⟩ := k2.free; have h2 := o2.grown (hg _ g1) (by omega); replace k' := k'.off o2 (by omega); clear k o2) | (refine wpList_store_cb rfl rfl (.tmp 4) (.tmp 17) rfl (w.heap.size + 1) rfl rfl k3 ?_; intro w4 k4 o4; have h4 := o4.grown h3 (by omega); clear o4) | (go_at_call 87; with_reducible refine (c1 _).mono ?_; rintro e w1 ⟨rfl, g1⟩; obtain ⟨k, k'⟩ := CE _ g1) | (go_at_call 87; with_reducible refine (c2 _).mono ?_; rintro e w3 ⟨rfl, g3⟩; have k3 := Cb.grown (Cb.other k' (by simp) _) g3; have h3 := grownTrans (h2.setCell (by simp) _) g3; clear g3))
    exact bodyPost_ret (results_cell_row Try.results64 _ _ (w.heap.size + 1) 52 _ (0, 0) _ rfl k4 Try.underlying52 rfl (infoC _ _ _ _)) rfl ⟨rfl, h4⟩
/-- How often a clamped climb's keys were there. -/
def rt (h m : Int) : Int := if h + m = 0 then 0 else h * 65536 / (h + m)
theorem rt_le {h m : Int} (h0 : 0 ≤ h) (m0 : 0 ≤ m) : 0 ≤ rt h m ∧ rt h m ≤ 65536 := by
  unfold rt
  split
  · omega
  · have hp : 0 < h + m := by omega
    constructor
    · exact Int.ediv_nonneg (by omega) (by omega)
    · have := Int.ediv_le_of_le_mul hp (show h * 65536 ≤ 65536 * (h + m) by omega)
      exact this
theorem due_c (h m l s p : Int) (w : World) :
    Calls Try.prog 65 #[cl h m l s, .int .i64 p] w fun e w' => e = .returned (.bool (decide (1 ≤ p ∧ p ≤ cc h + cc m))) ∧ Grown w w' := by
  have c1 := clamped_c h m l s
  have hh := cc_le h
  have hm := cc_le m
  obtain ⟨H, hH⟩ : ∃ x, x = cc h := ⟨_, rfl⟩
  obtain ⟨M, hM⟩ : ∃ x, x = cc m := ⟨_, rfl⟩
  obtain ⟨L, hL⟩ : ∃ x, x = cr l := ⟨_, rfl⟩
  obtain ⟨S, hS⟩ : ∃ x, x = cs s := ⟨_, rfl⟩
  simp only [← hH, ← hM, ← hL, ← hS] at c1 hh hm ⊢
  obtain ⟨hh0, hh1⟩ := hh
  obtain ⟨hm0, hm1⟩ := hm
  have CE := fun W => one_cb w W h m l s
  have hg := fun W => one_g w W h m l s
  clear hH hM hL hS
  by_cases hp : 1 ≤ p
  · rw [show decide (1 ≤ p ∧ p ≤ H + M) = decide (p ≤ H + M) by simp [hp]]
    go_enter Try.func65, Try.ntmps65
    go_wp2_with (first | (refine wpList_store_cb rfl rfl (.tmp 2) (.tmp 6) rfl w.heap.size rfl rfl k ?_; intro w2 k2 o2; obtain ⟨q0, q1, q2, q3⟩ := k2.cells; have h2 := o2.grown (hg _ g1) (by omega); clear k o2) | (go_at_call 87; with_reducible refine (c1 _).mono ?_; rintro e w1 ⟨rfl, g1⟩; have k := CE _ g1))
    go_ret
    exact ⟨rfl, h2⟩
  · rw [show decide (1 ≤ p ∧ p ≤ H + M) = false by simp [hp]]
    go_enter Try.func65, Try.ntmps65
    go_wp2_with (first | (refine wpList_store_cb rfl rfl (.tmp 2) (.tmp 6) rfl w.heap.size rfl rfl k ?_; intro w2 k2 o2; obtain ⟨q0, q1, q2, q3⟩ := k2.cells; have h2 := o2.grown (hg _ g1) (by omega); clear k o2) | (go_at_call 87; with_reducible refine (c1 _).mono ?_; rintro e w1 ⟨rfl, g1⟩; have k := CE _ g1))
    go_ret
    exact ⟨rfl, h2⟩
theorem rate_c (h m l s : Int) (w : World) :
    Calls Try.prog 88 #[cl h m l s] w fun e w' => e = .returned (.int .i64 (rt (cc h) (cc m))) ∧ Grown w w' := by
  have c1 := clamped_c h m l s
  have hh := cc_le h
  have hm := cc_le m
  obtain ⟨H, hH⟩ : ∃ x, x = cc h := ⟨_, rfl⟩
  obtain ⟨M, hM⟩ : ∃ x, x = cc m := ⟨_, rfl⟩
  obtain ⟨L, hL⟩ : ∃ x, x = cr l := ⟨_, rfl⟩
  obtain ⟨S, hS⟩ : ∃ x, x = cs s := ⟨_, rfl⟩
  simp only [← hH, ← hM, ← hL, ← hS] at c1 hh hm ⊢
  obtain ⟨hh0, hh1⟩ := hh
  obtain ⟨hm0, hm1⟩ := hm
  have CE := fun W => one_cb w W h m l s
  have hg := fun W => one_g w W h m l s
  clear hH hM hL hS
  by_cases hp : H + M = 0
  · unfold rt
    rw [if_pos hp]
    go_enter Try.func88, Try.ntmps88
    go_wp2_with (first | (refine wpList_store_cb rfl rfl (.tmp 1) (.tmp 5) rfl w.heap.size rfl rfl k ?_; intro w2 k2 o2; obtain ⟨q0, q1, q2, q3⟩ := k2.cells; have h2 := o2.grown (hg _ g1) (by omega); clear k o2) | (go_at_call 87; with_reducible refine (c1 _).mono ?_; rintro e w1 ⟨rfl, g1⟩; have k := CE _ g1))
    go_ret
    exact ⟨rfl, h2⟩
  · unfold rt
    rw [if_neg hp]
    have hd : (H * 65536).tdiv (H + M) = H * 65536 / (H + M) := Int.tdiv_eq_ediv_of_nonneg (by omega)
    have hb := rt_le hh0 hm0
    unfold rt at hb
    rw [if_neg hp] at hb
    obtain ⟨R, hR⟩ : ∃ R, R = H * 65536 / (H + M) := ⟨_, rfl⟩
    rw [← hR] at hb hd ⊢
    obtain ⟨hb0, hb1⟩ := hb
    clear hR
    go_enter Try.func88, Try.ntmps88
    go_wp2_with (first | (refine wpList_store_cb rfl rfl (.tmp 1) (.tmp 5) rfl w.heap.size rfl rfl k ?_; intro w2 k2 o2; obtain ⟨q0, q1, q2, q3⟩ := k2.cells; have h2 := o2.grown (hg _ g1) (by omega); clear k o2) | (go_at_call 87; with_reducible refine (c1 _).mono ?_; rintro e w1 ⟨rfl, g1⟩; have k := CE _ g1))
    go_ret
    exact ⟨rfl, h2⟩
/-- The step behind one of far, where the rate rose by rose. -/
def st (far rose c : Int) : Int := if rose < 3277 ∧ -rose < 3277 then kp far else if far < 0 then -fs c else fs c
theorem step_c (far rose c : Int) (w : World) (f0 : -4611686018427387903 ≤ far) (f1 : far ≤ 4611686018427387903) (r0 : -65536 ≤ rose) (r1 : rose ≤ 65536) :
    Calls Try.prog 89 #[.int .i64 far, .int .i64 rose, .int .i64 c] w fun e w' => e = .returned (.int .i64 (st far rose c)) ∧ Grown w w' := by
  have FC := fun w => first_c c w
  have KC := fun w => kept_c far w f0 f1
  obtain ⟨y0, y1⟩ := fs_le c
  have hg := Grown.refl w
  obtain ⟨F, hF⟩ : ∃ F, F = fs c := ⟨_, rfl⟩
  obtain ⟨K, hK⟩ : ∃ F, F = kp far := ⟨_, rfl⟩
  unfold st
  simp only [← hF, ← hK] at FC KC y0 y1 ⊢
  clear hF hK
  by_cases h : rose < 3277 ∧ -rose < 3277
  · rw [if_pos h]
    obtain ⟨h0, h1⟩ := h
    by_cases hr : -rose ≤ rose
    all_goals
      go_enter Try.func89, Try.ntmps89
      go_wp2_with (first | (go_at_call 99; refine (KC _).mono ?_; rintro e w1 ⟨rfl, rfl⟩) | (go_at_call 39; refine (FC _).mono ?_; rintro e w1 ⟨rfl, g1⟩))
      all_goals (go_ret; exact ⟨rfl, hg⟩)
  · rw [if_neg h]
    by_cases hf : far < 0
    · rw [if_pos hf]
      by_cases hr : -rose ≤ rose
      all_goals
        go_enter Try.func89, Try.ntmps89
        go_wp2_with (first | (go_at_call 99; refine (KC _).mono ?_; rintro e w1 ⟨rfl, rfl⟩) | (go_at_call 39; refine (FC _).mono ?_; rintro e w1 ⟨rfl, g1⟩))
        all_goals first | (exfalso; omega) | (go_ret; exact ⟨rfl, g1⟩)
    · rw [if_neg hf]
      by_cases hr : -rose ≤ rose
      all_goals
        go_enter Try.func89, Try.ntmps89
        go_wp2_with (first | (go_at_call 99; refine (KC _).mono ?_; rintro e w1 ⟨rfl, rfl⟩) | (go_at_call 39; refine (FC _).mono ?_; rintro e w1 ⟨rfl, g1⟩))
        all_goals first | (exfalso; omega) | (go_ret; exact ⟨rfl, g1⟩)
end Go.Proofs.Ytlmcopenbeammaa.Cm
