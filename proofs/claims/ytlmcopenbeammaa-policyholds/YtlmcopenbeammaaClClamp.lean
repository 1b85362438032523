/-
  What the parts of package climb that clamp, and that reckon a step, and those of the document's own answers for it, do when they are called: the number or climb told here; memory has at most new blocks. Condition: the numbers are of the Go type int.
-/
import Derived.Test.YtlmcopenbeammaaGrQt
import Derived.Test.YtlmcopenbeammaaGenCls
import Derived.Deep.RegionHeld3
namespace Go.Proofs.Ytlmcopenbeammaa.Cm
open Go.RowKit Go.Deep

/-- A function value of clampTo, its ends in blocks b and d. -/
theorem clo_c {b d : Nat} {l m : Int} {w : World} (n : Int) (hb : w.cell? ⟨b, 0, none⟩ = some (.int .i64 l)) (hd : w.cell? ⟨d, 0, none⟩ = some (.int .i64 m)) :
    Calls Try.prog 82 #[.int .i64 n, ptr b, ptr d] w fun e w' => e = .returned (.int .i64 (mid n l m)) ∧ w' = w := by
  unfold ptr
  go_enter Try.func82, Try.ntmps82
  go_wp2
  all_goals (go_ret; exact ⟨ret_i (by unfold mid; omega), rfl⟩)
theorem clampTo_c (l m : Int) (w : World) :
    Calls Try.prog 60 #[.int .i64 l, .int .i64 m] w fun e w' => e = .returned (.func (.func 82) #[] #[ptr w.heap.size, ptr (w.heap.size + 1)]) ∧ w' = (w.alloc (.cells #[.int .i64 l] 3)).alloc (.cells #[.int .i64 m] 3) := by
  unfold ptr
  go_enter Try.func60, Try.ntmps60
  go_wp2
  go_ret
  exact ⟨rfl, rfl⟩

/-- What a step keeps of a number. -/
def kp (n : Int) : Int := n.tdiv 100 * 98 + (n.tmod 100 * 98).tdiv 100
theorem kp_up {n : Int} (h : 0 ≤ n) : kp n = n / 100 * 98 + n % 100 * 98 / 100 := by
  unfold kp
  rw [Int.tdiv_eq_ediv_of_nonneg h, Int.tmod_eq_emod_of_nonneg h, Int.tdiv_eq_ediv_of_nonneg (by omega)]
theorem kp_neg (n : Int) : kp (-n) = -kp n := by
  unfold kp
  rw [Int.neg_tdiv, Int.neg_tmod, Int.neg_mul, Int.neg_mul, Int.neg_tdiv]
  omega
theorem kp_le {n : Int} (h : 0 ≤ n) : 0 ≤ kp n ∧ kp n ≤ n ∧ (0 < n → kp n < n) := by rw [kp_up h]; omega
theorem kp_low {n : Int} (h : n ≤ 0) : kp n ≤ 0 ∧ n ≤ kp n := by
  have h1 := kp_neg (-n)
  have h2 := kp_le (show 0 ≤ -n by omega)
  rw [Int.neg_neg] at h1
  omega
theorem parts_le (n : Int) (h0 : -4611686018427387903 ≤ n) (h1 : n ≤ 4611686018427387903) :
    (-46116860184273880 ≤ n.tdiv 100 ∧ n.tdiv 100 ≤ 46116860184273880) ∧ (-100 < n.tmod 100 ∧ n.tmod 100 < 100) ∧ (-98 ≤ (n.tmod 100 * 98).tdiv 100 ∧ (n.tmod 100 * 98).tdiv 100 ≤ 98) := by
  by_cases h : 0 ≤ n
  · rw [Int.tdiv_eq_ediv_of_nonneg h, Int.tmod_eq_emod_of_nonneg h, Int.tdiv_eq_ediv_of_nonneg (by omega)]
    omega
  · obtain ⟨k, rfl⟩ : ∃ k, n = -k := ⟨-n, by omega⟩
    rw [Int.neg_tdiv, Int.neg_tmod, Int.neg_mul, Int.neg_tdiv, Int.tdiv_eq_ediv_of_nonneg (by omega), Int.tmod_eq_emod_of_nonneg (by omega), Int.tdiv_eq_ediv_of_nonneg (by omega)]
    omega
theorem kept_c (n : Int) (w : World) (h0 : -4611686018427387903 ≤ n) (h1 : n ≤ 4611686018427387903) :
    Calls Try.prog 99 #[.int .i64 n] w fun e w' => e = .returned (.int .i64 (kp n)) ∧ w' = w := by
  obtain ⟨⟨a0, a1⟩, ⟨b0, b1⟩, c0, c1⟩ := parts_le n h0 h1
  unfold kp
  go_enter Try.func99, Try.ntmps99
  go_wp2
  go_ret
  exact ⟨rfl, rfl⟩
/-- The first step of a capacity. -/
def fs (c : Int) : Int := max 1 (wh c / 16)
theorem fs_le (c : Int) : 1 ≤ fs c ∧ fs c ≤ 288230376151711743 := by have h := wh_le c; unfold fs; omega
theorem first_c (c : Int) (w : World) :
    Calls Try.prog 39 #[.int .i64 c] w fun e w' => e = .returned (.int .i64 (fs c)) ∧ Grown w w' := by
  have hc := wh_le c
  have CT := fun w => clampTo_c 0 4611686018427387903 w
  have CL : ∀ w : World, Calls Try.prog 82 #[.int .i64 c, ptr w.heap.size, ptr (w.heap.size + 1)] ((w.alloc (.cells #[.int .i64 0] 3)).alloc (.cells #[.int .i64 4611686018427387903] 3)) fun e w' => e = .returned (.int .i64 (wh c)) ∧ w' = (w.alloc (.cells #[.int .i64 0] 3)).alloc (.cells #[.int .i64 4611686018427387903] 3) :=
    fun w => clo_c c (by rw [World.cell?, heap2_old]; rfl) (by rw [World.cell?, heap2_new]; rfl)
  unfold fs
  obtain ⟨C, hC⟩ : ∃ C, C = wh c := ⟨_, rfl⟩
  simp only [← hC] at hc CL ⊢
  clear hC
  obtain ⟨hc0, hc1⟩ := hc
  have e1 : (wrap64 (C / 16)) = C / 16 := by unfold wrap64; omega
  unfold ptr at CT CL
  go_enter Try.func39, Try.ntmps39
  go_wp2_with (first | (go_at_call 60; refine (CT _).mono ?_; rintro e w' ⟨rfl, rfl⟩) | (go_at_call 82; refine (CL _).mono ?_; rintro e w' ⟨rfl, rfl⟩))
  all_goals (go_ret; exact ⟨ret_i (by omega), ((Grown.refl _).alloc _ _).alloc _ _⟩)
def cc (x : Int) : Int := mid x 0 1099511627776
def cr (x : Int) : Int := mid x 0 65536
def cs (x : Int) : Int := mid x (-4611686018427387903) 4611686018427387903
theorem cc_le (x : Int) : 0 ≤ cc x ∧ cc x ≤ 1099511627776 := by unfold cc mid; omega
theorem cr_le (x : Int) : 0 ≤ cr x ∧ cr x ≤ 65536 := by unfold cr mid; omega
theorem cs_le (x : Int) : -4611686018427387903 ≤ cs x ∧ cs x ≤ 4611686018427387903 := by unfold cs mid; omega
/-- A climb of these four numbers. -/
abbrev cl (h m l s : Int) : Value := .agg #[.int .i64 h, .int .i64 m, .int .i64 l, .int .i64 s]
theorem infoC (a b c d : Int) : (Try.prog.info? 52).map (·.size) = some (#[Value.int .i64 a, .int .i64 b, .int .i64 c, .int .i64 d]).size := by kernel_rfl

/-- A function value of clampTo, and that its ends lie in blocks of its own. -/
theorem clampTo_g (l m : Int) (w : World) :
    Calls Try.prog 60 #[.int .i64 l, .int .i64 m] w fun e w' => ∃ b d, e = .returned (.func (.func 82) #[] #[.pointer (some ⟨b, 0, none⟩), .pointer (some ⟨d, 0, none⟩)]) ∧ Grown w w' ∧ ∀ W, Grown w' W → W.cell? ⟨b, 0, none⟩ = some (.int .i64 l) ∧ W.cell? ⟨d, 0, none⟩ = some (.int .i64 m) :=
  (clampTo_c l m w).mono fun _ _ ⟨he, hw⟩ => ⟨_, _, he, by rw [hw]; exact ((Grown.refl _).alloc _ _).alloc _ _, fun W g => by
    rw [hw] at g
    constructor
    · rw [World.cell?, grown_block g (by simp; omega), heap2_old]; rfl
    · rw [World.cell?, grown_block g (by simp), heap2_new]; rfl⟩

theorem blk_set {w : World} {b : Nat} {cs : Array Value} {t : TypeId} (h : w.heap[b]? = some (.cells cs t (0, 0))) (j : Nat) (v : Value) : (w.setCell ⟨b, j, none⟩ v).heap[b]? = some (.cells (cs.setIfInBounds j v) t (0, 0)) := by
  simp only [World.setCell]
  rw [Array.getElem?_modify, if_pos rfl, h]
  simp
theorem row4 {w : World} {b : Nat} {t : TypeId} {a0 a1 a2 a3 : Value} (h : w.heap[b]? = some (.cells #[a0, a1, a2, a3] t (0, 0))) (x0 x1 x2 x3 : Value) :
    ((((w.setCell ⟨b, 0, none⟩ x0).setCell ⟨b, 1, none⟩ x1).setCell ⟨b, 2, none⟩ x2).setCell ⟨b, 3, none⟩ x3).heap[b]? = some (.cells #[x0, x1, x2, x3] t (0, 0)) := by
  have k := blk_set (blk_set (blk_set (blk_set h 0 x0) 1 x1) 2 x2) 3 x3
  exact k
set_option maxHeartbeats 2000000 in
theorem clamped_c (h m l s : Int) (w : World) :
    Calls Try.prog 87 #[cl h m l s] w fun e w' => e = .returned (cl (cc h) (cc m) (cr l) (cs s)) ∧ Grown w w' := by
  have C1 := fun w => clampTo_g 0 1099511627776 w
  have C2 := fun w => clampTo_g 0 65536 w
  have C3 := fun w => clampTo_g (-4611686018427387903) 4611686018427387903 w
  unfold cc cr cs
  go_enter Try.func87, Try.ntmps87
  have q1 := heap2_old w (.cells #[.int .i64 h, .int .i64 m, .int .i64 l, .int .i64 s] 52) (.cells #[.int .i64 0, .int .i64 0, .int .i64 0, .int .i64 0] 52)
  have q2 := heap2_new w (.cells #[.int .i64 h, .int .i64 m, .int .i64 l, .int .i64 s] 52) (.cells #[.int .i64 0, .int .i64 0, .int .i64 0, .int .i64 0] 52)
  have hg : Grown w ((w.alloc (.cells #[.int .i64 h, .int .i64 m, .int .i64 l, .int .i64 s] 52)).alloc (.cells #[.int .i64 0, .int .i64 0, .int .i64 0, .int .i64 0] 52)) := ((Grown.refl _).alloc _ _).alloc _ _
  have hz : ((w.alloc (.cells #[.int .i64 h, .int .i64 m, .int .i64 l, .int .i64 s] 52)).alloc (.cells #[.int .i64 0, .int .i64 0, .int .i64 0, .int .i64 0] 52)).heap.size = w.heap.size + 2 := by simp
  obtain ⟨W0, hW0⟩ : ∃ W0, W0 = ((w.alloc (.cells #[.int .i64 h, .int .i64 m, .int .i64 l, .int .i64 s] 52)).alloc (.cells #[.int .i64 0, .int .i64 0, .int .i64 0, .int .i64 0] 52)) := ⟨_, rfl⟩
  simp only [← hW0] at q1 q2 hg hz
  have G1 := Grown.refl W0
  go_wp2_with (first | (go_at_call 60; (try rw [← hW0]); with_reducible refine (C1 _).mono ?_; rintro e w1 ⟨b1, d1, rfl, g1, k1⟩; replace G1 := grownTrans G1 g1) | (go_at_call 60; with_reducible refine (C2 _).mono ?_; rintro e w2 ⟨b2, d2, rfl, g2, k2⟩; replace G1 := grownTrans G1 g2) | (go_at_call 60; with_reducible refine (C3 _).mono ?_; rintro e w3 ⟨b3, d3, rfl, g3, k3⟩; replace G1 := grownTrans G1 g3))
  obtain ⟨c1, c2⟩ := k1 w3 (grownTrans g2 g3)
  obtain ⟨c3, c4⟩ := k2 w3 g3
  obtain ⟨c5, c6⟩ := k3 w3 (Grown.refl _)
  replace q1 := (grown_block G1 (by omega)).trans q1
  replace q2 := (grown_block G1 (by omega)).trans q2
  replace hg := grownTrans hg G1
  clear G1 g1 g2 g3 k1 k2 k3 hW0 C1 C2 C3 hz
  have a1 : w3.cell? ⟨w.heap.size, 0, none⟩ = some (.int .i64 h) := by rw [World.cell?, q1]; rfl
  have a2 : w3.cell? ⟨w.heap.size, 1, none⟩ = some (.int .i64 m) := by rw [World.cell?, q1]; rfl
  have a3 : w3.cell? ⟨w.heap.size, 2, none⟩ = some (.int .i64 l) := by rw [World.cell?, q1]; rfl
  have a4 : w3.cell? ⟨w.heap.size, 3, none⟩ = some (.int .i64 s) := by rw [World.cell?, q1]; rfl
  have b1' : w3.cell? ⟨w.heap.size + 1, 0, none⟩ = some (.int .i64 0) := by rw [World.cell?, q2]; rfl
  have b2' : w3.cell? ⟨w.heap.size + 1, 1, none⟩ = some (.int .i64 0) := by rw [World.cell?, q2]; rfl
  have b3' : w3.cell? ⟨w.heap.size + 1, 2, none⟩ = some (.int .i64 0) := by rw [World.cell?, q2]; rfl
  have b4' : w3.cell? ⟨w.heap.size + 1, 3, none⟩ = some (.int .i64 0) := by rw [World.cell?, q2]; rfl
  have f1 : w3.frozen? ⟨w.heap.size + 1, 0, none⟩ = false := by rw [World.frozen?, q2]; rfl
  have f2 : w3.frozen? ⟨w.heap.size + 1, 1, none⟩ = false := by rw [World.frozen?, q2]; rfl
  have f3 : w3.frozen? ⟨w.heap.size + 1, 2, none⟩ = false := by rw [World.frozen?, q2]; rfl
  have f4 : w3.frozen? ⟨w.heap.size + 1, 3, none⟩ = false := by rw [World.frozen?, q2]; rfl
  have M1 := clo_c (w := w3.drew) h c1 c2
  have M2 := clo_c (w := w3.drew) m c1 c2
  have M3 := clo_c (w := w3.drew) l c3 c4
  have M4 := clo_c (w := w3.drew) s c5 c6
  unfold ptr at M1 M2 M3 M4
  go_region_held3 (fun w' => w'.cell? ⟨w.heap.size, 0, none⟩ = some (.int .i64 h) ∧ w'.cell? ⟨w.heap.size, 1, none⟩ = some (.int .i64 m) ∧ w'.cell? ⟨w.heap.size, 2, none⟩ = some (.int .i64 l) ∧ w'.cell? ⟨w.heap.size, 3, none⟩ = some (.int .i64 s)) (first | exact ⟨a1, a2, a3, a4⟩ | go_keep) (first | (go_at_call 82; with_reducible refine M1.mono ?_; rintro e w' ⟨rfl, rfl⟩) | (go_at_call 82; with_reducible refine M2.mono ?_; rintro e w' ⟨rfl, rfl⟩) | (go_at_call 82; with_reducible refine M3.mono ?_; rintro e w' ⟨rfl, rfl⟩) | (go_at_call 82; with_reducible refine M4.mono ?_; rintro e w' ⟨rfl, rfl⟩))
  go_wp2
  exact bodyPost_ret (v := cl (mid h 0 1099511627776) (mid m 0 1099511627776) (mid l 0 65536) (mid s (-4611686018427387903) 4611686018427387903)) (results_cell_row Try.results87 _ _ (w.heap.size + 1) 52 _ (0, 0) _ rfl (row4 (w := w3.drew) q2 _ _ _ _) Try.underlying52 rfl (infoC _ _ _ _)) rfl ⟨rfl, (((hg.drew.setCell (by simp) _).setCell (by simp) _).setCell (by simp) _).setCell (by simp) _⟩
end Go.Proofs.Ytlmcopenbeammaa.Cm
