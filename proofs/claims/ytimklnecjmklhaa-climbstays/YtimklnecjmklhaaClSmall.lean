/-
  The small case with which each statement of layer 10 begins comes out right: the function small returns true; memory has at most new blocks. No condition.
-/
import Derived.Test.YtimklnecjmklhaaClPlay
namespace Go.Proofs.Ytimklnecjmklhaa.Cm
open Go.RowKit Go.Deep

def zz (i : Nat) : Bool := decide (i < 2)
theorem eqC (a b c d x y z u : Int) (w : World) : (Op.equalIn 10000 23 (.agg #[.int .i64 a, .int .i64 b, .int .i64 c, .int .i64 d]) (.agg #[.int .i64 x, .int .i64 y, .int .i64 z, .int .i64 u])).run Try.prog w = .ok (a == x && b == y && c == z && d == u) w := by
  have u3 := Try.underlying3
  have a3 := Try.isAgg3
  have z3 := Try.sizeOf3
  rw [show (10000 : Nat) = 9999 + 1 from rfl, Op.equalIn]
  simp only [Sem.run_bind, run_underlying Try.underlying23, Result.andThen_ok]
  go_simp
  by_cases h : a = x <;> by_cases k : b = y <;> by_cases l : c = z <;> by_cases m : d = u <;> simp [h, k, l, m]
theorem field3 (a b c d : Int) (w : World) : (Instr.field 23 (.agg #[.int .i64 a, .int .i64 b, .int .i64 c, .int .i64 d]) 3).run Try.prog w = .ok (.int .i64 d) w := by kernel_rfl
theorem guardC : Try.prog.eqGuardType Try.prog.depth 23 = false := by kernel_rfl
theorem sb3 (w : World) (o : Obj) : Sb ((w.alloc o).alloc (.cells #[.bool true, .bool true, .bool false] 4)) (some ⟨w.heap.size + 1, 0, none⟩) 3 zz := by
  refine .inr ⟨_, 0, rfl, by simp, fun i hi => ?_⟩
  rw [World.cell?, heap2_new]
  match i, hi with
  | 0, _ => rfl
  | 1, _ => rfl
  | 2, _ => rfl
set_option maxHeartbeats 4000000 in
theorem cSmall (w : World) : Calls Try.prog 8 #[] w fun e w' => e = .returned (.bool true) ∧ Grown w w' := by
  have T1 : ∀ w, Calls Try.prog 9 #[cl 1 1 0 5, .int .i64 160] w fun e w' => e = .returned (.tuple #[cl 0 0 32768 10, .int .i64 5]) ∧ Grown w w' := fun w => turn_c 1 1 0 5 160 w
  have ep : pst 1600 2 zz 3 = ⟨0, 1, 65536, 100, 116⟩ := by rfl
  have P1 : ∀ (a : Option Addr) (w : World), Sb w a 3 zz → Calls Try.prog 19 #[.int .i64 1600, .int .i64 2, .slice a 3 3] w fun e w' => e = .returned (.tuple #[cl 0 1 65536 100, .agg #[.int .i64 1600, .int .i64 116, .int .i64 1188]]) ∧ Grown w w' := fun a w h => by
    have := play_c 1600 2 a 3 3 zz w h (by decide)
    rw [ep] at this
    exact this
  have N1 : ∀ w, Calls Try.prog 17 #[.int .i64 160] w fun e w' => e = .returned (.agg #[.int .i64 0, .int .i64 0, .int .i64 0, .int .i64 10]) ∧ Grown w w' := fun w => new_c 160 w
  have D1 : ∀ w, Calls Try.prog 13 #[cl 2 0 0 0, .int .i64 2] w fun e w' => e = .returned (.bool true) ∧ Grown w w' := fun w => due_c 2 0 0 0 2 w
  have R1 : ∀ w, Calls Try.prog 15 #[cl 1 3 0 0] w fun e w' => e = .returned (.int .i64 16384) ∧ Grown w w' := fun w => rate_c 1 3 0 0 w
  have gq := guardC
  have he := eqC
  have hf := field3
  clear ep
  go_enter Try.func8, Try.ntmps8
  go_wp2_with (first | (refine wpList_load_cb rfl (.tmp 1) rfl w1.heap.size rfl (Cb.grown k1 (((Grown.refl _).alloc _ _).alloc _ _)) ?_) | (go_at_call 9; refine (T1 _).mono ?_; rintro e w1 ⟨rfl, g1⟩) | (go_at_call 19; refine (P1 _ _ (sb3 _ _)).mono ?_; rintro e w2 ⟨rfl, g2⟩; have k1 : Cb w2 w1.heap.size 0 0 32768 10 := Cb.grown (heap2_old _ _ _) g2; obtain ⟨c0, c1, c2, c3⟩ := k1.cells; replace g1 := grownTrans g1 (grownTrans (((Grown.refl _).alloc _ _).alloc _ _) g2); clear g2) | (go_at_call 17; refine (N1 _).mono ?_; rintro e w3 ⟨rfl, g3⟩) | (go_at_call 13; refine (D1 _).mono ?_; rintro e w4 ⟨rfl, g4⟩) | (go_at_call 15; refine (R1 _).mono ?_; rintro e w5 ⟨rfl, g5⟩; have gg := grownTrans g3 (grownTrans g4 g5); have kd : Cb w5 w2.heap.size 0 1 65536 100 := Cb.grown (heap2_old _ _ _) gg; have kq : Qb w5 (w2.heap.size + 1) 1600 116 1188 := Qb.grown (heap2_new _ _ _) gg; obtain ⟨d0, d1, d2, d3⟩ := kd.cells; obtain ⟨q0, q1, q2⟩ := kq.cells; replace g1 := grownTrans g1 (grownTrans (((Grown.refl _).alloc _ _).alloc _ _) gg); clear gg g3 g4 g5))
  go_ret
  exact ⟨rfl, g1⟩
end Go.Proofs.Ytimklnecjmklhaa.Cm
