/-
  What Quota and Climb of package policy tell. No condition but those told at each sentence.
-/
import Derived.Test.YtlmcopenbeammaaGreatPoPlay
import Derived.Test.YtlmcopenbeammaaGreatGenCls
namespace Go.Proofs.YtlmcopenbeammaaGreat.Po
open Go.RowKit Go.Deep Cm
variable {w w' : World} {A : Nat} {Φ : Nat → Prop} {C seed : Int} {mw : Nat} {y : Ps}
theorem quota_q (h : Pol w A Φ C seed mw y) :
    Calls Tryz.prog 13 #[ptr A] w fun e w' => e = .returned (.agg #[.int .i64 C, .int .i64 y.q.x, .int .i64 (pr C y.q.x)]) ∧ Grown w w' := by
  obtain ⟨S, F, X, M, G, h, rfl⟩ := h
  have hr : ∀ c t, (w.alloc (.cells c t)).rangeAt A 3 [.int .i64 C, .int .i64 y.q.x, .int .i64 (pr C y.q.x)] := fun c t => (h.grown ((Grown.refl w).alloc c t)).pb.quota
  obtain ⟨p, hp⟩ : ∃ p, p = pr C y.q.x := ⟨_, rfl⟩
  rw [← hp] at hr ⊢
  clear h hp
  unfold ptr
  go_enter Tryz.func13, Tryz.ntmps13
  go_wp2_with (refine wpList_load_mid rfl 37 (.tmp 5) rfl A 3 rfl [.int .i64 C, .int .i64 y.q.x, .int .i64 p] _ (hr _ _) Tryz.underlying37 rfl (infoQ C y.q.x p) ?_)
  exact bodyPost_ret (results_cell_row Tryz.results13 _ _ w.heap.size 37 _ (0, 0) _ rfl (heap_alloc_new _ _) Tryz.underlying37 rfl (infoQ _ _ _)) rfl ⟨rfl, (Grown.refl _).alloc _ _⟩
theorem climb_q (h : Pol w A Φ C seed mw y) :
    Calls Tryz.prog 15 #[ptr A] w fun e w' => e = .returned (Cm.cl y.q.h y.q.m y.q.l y.q.s) ∧ Grown w w' := by
  obtain ⟨S, F, X, M, G, h, rfl⟩ := h
  have hr : ∀ c t, (w.alloc (.cells c t)).rangeAt A 6 [.int .i64 y.q.h, .int .i64 y.q.m, .int .i64 y.q.l, .int .i64 y.q.s] := fun c t => (h.grown ((Grown.refl w).alloc c t)).pb.climb
  clear h
  unfold ptr
  go_enter Tryz.func15, Tryz.ntmps15
  go_wp2_with (refine wpList_load_mid rfl 43 (.tmp 5) rfl A 6 rfl [.int .i64 y.q.h, .int .i64 y.q.m, .int .i64 y.q.l, .int .i64 y.q.s] _ (hr _ _) Tryz.underlying43 rfl (infoC y.q.h y.q.m y.q.l y.q.s) ?_)
  exact bodyPost_ret (results_cell_row Tryz.results15 _ _ w.heap.size 43 _ (0, 0) _ rfl (heap_alloc_new _ _) Tryz.underlying43 rfl (infoC _ _ _ _)) rfl ⟨rfl, (Grown.refl _).alloc _ _⟩
theorem eqC (a b c d x y z u : Int) (w : World) : (Op.equalIn 10000 43 (Cm.cl a b c d) (Cm.cl x y z u)).run Tryz.prog w = .ok (a == x && b == y && c == z && d == u) w := by
  have u3 := Tryz.underlying3
  have a3 := Tryz.isAgg3
  have z3 := Tryz.sizeOf3
  rw [show (10000 : Nat) = 9999 + 1 from rfl, Op.equalIn]
  simp only [Sem.run_bind, run_underlying Tryz.underlying43, Result.andThen_ok]
  go_simp
  by_cases h : a = x <;> by_cases k : b = y <;> by_cases l : c = z <;> by_cases m : d = u <;> simp [h, k, l, m]
theorem guardCl : Tryz.prog.eqGuardType Tryz.prog.depth 43 = false := by kernel_rfl
end Go.Proofs.YtlmcopenbeammaaGreat.Po
