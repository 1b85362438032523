/-
  A buffer in memory: its map at block M, its struct at block M + 1; what the functions of package writes that ask, reserve and give up do when they are called. No condition but those told at each sentence.
-/
import Derived.Test.YtigmjgmkeoineaaDoorGenUse
import Derived.Test.YtigmjgmkeoineaaDoorGenMapN
import Derived.Test.YtigmjgmkeoineaaDoorWgWalks
namespace Go.Proofs.YtigmjgmkeoineaaDoor.Wb
open Go.RowKit Go.Deep Us

/-- An event. -/
structure Ev where
  d : Int
  n : Int
  k : Int
  x : Int
def Ev.v (e : Ev) : Value := .agg #[.int .i64 e.d, .int .i64 e.n, .int .i64 e.k, .int .i64 e.x]
def e0 : Ev := ⟨0, 0, 0, 0⟩
/-- What it counts for. -/
def wt (e : Ev) : Int := min (max e.x 0) 2147483648
def wsum : List Ev → Int
  | [] => 0
  | e :: q => wt e + wsum q
theorem wt_bd (e : Ev) : 0 ≤ wt e ∧ wt e ≤ 2147483648 := by unfold wt; omega
theorem wsum_bd : ∀ q : List Ev, 0 ≤ wsum q ∧ wsum q ≤ 2147483648 * (q.length : Int)
  | [] => by simp [wsum]
  | e :: q => by
    have := wt_bd e
    have := wsum_bd q
    simp only [wsum, List.length_cons]
    omega
theorem wsum_push (e : Ev) : ∀ q : List Ev, wsum (q ++ [e]) = wsum q + wt e
  | [] => by simp [wsum]
  | x :: q => by
    have := wsum_push e q
    simp only [wsum, List.cons_append]
    omega
theorem wsum_tail {q : List Ev} (h : 0 < q.length) : wsum q.tail = wsum q - wt (q.getD 0 e0) := by
  cases q with
  | nil => simp at h
  | cons x q => simp only [wsum, List.tail_cons, List.getD_cons_zero]; omega
/-- What stands in the map: the events of q, by numbers from f on. -/
def qf (f : Nat) (q : List Ev) (x : Int) : Option Value := if (f : Int) ≤ x ∧ x < (f : Int) + (q.length : Int) then some (q.getD (x - (f : Int)).toNat e0).v else none
theorem qf_push (f : Nat) (q : List Ev) (e : Ev) (y : Int) : (if y = (f : Int) + (q.length : Int) then some e.v else qf f q y) = qf f (q ++ [e]) y := by
  unfold qf
  simp only [List.length_append, List.length_cons, List.length_nil]
  by_cases h : y = (f : Int) + (q.length : Int)
  · rw [if_pos h, if_pos (by omega)]
    have : (y - (f : Int)).toNat = q.length := by omega
    simp [this, List.getD_eq_getElem?_getD]
  · rw [if_neg h]
    by_cases h2 : (f : Int) ≤ y ∧ y < (f : Int) + (q.length : Int)
    · rw [if_pos h2, if_pos (by omega)]
      have : (y - (f : Int)).toNat < q.length := by omega
      rw [List.getD_eq_getElem?_getD, List.getD_eq_getElem?_getD, List.getElem?_append_left this]
    · rw [if_neg h2, if_neg (by omega)]
theorem qf_pop (f : Nat) (q : List Ev) (h : 0 < q.length) (y : Int) : (if y = (f : Int) then none else qf f q y) = qf (f + 1) q.tail y := by
  unfold qf
  rw [List.length_tail]
  by_cases e : y = (f : Int)
  · rw [if_pos e, if_neg (by omega)]
  · rw [if_neg e]
    by_cases h2 : (f : Int) ≤ y ∧ y < (f : Int) + (q.length : Int)
    · rw [if_pos h2, if_pos (by omega)]
      obtain ⟨i, hi⟩ : ∃ i : Nat, (y - (f : Int)).toNat = i + 1 := ⟨(y - (f : Int)).toNat - 1, by omega⟩
      have hj : (y - ((f + 1 : Nat) : Int)).toNat = i := by omega
      rw [hi, hj]
      cases q with
      | nil => simp at h
      | cons x q => simp
    · rw [if_neg h2, if_neg (by omega)]
theorem qf_first {f : Nat} {q : List Ev} (h : 0 < q.length) : qf f q (f : Int) = some (q.getD 0 e0).v := by
  unfold qf
  rw [if_pos (by omega)]
  simp
theorem qf_past {f : Nat} {q : List Ev} : qf f q ((f : Int) + (q.length : Int)) = none := by
  unfold qf
  rw [if_neg (by omega)]
theorem qf_nil {f : Nat} (x : Int) : qf f [] x = none := by
  unfold qf
  rw [if_neg (by simp)]

/-- The struct's cells, and the map. -/
structure Bw (w : World) (M N : Nat) (g r s : Int) (k : Nat) (m : Int → Option Value) : Prop where
  head : w.heap[M + 1]? = some (.cells #[.map (some M), .int .i64 g, .int .i64 r, .int .i64 (N : Int), .int .i64 s] 54 (0, 0))
  map : MapN Tryd.prog 3 w M k e0.v m
def bfF (M k : Nat) : Prop := k = M ∨ k = M + 1
variable {w w' : World} {M N k f r : Nat} {g g' s t : Int} {m m' : Int → Option Value} {q : List Ev}
namespace Bw
theorem lt (h : Bw w M N g t s k m) : M + 1 < w.heap.size := lt_of h.head
theorem foot_lt (h : Bw w M N g t s k m) {i : Nat} (hi : bfF M i) : i < w.heap.size := by
  have := h.lt
  rcases hi with rfl | rfl <;> omega
theorem keep (h : Bw w M N g t s k m) (hk : ∀ i, bfF M i → w'.heap[i]? = w.heap[i]?) : Bw w' M N g t s k m :=
  ⟨(hk _ (.inr rfl)).trans h.head, h.map.keep (hk _ (.inl rfl))⟩
theorem out {F : Nat → Prop} (h : Bw w M N g t s k m) (o : Out F w w') (hF : ∀ i, bfF M i → ¬ F i) : Bw w' M N g t s k m := h.keep fun i hi => o.block i (h.foot_lt hi) (hF i hi)
theorem grown (h : Bw w M N g t s k m) (a : Grown w w') : Bw w' M N g t s k m := h.keep fun _ hi => grown_block a (h.foot_lt hi)
theorem cells (h : Bw w M N g t s k m) : w.cell? ⟨M + 1, 0, none⟩ = some (.map (some M)) ∧ w.cell? ⟨M + 1, 1, none⟩ = some (.int .i64 g) ∧ w.cell? ⟨M + 1, 2, none⟩ = some (.int .i64 t) ∧ w.cell? ⟨M + 1, 3, none⟩ = some (.int .i64 (N : Int)) ∧ w.cell? ⟨M + 1, 4, none⟩ = some (.int .i64 s) :=
  ⟨cell_of h.head rfl, cell_of h.head rfl, cell_of h.head rfl, cell_of h.head rfl, cell_of h.head rfl⟩
theorem free (h : Bw w M N g t s k m) (i : Nat) : w.frozen? ⟨M + 1, i, none⟩ = false := by simp [World.frozen?, h.head]
theorem mapOf (h : Bw w M N g t s k m) {w2 : World} (e : w2.heap[M]? = w.heap[M]?) : MapN Tryd.prog 3 w2 M k e0.v m := h.map.keep e
theorem setG (h : Bw w M N g t s k m) (x : Int) : Bw (w.setCell ⟨M + 1, 1, none⟩ (.int .i64 x)) M N x t s k m := ⟨blk_set h.head 1 _, h.map.keep (blk_setCell_other _ _ _ _ (by simp))⟩
theorem setR (h : Bw w M N g t s k m) (x : Int) : Bw (w.setCell ⟨M + 1, 2, none⟩ (.int .i64 x)) M N g x s k m := ⟨blk_set h.head 2 _, h.map.keep (blk_setCell_other _ _ _ _ (by simp))⟩
theorem setS (h : Bw w M N g t s k m) (x : Int) : Bw (w.setCell ⟨M + 1, 4, none⟩ (.int .i64 x)) M N g t x k m := ⟨blk_set h.head 4 _, h.map.keep (blk_setCell_other _ _ _ _ (by simp))⟩
theorem turn {k' : Nat} (h : Bw w M N g t s k m) (h1 : MapN Tryd.prog 3 w' M k' e0.v m') (o : Out (· = M) w w') : Bw w' M N g t s k' m' := ⟨(o.block _ h.lt (by omega)).trans h.head, h1⟩
theorem outW (o : Out (bfF M) w w') (i : Nat) (x : Value) : Out (bfF M) w (w'.setCell ⟨M + 1, i, none⟩ x) := o.setCell (a := ⟨M + 1, i, none⟩) (.inr rfl) x
end Bw
/-- A buffer for N: it holds q, the first of which has the number f; room for r more is reserved. -/
structure Bf (w : World) (M N f : Nat) (q : List Ev) (r : Nat) : Prop where
  raw : Bw w M N (f : Int) (r : Int) (wsum q) q.length (qf f q)
  le : q.length + r ≤ N
  most : N ≤ 4096
namespace Bf
theorem foot_lt (h : Bf w M N f q r) {i : Nat} (hi : bfF M i) : i < w.heap.size := h.raw.foot_lt hi
theorem out {F : Nat → Prop} (h : Bf w M N f q r) (o : Out F w w') (hF : ∀ i, bfF M i → ¬ F i) : Bf w' M N f q r := ⟨h.raw.out o hF, h.le, h.most⟩
theorem grown (h : Bf w M N f q r) (a : Grown w w') : Bf w' M N f q r := ⟨h.raw.grown a, h.le, h.most⟩
theorem len (h : Bf w M N f q r) (ty : TypeId) : (Builtin.len_ #[51] ty #[.map (some M)]).run Tryd.prog w = .ok (.int .i64 (q.length : Int)) w := h.raw.map.len Tryd.underlying51 ty
end Bf

theorem grown_map (w : World) : Grown w (w.alloc (.map #[] 0)) :=
  ⟨keptBut_blocks rfl rfl fun k hk => blk_alloc_lt _ _ _ hk, fun a => by
    by_cases h : a.block < w.heap.size
    · simp only [World.frozen?, blk_alloc_lt w (.map #[] 0) _ h]
    · by_cases e : a.block = w.heap.size
      · have e1 : w.heap[a.block]? = none := Array.getElem?_eq_none (by omega)
        simp only [World.frozen?, e1]
        rw [e, blk_alloc_new]
      · have e1 : w.heap[a.block]? = none := Array.getElem?_eq_none (by omega)
        have e2 : (w.alloc (.map #[] 0)).heap[a.block]? = none := Array.getElem?_eq_none (by rw [nblk_alloc]; omega)
        simp only [World.frozen?, e1, e2], by rw [nblk_alloc]; omega⟩
theorem new_b (n : Int) (w : World) (e : ceilI n 1 4096 = (N : Int)) (hm : N ≤ 4096) :
    Calls Tryd.prog 8 #[.int .i64 n] w fun e w' => e = .returned (ptr (w.heap.size + 1)) ∧ Bf w' w.heap.size N 0 [] 0 ∧ Grown w w' := by
  have ce := fun w => ceil_any n 1 4096 w (by decide) (by decide)
  rw [e] at ce
  clear e
  have hmm := @run_makeMap Tryd.prog
  go_enter Tryd.func8, Tryd.ntmps8
  go_wp2_with (go_at_call 27; refine (ce _).mono ?_; rintro e w' ⟨rfl, rfl⟩)
  go_ret
  have h1 : ((w.alloc (.map #[] 0)).alloc (.cells #[.map (some w.heap.size), .int .i64 0, .int .i64 0, .int .i64 (N : Int), .int .i64 0] 54)).heap[w.heap.size + 1]? = some (.cells #[.map (some w.heap.size), .int .i64 0, .int .i64 0, .int .i64 (N : Int), .int .i64 0] 54 (0, 0)) := by
    rw [← nblk_alloc w (.map #[] 0)]; exact blk_alloc_new _ _
  refine ⟨rfl, ⟨⟨h1, ?_⟩, by simp, hm⟩, grownTrans (grown_map w) ((Grown.refl _).alloc _ _)⟩
  exact ((MapN.made Tryd.prog 3 w e0.v).keep (blk_alloc_lt _ _ _ (by rw [nblk_alloc]; omega))).congr fun x => (qf_nil x).symm
theorem len_b (h : Bf w M N f q r) : Calls Tryd.prog 20 #[ptr (M + 1)] w fun e w' => e = .returned (.int .i64 (q.length : Int)) ∧ w' = w := by
  obtain ⟨c0, c1, c2, c3, c4⟩ := h.raw.cells
  have hl := h.len 3
  have hb := h.raw.lt
  clear h
  unfold ptr
  go_enter Tryd.func20, Tryd.ntmps20
  go_wp2
  go_ret
  exact ⟨rfl, rfl⟩
theorem reserved_b (h : Bf w M N f q r) : Calls Tryd.prog 21 #[ptr (M + 1)] w fun e w' => e = .returned (.int .i64 (r : Int)) ∧ w' = w := by
  obtain ⟨c0, c1, c2, c3, c4⟩ := h.raw.cells
  have hb := h.raw.lt
  clear h
  unfold ptr
  go_enter Tryd.func21, Tryd.ntmps21
  go_wp2
  go_ret
  exact ⟨rfl, rfl⟩
theorem size_b (h : Bf w M N f q r) : Calls Tryd.prog 22 #[ptr (M + 1)] w fun e w' => e = .returned (.int .i64 (N : Int)) ∧ w' = w := by
  obtain ⟨c0, c1, c2, c3, c4⟩ := h.raw.cells
  have hb := h.raw.lt
  clear h
  unfold ptr
  go_enter Tryd.func22, Tryd.ntmps22
  go_wp2
  go_ret
  exact ⟨rfl, rfl⟩
theorem weight_b (h : Bf w M N f q r) : Calls Tryd.prog 23 #[ptr (M + 1)] w fun e w' => e = .returned (.int .i64 (wsum q)) ∧ w' = w := by
  obtain ⟨c0, c1, c2, c3, c4⟩ := h.raw.cells
  have hb := h.raw.lt
  clear h
  unfold ptr
  go_enter Tryd.func23, Tryd.ntmps23
  go_wp2
  go_ret
  exact ⟨rfl, rfl⟩
theorem weightOf_b (e : Ev) (w : World) : Calls Tryd.prog 29 #[e.v] w fun o w' => o = .returned (.int .i64 (wt e)) ∧ Grown w w' := by
  unfold Ev.v wt
  go_enter Tryd.func29, Tryd.ntmps29
  go_wp2
  all_goals go_ret
  all_goals refine ⟨ret_i ?_, (Grown.refl _).alloc _ _⟩
  all_goals omega
theorem cancel_no (h : Bf w M N f q 0) : Calls Tryd.prog 16 #[ptr (M + 1)] w fun e w' => e = .returned (.int .i64 3) ∧ w' = w := by
  obtain ⟨c0, c1, c2, c3, c4⟩ := h.raw.cells
  have c2 : w.cell? ⟨M + 1, 2, none⟩ = some (.int .i64 0) := c2
  have hb := h.raw.lt
  clear h
  unfold ptr
  go_enter Tryd.func16, Tryd.ntmps16
  go_wp2
  go_ret
  exact ⟨rfl, rfl⟩
theorem cancel_yes (h : Bf w M N f q (r + 1)) : Calls Tryd.prog 16 #[ptr (M + 1)] w fun e w' => e = .returned (.int .i64 0) ∧ Bf w' M N f q r ∧ Out (bfF M) w w' := by
  obtain ⟨c0, c1, c2, c3, c4⟩ := h.raw.cells
  have c2 : w.cell? ⟨M + 1, 2, none⟩ = some (.int .i64 ((r : Int) + 1)) := c2
  have f2 := h.raw.free 2
  have hb := h.raw.lt
  have hle := h.le
  have hmo := h.most
  have hz : ¬ (r : Int) + 1 = 0 := by omega
  have hz2 : ((r : Int) + 1 == 0) = false := by simp; omega
  have H : Hid (Bf w M N f q (r + 1)) := h
  clear h
  unfold ptr
  go_enter Tryd.func16, Tryd.ntmps16
  go_wp2
  go_ret
  refine ⟨rfl, ⟨?_, by omega, hmo⟩, Bw.outW (Out.refl _ _) _ _⟩
  have := H.out.raw.setR (r : Int)
  simpa using this
/-- The cells of an error of this program's. -/
def fltC (n k m : Int) : Array Value := #[.int .i64 n, .int .i64 k, .int .i64 m]
theorem wrap_b (n k m : Int) (w : World) (hn : n ≠ 0) : Calls Tryd.prog 13 #[.int .i64 n, .int .i64 k, .int .i64 m] w fun e w' => e = .returned (.iface 55 (ptr w.heap.size)) ∧ w'.heap[w.heap.size]? = some (.cells (fltC n k m) 57 (0, 0)) ∧ Grown w w' := by
  go_enter Tryd.func13, Tryd.ntmps13
  go_wp2
  go_ret
  exact ⟨rfl, heap_new _ _, (Grown.refl _).alloc _ _⟩
theorem reserve_no (h : Bf w M N f q r) (hf : q.length + r = N) : Calls Tryd.prog 11 #[ptr (M + 1)] w fun e w' => ∃ b, w.heap.size ≤ b ∧ e = .returned (.iface 55 (ptr b)) ∧ w'.heap[b]? = some (.cells (fltC 2 (q.length : Int) (r : Int)) 57 (0, 0)) ∧ Grown w w' := by
  obtain ⟨c0, c1, c2, c3, c4⟩ := h.raw.cells
  have hb := h.raw.lt
  have hle := h.le
  have hmo := h.most
  have lc := fun (W : World) (g : Grown w W) => len_b (h.grown g)
  have hz : ((q.length : Int) + (r : Int) == (N : Int)) = true := by simp; omega
  obtain ⟨k, hk⟩ : ∃ k, Hid (k = q.length) := ⟨_, rfl⟩
  rw [← hk.out] at lc hz hf hle ⊢
  clear h
  unfold ptr at *
  go_enter Tryd.func11, Tryd.ntmps11
  go_wp2
  go_quiet (first | (go_at_call 20; exact Calls.quiet_of_same (lc _ (grownDrewN (Grown.refl _) _))))
  go_wp2
  refine region_fill [1, 6, 7] [(15, .pointer (some ⟨M + 1, 0, none⟩)), (17, .pointer (some ⟨M + 1, 0, none⟩)), (18, .pointer (some ⟨M + 1, 0, none⟩)), (19, .pointer (some ⟨M + 1, 2, none⟩)), (20, .int .i64 (r : Int))] hmx (by kernel_rfl) (by kernel_rfl) ?_
  simp only [fills, Act.put, List.setIfInBounds_toArray, List.set_cons_zero, List.set_cons_succ]
  have gq : Grown w (w.drewN nq).drew := (grownDrewN (Grown.refl _) _).drew
  refine flow_ent (some 16) 20 #[.pointer (some ⟨M + 1, 0, none⟩)] _ rfl rfl ?run (by go_simp) ((lc _ gq).mono ?_)
  case run =>
    clear lc gq
    intro i o ho hi
    iterate 8 (rcases i with _ | i; · first | (exact absurd hi (by decide)) | (cases ho; go_simp))
    cases ho
  rintro e w1 ⟨rfl, rfl⟩
  refine ⟨_, rfl, ?_⟩
  simp only [Act.put, List.setIfInBounds_toArray, List.set_cons_zero, List.set_cons_succ]
  refine flow_ent (some 21) 13 #[.int .i64 2, .int .i64 (k : Int), .int .i64 (r : Int)] _ rfl rfl ?run (by go_simp) ((wrap_b 2 (k : Int) (r : Int) _ (by decide)).mono ?_)
  case run =>
    clear lc gq
    intro i o ho hi
    iterate 8 (rcases i with _ | i; · first | (exact absurd hi (by decide)) | (cases ho; go_simp))
    cases ho
  rintro e w2 ⟨rfl, hv, g2⟩
  obtain ⟨B, hB⟩ : ∃ B, B = (w.drewN nq).drew.heap.size := ⟨_, rfl⟩
  rw [← hB] at hv ⊢
  have hv : Hid (w.heap.size ≤ B ∧ w2.heap[B]? = some (.cells (fltC 2 (k : Int) (r : Int)) 57 (0, 0))) := ⟨by rw [hB]; exact gq.2.2, hv⟩
  clear hB
  refine ⟨_, rfl, ?_⟩
  simp only [Act.put, List.setIfInBounds_toArray, List.set_cons_zero, List.set_cons_succ]
  have g3 : Hid (Grown w w2) := grownTrans gq g2
  have d2 : w2.cell? ⟨M + 1, 2, none⟩ = some (.int .i64 (r : Int)) := by rw [← c2]; simp only [World.cell?, grown_block g3.out hb]
  have lb2 := cell_lt d2
  clear lc gq g2
  refine flow_val (some 2) (.iface 55 (ptr B)) w2 _ rfl rfl ?run (by go_simp) ?_
  case run =>
    intro i o ho hi
    iterate 8 (rcases i with _ | i; · first | (exact absurd hi (by decide)) | (cases ho; go_simp))
    cases ho
  show Exit.then _ _ Exit.normal _ _
  simp only [Act.put, List.setIfInBounds_toArray, List.set_cons_zero, List.set_cons_succ]
  go_wp2
  go_ret
  exact ⟨B, hv.out.1, rfl, hv.out.2, g3.out⟩
theorem reserve_yes (h : Bf w M N f q r) (hf : q.length + r < N) : Calls Tryd.prog 11 #[ptr (M + 1)] w fun e w' => e = .returned .nilIface ∧ Bf w' M N f q (r + 1) ∧ Out (bfF M) w w' := by
  obtain ⟨c0, c1, c2, c3, c4⟩ := h.raw.cells
  have f2 := h.raw.free 2
  have hb := h.raw.lt
  have hle := h.le
  have hmo := h.most
  have lc := fun (W : World) (g : Grown w W) => len_b (h.grown g)
  have hz : ((q.length : Int) + (r : Int) == (N : Int)) = false := by simp; omega
  have H : Hid (Bf w M N f q r) := h
  obtain ⟨k, hk⟩ : ∃ k, Hid (k = q.length) := ⟨_, rfl⟩
  rw [← hk.out] at lc hz hf hle
  clear h
  unfold ptr at *
  go_enter Tryd.func11, Tryd.ntmps11
  go_wp2
  go_quiet (first | (go_at_call 20; exact Calls.quiet_of_same (lc _ (grownDrewN (Grown.refl _) _))))
  go_wp2
  go_ret
  have K := (H.out.raw.grown (grownDrewN (Grown.refl _) nq)).setR ((r : Int) + 1)
  exact ⟨rfl, ⟨K, by rw [← hk.out]; omega, hmo⟩, Bw.outW ((Out.refl _ _).drewN _) _ _⟩
end Go.Proofs.YtigmjgmkeoineaaDoor.Wb
