/-
  Lists and slices of numbers beside them, all in new memory; Row and Ints among them; what is pushed and unlinked, and what is moved round. No condition but those told at each sentence.
-/
import Derived.Test.YtecnlciogcanmaaDqRow
import Derived.Test.YtecnlciogcanmaaGenObj
namespace Go.Proofs.Ytecnlciogcanmaa
open Go.RowKit Go.Deep

/-- A slice of numbers: where it lies, how many, its room, the numbers of that row. -/
def ids (p : Option Addr) (n c : Nat) (D : List (Int × Int)) : Vd := ⟨3, 1, p, n, c, idsC D⟩
/-- Lists, and slices apart from them, all made since W; of what W held nothing has turned. -/
def Dqs (W w : World) (X : Nat) (t : Ds) (vs : List Vd) : Prop :=
  ∃ F, Dq w X F t ∧ (∀ V ∈ vs, V.On w ∧ ∀ k, In V.p k → ¬ F k ∧ W.heap.size ≤ k) ∧ Grown W w ∧ ∀ k, F k → W.heap.size ≤ k
variable {W w w' : World} {X : Nat} {t t' : Ds} {vs : List Vd}
namespace Dqs
theorem wf (h : Dqs W w X t vs) : t.Wf := by obtain ⟨F, h, _⟩ := h; exact h.wf
theorem old (h : Dqs W w X t vs) : Grown W w := by obtain ⟨F, _, _, h, _⟩ := h; exact h
theorem on (h : Dqs W w X t vs) {V : Vd} (hV : V ∈ vs) : V.On w := by obtain ⟨F, _, h, _⟩ := h; exact (h V hV).1
theorem less (h : Dqs W w X t vs) {us : List Vd} (hs : ∀ V ∈ us, V ∈ vs) : Dqs W w X t us := by
  obtain ⟨F, h1, h2, h3⟩ := h
  exact ⟨F, h1, fun V hV => h2 V (hs V hV), h3⟩
theorem grown (h : Dqs W w X t vs) (g : Grown w w') : Dqs W w' X t vs := by
  obtain ⟨F, h1, h2, h3, h4⟩ := h
  exact ⟨F, h1.grown g, fun V hV => ⟨Vec.grown (h2 V hV).1 g, (h2 V hV).2⟩, grownTrans h3 g, h4⟩
theorem drewN (h : Dqs W w X t vs) (d : Nat) : Dqs W (w.drewN d) X t vs := h.grown (grownDrewN (Grown.refl _) d)
theorem step (h : Dqs W w X t vs) {F F' : Nat → Prop} (h2 : ∀ V ∈ vs, V.On w ∧ ∀ k, In V.p k → ¬ F k ∧ W.heap.size ≤ k) (h4 : ∀ k, F k → W.heap.size ≤ k) (h7 : Dq w' X F' t') (h8 : Step F F' w w') : Dqs W w' X t' vs :=
  ⟨F', h7, fun V hV => ⟨Vec.out (h2 V hV).1 h8.out fun k hk => ((h2 V hV).2 k hk).1, fun k hk => ⟨h8.apart (G := In V.p) (fun _ hk => Vec.lt (h2 V hV).1 hk) (fun k hk => ((h2 V hV).2 k hk).1) k hk, ((h2 V hV).2 k hk).2⟩⟩, (h8.keeps h.old h4).1, (h8.keeps h.old h4).2⟩
/-- A new slice beside the others. -/
theorem add (h : Dqs W w X t vs) {V : Vd} (g : Grown w w') (hV : V.On w') (hn : ∀ k, In V.p k → w.heap.size ≤ k) : Dqs W w' X t (V :: vs) := by
  have h' := h.grown g
  obtain ⟨F, h1, h2, h3, h4⟩ := h
  refine ⟨F, h1.grown g, fun U hU => ?_, grownTrans h3 g, h4⟩
  rcases List.mem_cons.1 hU with rfl | hU
  · exact ⟨hV, fun k hk => ⟨fun hf => by have := h1.lt hf; have := hn k hk; omega, Nat.le_trans h3.2.2 (hn k hk)⟩⟩
  · exact ⟨Vec.grown (h2 U hU).1 g, (h2 U hU).2⟩
theorem nth (h : Dqs W w X t vs) {p : Option Addr} {n c : Nat} {D : List (Int × Int)} (hV : ids p n c D ∈ vs) (hn : 0 < n) : ∃ B, p = some ⟨B, 0, none⟩ ∧ B < w.heap.size ∧ (∀ j, j < n → w.cell? ⟨B, j, none⟩ = some (idsC D j)) ∧ n ≤ c := by
  have hv : Vec w 3 1 p n c (idsC D) := h.on hV
  obtain ⟨B, h1, h2, h3, _, h4⟩ := hv.opens hn
  exact ⟨B, h1, h2, fun j hj => h3 j (by omega), h4⟩
end Dqs
theorem new_s (lists : Int) (W w : World) (g : Grown W w) : Calls Try.prog 9 #[.int .i64 lists] w fun e w' => ∃ X, e = .returned (ptr X) ∧ Dqs W w' X (Ds.zero (rowsI lists)) [] := by
  refine (new_a lists w).mono ?_
  rintro e w' ⟨X, F, rfl, h, g', b⟩
  exact ⟨X, rfl, F, h, fun V hV => absurd hV List.not_mem_nil, grownTrans g g', fun k hk => Nat.le_trans g.2.2 (b k hk)⟩
theorem lift_gs {P : Program} {fn : FuncId} {args : Array Value} {v : Value} (h : Dqs W w X t vs) (hc : ∀ F, Dq w X F t → Calls P fn args w fun e w' => e = .returned v ∧ Grown w w') : Calls P fn args w fun e w' => e = .returned v ∧ Dqs W w' X t vs := by
  have h' := h
  obtain ⟨F, h, _⟩ := h
  exact (hc F h).mono fun e w' ⟨a, b⟩ => ⟨a, h'.grown b⟩
theorem lift_ss {P : Program} {fn : FuncId} {args : Array Value} {v : Value} (h : Dqs W w X t vs) (hc : ∀ F, Dq w X F t → Calls P fn args w fun e w' => e = .returned v ∧ ∃ F', Dq w' X F' t' ∧ Step F F' w w') : Calls P fn args w fun e w' => e = .returned v ∧ Dqs W w' X t' vs := by
  have h' := h
  obtain ⟨F, h1, h2, h3, h4⟩ := h
  refine (hc F h1).mono ?_
  rintro e w' ⟨rfl, F', h7, h8⟩
  exact ⟨rfl, h'.step h2 h4 h7 h8⟩
theorem front_s (h : Dqs W w X t vs) (l : Int) : Calls Try.prog 26 #[ptr X, .int .i64 l] w fun e w' => e = .returned (.int .i64 (((t.rowI l).map (·.1)).headD 0)) ∧ Dqs W w' X t vs := lift_gs h fun _ h => front_a h l
theorem back_s (h : Dqs W w X t vs) (l : Int) : Calls Try.prog 25 #[ptr X, .int .i64 l] w fun e w' => e = .returned (.int .i64 (((t.rowI l).map (·.1)).getLastD 0)) ∧ Dqs W w' X t vs := lift_gs h fun _ h => back_a h l
theorem weight_s (h : Dqs W w X t vs) (l : Int) : Calls Try.prog 24 #[ptr X, .int .i64 l] w fun e w' => e = .returned (.int .i64 (sumI ((t.rowI l).map (·.2)))) ∧ Dqs W w' X t vs := lift_gs h fun _ h => weight_a h l
theorem len_s (h : Dqs W w X t vs) (l : Int) : Calls Try.prog 23 #[ptr X, .int .i64 l] w fun e w' => e = .returned (.int .i64 ((t.rowI l).length : Int)) ∧ Dqs W w' X t vs := lift_gs h fun _ h => len_a h l
theorem of_s (h : Dqs W w X t vs) {id : Int} (hid : (Lit.int .i64 id).wf = true) : Calls Try.prog 19 #[ptr X, .int .i64 id] w fun e w' => e = .returned (.tuple #[.int .i64 (t.ofL id), .int .i64 (t.ofW id)]) ∧ Dqs W w' X t vs :=
  lift_gs h fun _ h => (of_a h hid).mono fun _ _ ⟨a, d, b⟩ => ⟨a, by rw [b]; exact grownDrewN (Grown.refl _) d⟩
theorem push_s (h : Dqs W w X t vs) (l id wt : Int) : Calls Try.prog 11 #[ptr X, .int .i64 l, .int .i64 id, .int .i64 wt] w fun e w' => e = .returned (.int .i64 (t.pushE l id wt)) ∧ Dqs W w' X (t.pushI l id wt) vs := lift_ss h fun _ h => push_a h l id wt
theorem unlink_s (h : Dqs W w X t vs) {id : Int} (hid : (Lit.int .i64 id).wf = true) : Calls Try.prog 13 #[ptr X, .int .i64 id] w fun e w' => e = .returned (.int .i64 (t.unlinkE id)) ∧ Dqs W w' X (t.unlinkI id) vs := lift_ss h fun _ h => unlink_a h hid
theorem move_s (h : Dqs W w X t vs) {id : Int} (l : Int) (hid : (Lit.int .i64 id).wf = true) : Calls Try.prog 15 #[ptr X, .int .i64 id, .int .i64 l] w fun e w' => e = .returned (.int .i64 (t.moveE id l)) ∧ Dqs W w' X (t.moveI id l) vs := lift_ss h fun _ h => move_a h l hid
theorem reweigh_s (h : Dqs W w X t vs) {id : Int} (wt : Int) (hid : (Lit.int .i64 id).wf = true) : Calls Try.prog 17 #[ptr X, .int .i64 id, .int .i64 wt] w fun e w' => e = .returned (.int .i64 (t.reweighE id wt)) ∧ Dqs W w' X (t.reweighI id wt) vs := lift_ss h fun _ h => reweigh_a h wt hid
theorem row_s (h : Dqs W w X t vs) (l M : Int) (hM : 1 ≤ M) (hL : (t.rowI l).length ≤ M.toNat) : Calls Try.prog 22 #[ptr X, .int .i64 l, .int .i64 M] w fun e w' => ∃ p c, e = .returned (.slice p (t.rowI l).length c) ∧ Dqs W w' X t (ids p (t.rowI l).length c (t.rowI l) :: vs) := by
  have h' := h
  obtain ⟨F, h, _⟩ := h
  refine (row_tells h l M hM).mono ?_
  rintro e w' ⟨p, c, k, rfl, hk, hv, hg, hn⟩
  have : k = (t.rowI l).length := by omega
  subst this
  exact ⟨p, c, rfl, h'.add (V := ids p (t.rowI l).length c (t.rowI l)) hg hv hn⟩

/-- Two slices that hold the same numbers. -/
theorem ints_vec {p q : Option Addr} {n c d : Nat} {D : List (Int × Int)} (hp : Vec w 3 1 p n c (idsC D)) (hq : Vec w 3 1 q n d (idsC D)) (hn : n ≤ 65536) :
    Calls Try.prog 27 #[.slice p n c, .slice q n d] w fun e w' => e = .returned (.bool true) ∧ ∃ m, w' = w.drewN m := by
  have hx : ((n : Int) != (n : Int)) = false := by simp
  go_enter Try.func27, Try.ntmps27
  go_wp2
  go_loopw [5] (fun i wr => ∃ k d : Nat, k ≤ n ∧ i = .int .i64 k ∧ wr = w.drewN d) (fun i _ => n - (intOf i).toNat)
  case atStart => exact ⟨0, 0, by omega, rfl, rfl⟩
  case round =>
    obtain ⟨k, m, hk, rfl, rfl⟩ := hrel
    by_cases hlt : k < n
    · obtain ⟨A, rfl, lA, hA, _, nA⟩ := hp.opens (by omega)
      obtain ⟨B, rfl, lB, hB, _, nB⟩ := hq.opens (by omega)
      have c1 : w.cell? ⟨A, k, none⟩ = some (.int .i64 ((D.map (·.1)).getD k 0)) := hA k (by omega)
      have c2 : w.cell? ⟨B, k, none⟩ = some (.int .i64 ((D.map (·.1)).getD k 0)) := hB k (by omega)
      obtain ⟨z, hz⟩ : ∃ z, z = (D.map (·.1)).getD k 0 := ⟨_, rfl⟩
      rw [← hz] at c1 c2
      have hd : decide ((k : Int) < (n : Int)) = true := by rw [decide_eq_true_eq]; omega
      have hzz : (z != z) = false := by simp
      clear hp hq hA hB hz
      go_wp2
      go_quiet (fail)
      go_wp2
      go_roundw
      case rel => exact ⟨k + 1, _, by omega, by go_num, rfl⟩
      case measure => simp [intOf]; omega
    · obtain rfl : k = n := by omega
      have hd : decide ((k : Int) < (k : Int)) = false := by rw [decide_eq_false_iff_not]; omega
      go_wp2
      go_ret
      exact ⟨rfl, _, rfl⟩
theorem ints_s (h : Dqs W w X t vs) {p q : Option Addr} {n c d : Nat} {D : List (Int × Int)} (hp : ids p n c D ∈ vs) (hq : ids q n d D ∈ vs) (hn : n ≤ 65536) :
    Calls Try.prog 27 #[.slice p n c, .slice q n d] w fun e w' => e = .returned (.bool true) ∧ Dqs W w' X t vs :=
  (ints_vec (D := D) (show Vec w 3 1 p n c (idsC D) from h.on hp) (show Vec w 3 1 q n d (idsC D) from h.on hq) hn).mono fun _ _ ⟨a, m, b⟩ => ⟨a, by rw [b]; exact h.drewN m⟩

namespace Ds
theorem push_unlink (hw : t.Wf) {l : Nat} {id wt : Int} (hf : t.find id = none) : (t.push l id wt).unlink id = t := by
  have hn : ∀ i w, (id, w) ∉ t.L i := fun i w h => by
    rw [hw.find_of h] at hf; cases hf
  refine Gh.st_ext rfl fun i => ?_
  rw [unlink_row, push_row]
  split
  · rw [List.filter_append, filter_not (hn i)]; simp
  · exact filter_not (hn i)
/-- Who pushes has the last, and its weight; who unlinks it has what was, once. -/
theorem Wf.undo (hw : t.Wf) {l : Nat} {id wt : Int} (h : t.pushE l id wt = 0) (hw' : (t.pushI l id wt).Wf) : (((t.pushI l id wt).rowI l).map (·.1)).getLastD 0 = id ∧ sumI (((t.pushI l id wt).rowI l).map (·.2)) = sumI ((t.rowI l).map (·.2)) + wt ∧ (t.pushI l id wt).unlinkE id = 0 ∧ (t.pushI l id wt).unlinkI id = t ∧ t.unlinkE id = 3 ∧ t.unlinkI id = t := by
  obtain ⟨h1, h2, h3, h4⟩ := pushE_zero h
  have e := pushI_zero h
  rw [show (l : Int).toNat = l by omega] at e
  have er : (t.pushI l id wt).rowI l = t.rowI l ++ [(id, wt)] := by
    unfold rowI
    rw [if_pos (by omega), if_pos (by omega), e, push_row, show (l : Int).toNat = l by omega, if_pos rfl]
  have hf : (t.pushI l id wt).find id = some (l, wt) := hw'.find_of (by rw [e, push_row, if_pos rfl]; simp)
  have f1 : ((t.pushI l id wt).find id).isSome = true := by rw [hf]; rfl
  have f2 : (t.find id).isSome = false := by rw [h4]; rfl
  refine ⟨by rw [er, List.map_append, List.getLastD_eq_getLast?]; simp, by rw [er, List.map_append, sumI_append]; simp [sumI], by unfold unlinkE; rw [if_pos f1], ?_, by unfold unlinkE; rw [f2]; rfl, by unfold unlinkI; rw [f2]; rfl⟩
  unfold unlinkI
  rw [if_pos f1, e]
  exact push_unlink hw h4
/-- Who moves the first of a row to its end turns it. -/
theorem Wf.turn (hw : t.Wf) {i : Nat} {id w : Int} {r : List (Int × Int)} (h : t.L i = (id, w) :: r) : t.moveE id i = 0 ∧ (t.moveI id i).L i = r ++ [(id, w)] ∧ (∀ j, j ≠ i → (t.moveI id i).L j = t.L j) ∧ (t.moveI id i).n = t.n := by
  have hm : (id, w) ∈ t.L i := by rw [h]; simp
  have hf := hw.find_of hm
  have hi := hw.lt hm
  have hh : t.has (i : Int) = true := decide_eq_true ⟨by omega, by omega⟩
  have e0 : t.moveE id i = 0 := by unfold moveE; rw [hf, hh]; rfl
  have e1 := moveI_zero e0 hf
  rw [show (i : Int).toNat = i by omega] at e1
  have hd := hw.dup i
  rw [h] at hd
  refine ⟨e0, ?_, fun j hj => ?_, by rw [e1]; rfl⟩
  · rw [e1, push_row, if_pos rfl, unlink_row, h, filter_head hd]
  · rw [e1, push_row, if_neg hj, unlink_row]
    exact filter_not fun v hv => hj (hw.uniq j i (id, v) (id, w) hv hm rfl).1
end Ds
end Go.Proofs.Ytecnlciogcanmaa
