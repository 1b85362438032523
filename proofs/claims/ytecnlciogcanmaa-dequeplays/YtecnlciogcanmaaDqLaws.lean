/-
  The small case; lists and a slice of numbers beside them, all in new memory: what each call leaves of both. No condition but those told at each sentence.
-/
import Derived.Test.YtecnlciogcanmaaDqAbs
namespace Go.Proofs.Ytecnlciogcanmaa
open Go.RowKit Go.Deep

theorem infoInt : (Try.prog.info? 3).map (fun i => (i.zero, i.size, i.bytes)) = some (some (.int .i64 0), 1, 8) := by kernel_rfl
/-! ### The small case -/
def s1 : Ds := (Ds.zero 2).pushI 0 5 3
def s2 : Ds := s1.pushI 0 6 4
def s3 : Ds := s2.pushI 1 5 1
def s4 : Ds := s3.moveI 5 0
theorem wfLit {id : Int} (h1 : -9223372036854775808 ≤ id) (h2 : id ≤ 9223372036854775807) : (Lit.int .i64 id).wf = true := by
  simp only [Lit.wf, Bool.and_eq_true, decide_eq_true_eq]
  exact ⟨h1, h2⟩
set_option maxHeartbeats 2000000 in
theorem dSmall_any (w : World) : Calls Try.prog 8 #[] w fun e w' => e = .returned (.bool true) ∧ Grown w w' := by
  have nw := new_a 2 w
  have p0 : ∀ W X F, Dq W X F (Ds.zero (rowsI 2)) → Calls Try.prog 11 #[ptr X, .int .i64 0, .int .i64 5, .int .i64 3] W fun e w' => e = .returned (.int .i64 0) ∧ ∃ F', Dq w' X F' s1 ∧ Step F F' W w' := fun W X F h => push_a h _ _ _
  have p1 : ∀ W X F, Dq W X F s1 → Calls Try.prog 11 #[ptr X, .int .i64 0, .int .i64 6, .int .i64 4] W fun e w' => e = .returned (.int .i64 0) ∧ ∃ F', Dq w' X F' s2 ∧ Step F F' W w' := fun W X F h => push_a h _ _ _
  have p2 : ∀ W X F, Dq W X F s2 → Calls Try.prog 11 #[ptr X, .int .i64 1, .int .i64 5, .int .i64 1] W fun e w' => e = .returned (.int .i64 5) ∧ ∃ F', Dq w' X F' s3 ∧ Step F F' W w' := fun W X F h => push_a h _ _ _
  have p3 : ∀ W X F, Dq W X F s3 → Calls Try.prog 15 #[ptr X, .int .i64 5, .int .i64 0] W fun e w' => e = .returned (.int .i64 0) ∧ ∃ F', Dq w' X F' s4 ∧ Step F F' W w' := fun W X F h => move_a h 0 (wf_small ⟨by decide, by decide⟩)
  have p4 : ∀ W X F, Dq W X F s4 → Calls Try.prog 19 #[ptr X, .int .i64 5] W fun e w' => e = .returned (.tuple #[.int .i64 0, .int .i64 3]) ∧ ∃ d, w' = W.drewN d := fun W X F h => of_a h (wf_small ⟨by decide, by decide⟩)
  have p5 : ∀ W X F, Dq W X F s4 → Calls Try.prog 26 #[ptr X, .int .i64 0] W fun e w' => e = .returned (.int .i64 6) ∧ Grown W w' := fun W X F h => front_a h _
  have p6 : ∀ W X F, Dq W X F s4 → Calls Try.prog 25 #[ptr X, .int .i64 0] W fun e w' => e = .returned (.int .i64 5) ∧ Grown W w' := fun W X F h => back_a h _
  have p7 : ∀ W X F, Dq W X F s4 → Calls Try.prog 24 #[ptr X, .int .i64 0] W fun e w' => e = .returned (.int .i64 7) ∧ Grown W w' := fun W X F h => weight_a h _
  have p8 : ∀ W X F, Dq W X F s4 → Calls Try.prog 23 #[ptr X, .int .i64 0] W fun e w' => e = .returned (.int .i64 2) ∧ Grown W w' := fun W X F h => len_a h _
  have p9 : ∀ W X F, Dq W X F s4 → Calls Try.prog 26 #[ptr X, .int .i64 1] W fun e w' => e = .returned (.int .i64 0) ∧ Grown W w' := fun W X F h => front_a h _
  have p10 : ∀ W X F, Dq W X F s4 → Calls Try.prog 13 #[ptr X, .int .i64 9] W fun e w' => e = .returned (.int .i64 3) ∧ ∃ F', Dq w' X F' (s4.unlinkI 9) ∧ Step F F' W w' := fun W X F h => unlink_a h (wf_small ⟨by decide, by decide⟩)
  have T0 : Hid True := trivial
  have T1 : Hid True := trivial
  have T2 : Hid True := trivial
  have T5 : Hid True := trivial
  unfold ptr at *
  go_enter Try.func8, Try.ntmps8
  go_wp2_with (first | (go_at_call 9; refine nw.mono ?_; rintro e w0 ⟨X, F, rfl, h0, g0, b0⟩) | (go_at_call 11; clear T0; refine (p0 _ _ _ h0).mono ?_; rintro e w1 ⟨rfl, F1, h1, S1⟩) | (go_at_call 11; clear T1; refine (p1 _ _ _ h1).mono ?_; rintro e w2 ⟨rfl, F2, h2, S2⟩) | (go_at_call 11; clear T2; refine (p2 _ _ _ h2).mono ?_; rintro e w3 ⟨rfl, F3, h3, S3⟩) | (go_at_call 15; refine (p3 _ _ _ h3).mono ?_; rintro e w4 ⟨rfl, F4, h4, S4⟩) | (go_at_call 19; refine (p4 _ _ _ h4).mono ?_; rintro e w5 ⟨rfl, d5, hw5⟩; have h5 : Dq w5 X F4 s4 := (by rw [hw5]; exact h4.drewN d5); have g5 : Grown w4 w5 := (by rw [hw5]; exact grownDrewN (Grown.refl _) d5); clear hw5) | (go_at_call 26; clear T5; refine (p5 _ _ _ h5).mono ?_; rintro e w6 ⟨rfl, g6⟩) | (go_at_call 25; refine (p6 _ _ _ (h5.grown g6)).mono ?_; rintro e w7 ⟨rfl, g7⟩) | (go_at_call 24; refine (p7 _ _ _ ((h5.grown g6).grown g7)).mono ?_; rintro e w8 ⟨rfl, g8⟩) | (go_at_call 23; refine (p8 _ _ _ (((h5.grown g6).grown g7).grown g8)).mono ?_; rintro e w9 ⟨rfl, g9⟩) | (go_at_call 26; refine (p9 _ _ _ ((((h5.grown g6).grown g7).grown g8).grown g9)).mono ?_; rintro e w10 ⟨rfl, g10⟩) | (go_at_call 13; refine (p10 _ _ _ (((((h5.grown g6).grown g7).grown g8).grown g9).grown g10)).mono ?_; rintro e w11 ⟨rfl, F11, h11, S11⟩))
  go_ret
  exact ⟨rfl, ((S1.trans (S2.trans (S3.trans (S4.trans ((Step.grown F4 (grownTrans g5 (grownTrans g6 (grownTrans g7 (grownTrans g8 (grownTrans g9 g10)))))).trans S11))))).keeps g0 b0).1⟩

/-- Lists, and a slice of numbers apart from them, both made since W; of what W held nothing has turned. -/
def Dqi (W w : World) (X : Nat) (t : Ds) (p : Option Addr) (n c : Nat) (f : Nat → Value) : Prop :=
  ∃ F, Dq w X F t ∧ Vec w 3 1 p n c f ∧ (∀ k, In p k → ¬ F k) ∧ Grown W w ∧ (∀ k, F k → W.heap.size ≤ k) ∧ (∀ k, In p k → W.heap.size ≤ k)
variable {W w w' : World} {X : Nat} {t t' : Ds} {p : Option Addr} {n c : Nat} {f : Nat → Value}
namespace Dqi
theorem wf (h : Dqi W w X t p n c f) : t.Wf := by obtain ⟨F, h, _⟩ := h; exact h.wf
theorem old (h : Dqi W w X t p n c f) : Grown W w := by obtain ⟨F, _, _, _, h, _⟩ := h; exact h
theorem vec (h : Dqi W w X t p n c f) : Vec w 3 1 p n c f := by obtain ⟨F, _, h, _⟩ := h; exact h
theorem grown (h : Dqi W w X t p n c f) (g : Grown w w') : Dqi W w' X t p n c f := by
  obtain ⟨F, h1, h2, h3, h4, h5, h6⟩ := h
  exact ⟨F, h1.grown g, h2.grown g, h3, grownTrans h4 g, h5, h6⟩
theorem drewN (h : Dqi W w X t p n c f) (d : Nat) : Dqi W (w.drewN d) X t p n c f := h.grown (grownDrewN (Grown.refl _) d)
theorem step (h : Dqi W w X t p n c f) (hs : ∀ F, Dq w X F t → ∃ F', Dq w' X F' t' ∧ Step F F' w w') : Dqi W w' X t' p n c f := by
  obtain ⟨F, h1, h2, h3, h4, h5, h6⟩ := h
  obtain ⟨F', h7, h8⟩ := hs F h1
  exact ⟨F', h7, h2.out h8.out h3, h8.apart (fun k hk => h2.lt hk) h3, (h8.keeps h4 h5).1, (h8.keeps h4 h5).2, h6⟩
/-- Another slice in the place of the one. -/
theorem vecs {p' : Option Addr} {n' c' : Nat} {f' : Nat → Value} (h : Dqi W w X t p n c f) (hv : Vec w' 3 1 p' n' c' f') (o : Out (In p) w w') (hp : p' = p ∨ ∃ k, p' = some ⟨k, 0, none⟩ ∧ w.heap.size ≤ k) : Dqi W w' X t p' n' c' f' := by
  obtain ⟨F, h1, h2, h3, h4, h5, h6⟩ := h
  refine ⟨F, h1.out o (fun k hk hi => h3 k hi hk), hv, fun k hk hf => ?_, o.grown h4 h6, h5, fun k hk => ?_⟩
  · rcases hp with rfl | ⟨k', rfl, hk'⟩
    · exact h3 k hk hf
    · have := hk.eq; have := h1.lt hf; omega
  · rcases hp with rfl | ⟨k', rfl, hk'⟩
    · exact h6 k hk
    · have := hk.eq; have := h4.2.2; omega
theorem congr {g : Nat → Value} (h : Dqi W w X t p n c f) (hg : ∀ j, j < n → f j = g j) : Dqi W w X t p n c g := by
  obtain ⟨F, h1, h2, h3⟩ := h
  exact ⟨F, h1, h2.congr (fun j hj => hg j (by omega)), h3⟩
/-- append. -/
theorem append {w2 : World} {tmp : Array Value} {y : TypeId} {p' : Option Addr} {n' c' : Nat} {f' : Nat → Value} (h : Dqi W w X t p n c f) (hv : Vec w2 3 1 p' n' c' f') (o : Out (In p) (w.alloc (.cells tmp y)) w2) (hp : p' = p ∨ p' = some ⟨(w.alloc (.cells tmp y)).heap.size, 0, none⟩) : Dqi W w2 X t p' n' c' f' :=
  (h.grown ((Grown.refl _).alloc tmp y)).vecs hv o (hp.imp_right fun e => ⟨_, e, Nat.le_refl _⟩)
/-- The slice's own block. -/
theorem nth (h : Dqi W w X t p n c f) (hn : 0 < n) : ∃ B, p = some ⟨B, 0, none⟩ ∧ B < w.heap.size ∧ (∀ j, j < n → w.cell? ⟨B, j, none⟩ = some (f j)) ∧ n ≤ c := by
  obtain ⟨B, h1, h2, h3, _, h4⟩ := h.vec.opens hn
  exact ⟨B, h1, h2, fun j hj => h3 j (by omega), h4⟩
end Dqi
theorem new_i (lists : Int) (W w : World) (g : Grown W w) : Calls Try.prog 9 #[.int .i64 lists] w fun e w' => ∃ X, e = .returned (ptr X) ∧ Dqi W w' X (Ds.zero (rowsI lists)) none 0 0 (fun _ => .int .i64 0) := by
  refine (new_a lists w).mono ?_
  rintro e w' ⟨X, F, rfl, h, g', b⟩
  exact ⟨X, rfl, F, h, Vec.nil _ _ _ _, fun k hk => absurd hk In.no, grownTrans g g', fun k hk => Nat.le_trans g.2.2 (b k hk), fun k hk => absurd hk In.no⟩
theorem lift_g {P : Program} {fn : FuncId} {args : Array Value} {v : Value} (h : Dqi W w X t p n c f) (hc : ∀ F, Dq w X F t → Calls P fn args w fun e w' => e = .returned v ∧ Grown w w') : Calls P fn args w fun e w' => e = .returned v ∧ Dqi W w' X t p n c f := by
  have h' := h
  obtain ⟨F, h, _⟩ := h
  exact (hc F h).mono fun e w' ⟨a, b⟩ => ⟨a, h'.grown b⟩
theorem lift_s {P : Program} {fn : FuncId} {args : Array Value} {v : Value} (h : Dqi W w X t p n c f) (hc : ∀ F, Dq w X F t → Calls P fn args w fun e w' => e = .returned v ∧ ∃ F', Dq w' X F' t' ∧ Step F F' w w') : Calls P fn args w fun e w' => e = .returned v ∧ Dqi W w' X t' p n c f := by
  obtain ⟨F, h1, h2, h3, h4, h5, h6⟩ := h
  refine (hc F h1).mono ?_
  rintro e w' ⟨rfl, F', h7, h8⟩
  exact ⟨rfl, F', h7, h2.out h8.out h3, h8.apart (fun k hk => h2.lt hk) h3, (h8.keeps h4 h5).1, (h8.keeps h4 h5).2, h6⟩
theorem front_i (h : Dqi W w X t p n c f) (l : Int) : Calls Try.prog 26 #[ptr X, .int .i64 l] w fun e w' => e = .returned (.int .i64 (((t.rowI l).map (·.1)).headD 0)) ∧ Dqi W w' X t p n c f := lift_g h fun _ h => front_a h l
theorem back_i (h : Dqi W w X t p n c f) (l : Int) : Calls Try.prog 25 #[ptr X, .int .i64 l] w fun e w' => e = .returned (.int .i64 (((t.rowI l).map (·.1)).getLastD 0)) ∧ Dqi W w' X t p n c f := lift_g h fun _ h => back_a h l
theorem weight_i (h : Dqi W w X t p n c f) (l : Int) : Calls Try.prog 24 #[ptr X, .int .i64 l] w fun e w' => e = .returned (.int .i64 (sumI ((t.rowI l).map (·.2)))) ∧ Dqi W w' X t p n c f := lift_g h fun _ h => weight_a h l
theorem len_i (h : Dqi W w X t p n c f) (l : Int) : Calls Try.prog 23 #[ptr X, .int .i64 l] w fun e w' => e = .returned (.int .i64 ((t.rowI l).length : Int)) ∧ Dqi W w' X t p n c f := lift_g h fun _ h => len_a h l
theorem of_i (h : Dqi W w X t p n c f) {id : Int} (hid : (Lit.int .i64 id).wf = true) : Calls Try.prog 19 #[ptr X, .int .i64 id] w fun e w' => e = .returned (.tuple #[.int .i64 (t.ofL id), .int .i64 (t.ofW id)]) ∧ Dqi W w' X t p n c f :=
  lift_g h fun _ h => (of_a h hid).mono fun _ _ ⟨a, d, b⟩ => ⟨a, by rw [b]; exact grownDrewN (Grown.refl _) d⟩
theorem push_i (h : Dqi W w X t p n c f) (l id wt : Int) : Calls Try.prog 11 #[ptr X, .int .i64 l, .int .i64 id, .int .i64 wt] w fun e w' => e = .returned (.int .i64 (t.pushE l id wt)) ∧ Dqi W w' X (t.pushI l id wt) p n c f := lift_s h fun _ h => push_a h l id wt
theorem unlink_i (h : Dqi W w X t p n c f) {id : Int} (hid : (Lit.int .i64 id).wf = true) : Calls Try.prog 13 #[ptr X, .int .i64 id] w fun e w' => e = .returned (.int .i64 (t.unlinkE id)) ∧ Dqi W w' X (t.unlinkI id) p n c f := lift_s h fun _ h => unlink_a h hid
theorem move_i (h : Dqi W w X t p n c f) {id : Int} (l : Int) (hid : (Lit.int .i64 id).wf = true) : Calls Try.prog 15 #[ptr X, .int .i64 id, .int .i64 l] w fun e w' => e = .returned (.int .i64 (t.moveE id l)) ∧ Dqi W w' X (t.moveI id l) p n c f := lift_s h fun _ h => move_a h l hid
theorem reweigh_i (h : Dqi W w X t p n c f) {id : Int} (wt : Int) (hid : (Lit.int .i64 id).wf = true) : Calls Try.prog 17 #[ptr X, .int .i64 id, .int .i64 wt] w fun e w' => e = .returned (.int .i64 (t.reweighE id wt)) ∧ Dqi W w' X (t.reweighI id wt) p n c f := lift_s h fun _ h => reweigh_a h wt hid
end Go.Proofs.Ytecnlciogcanmaa
