/-
  The document's buffer: what the functions of package pantryref14 do when they are called. No condition but those told at each sentence.
-/
import Derived.Test.YtigmjgmkeoineaaDoorWbSep
namespace Go.Proofs.YtigmjgmkeoineaaDoor.Wb
open Go.RowKit Go.Deep Us

/-- An event's cells. -/
def Ev.c (e : Ev) (i : Nat) : Value := if i = 0 then .int .i64 e.d else if i = 1 then .int .i64 e.n else if i = 2 then .int .i64 e.k else .int .i64 e.x
def evL (q : List Ev) (j : Nat) : Value := (q.getD (j / 4) e0).c (j % 4)
theorem evL_at (q : List Ev) (i : Nat) : evL q (i * 4) = .int .i64 (q.getD i e0).d ∧ evL q (i * 4 + 1) = .int .i64 (q.getD i e0).n ∧ evL q (i * 4 + 2) = .int .i64 (q.getD i e0).k ∧ evL q (i * 4 + 3) = .int .i64 (q.getD i e0).x := by
  unfold evL Ev.c
  rw [show i * 4 / 4 = i by omega, show i * 4 % 4 = 0 by omega, show (i * 4 + 1) / 4 = i by omega, show (i * 4 + 1) % 4 = 1 by omega, show (i * 4 + 2) / 4 = i by omega, show (i * 4 + 2) % 4 = 2 by omega, show (i * 4 + 3) / 4 = i by omega, show (i * 4 + 3) % 4 = 3 by omega]
  exact ⟨rfl, rfl, rfl, rfl⟩
theorem evL_push (q : List Ev) (e : Ev) : ∀ j, j < (q.length + 1) * 4 → (if j < q.length * 4 then evL q j else e.c (j - q.length * 4)) = evL (q ++ [e]) j := fun j hj => by
  unfold evL
  by_cases h : j < q.length * 4
  · rw [if_pos h, List.getD_eq_getElem?_getD, List.getD_eq_getElem?_getD, List.getElem?_append_left (by omega)]
  · rw [if_neg h, show j / 4 = q.length by omega, show j - q.length * 4 = j % 4 by omega]
    simp
theorem evL_tail (q : List Ev) (j : Nat) : evL q.tail j = evL q (4 + j) := by
  unfold evL
  rw [show (4 + j) / 4 = j / 4 + 1 by omega, show (4 + j) % 4 = j % 4 by omega]
  simp [List.getD_eq_getElem?_getD]
theorem evc_one (e : Ev) (i : Nat) : (e.c i).oneCell' = true := by
  unfold Ev.c
  split
  · rfl
  · split
    · rfl
    · split <;> rfl
/-- The document's buffer at block A. -/
structure Rb (w : World) (A N : Nat) (p : Option Addr) (c : Nat) (q : List Ev) (r : Nat) : Prop where
  head : w.heap[A]? = some (.cells #[.int .i64 (N : Int), .slice p q.length c, .int .i64 (r : Int)] 36 (0, 0))
  vec : Vec w 30 4 p q.length c (evL q)
  self : ¬ In p A
def rbF (A : Nat) (p : Option Addr) (k : Nat) : Prop := k = A ∨ In p k
variable {w w' : World} {A N c r : Nat} {p : Option Addr} {q : List Ev}
namespace Rb
theorem foot_lt (h : Rb w A N p c q r) {k : Nat} (hk : rbF A p k) : k < w.heap.size := by
  rcases hk with rfl | hk
  · exact lt_of h.head
  · exact h.vec.lt hk
theorem out {F : Nat → Prop} (h : Rb w A N p c q r) (o : Out F w w') (hF : ∀ k, rbF A p k → ¬ F k) : Rb w' A N p c q r :=
  ⟨(o.block A (lt_of h.head) (hF A (.inl rfl))).trans h.head, h.vec.out o fun k hk => hF k (.inr hk), h.self⟩
theorem grown (h : Rb w A N p c q r) (g : Grown w w') : Rb w' A N p c q r := h.out (Out.of_grown g fun _ => False) fun _ _ => id
theorem cells (h : Rb w A N p c q r) : w.cell? ⟨A, 0, none⟩ = some (.int .i64 (N : Int)) ∧ w.cell? ⟨A, 1, none⟩ = some (.slice p q.length c) ∧ w.cell? ⟨A, 2, none⟩ = some (.int .i64 (r : Int)) := ⟨cell_of h.head rfl, cell_of h.head rfl, cell_of h.head rfl⟩
theorem free (h : Rb w A N p c q r) (i : Nat) : w.frozen? ⟨A, i, none⟩ = false := by simp [World.frozen?, h.head]
theorem setR (h : Rb w A N p c q r) (r' : Nat) : Rb (w.setCell ⟨A, 2, none⟩ (.int .i64 (r' : Int))) A N p c q r' :=
  ⟨blk_set h.head 2 _, h.vec.out ((Out.refl (fun x => x = A) w).setCell (a := ⟨A, 2, none⟩) rfl _) fun k hk e => h.self (by rw [← e]; exact hk), h.self⟩
/-- Another row, which lies in new blocks or where the elder lay. -/
theorem put {w2 : World} {p' : Option Addr} {c' : Nat} {q' : List Ev} (h : Rb w A N p c q r) (o : Out (fun k => In p k ∨ w.heap.size ≤ k) w w2) (hv : Vec w2 30 4 p' q'.length c' (evL q')) (hp : ∀ k, In p' k → In p k ∨ w.heap.size ≤ k) :
    Rb (w2.setCell ⟨A, 1, none⟩ (.slice p' q'.length c')) A N p' c' q' r ∧ Step (rbF A p) (rbF A p') w (w2.setCell ⟨A, 1, none⟩ (.slice p' q'.length c')) := by
  have hA := lt_of h.head
  have hnA : ¬ In p' A := fun x => by
    rcases hp A x with x | x
    · exact h.self x
    · omega
  have hh : w2.heap[A]? = _ := (o.block A hA fun x => by
    rcases x with x | x
    · exact h.self x
    · omega).trans h.head
  refine ⟨⟨blk_set hh 1 _, hv.out ((Out.refl (fun x => x = A) w2).setCell (a := ⟨A, 1, none⟩) rfl _) fun k hk e => hnA (by rw [← e]; exact hk), hnA⟩, ⟨(o.wide fun k hk x => ?_).setCell (a := ⟨A, 1, none⟩) (.inl rfl) _, fun k hk => ?_⟩⟩
  · rcases x with x | x
    · exact .inr x
    · omega
  · rcases hk with rfl | hk
    · exact .inl (.inl rfl)
    · exact (hp k hk).imp_left .inr
end Rb
theorem rnew_b (n : Int) (w : World) (e : ceilI n 1 4096 = (N : Int)) :
    Calls Tryd.prog 9 #[.int .i64 n] w fun e w' => e = .returned (ptr w.heap.size) ∧ Rb w' w.heap.size N none 0 [] 0 ∧ Grown w w' := by
  have ce := fun w => refCeil_any n 1 4096 w (by decide) (by decide) (by decide) (by decide)
  rw [e] at ce
  clear e
  go_enter Tryd.func9, Tryd.ntmps9
  go_wp2_with (go_at_call 28; refine (ce _).mono ?_; rintro e w' ⟨rfl, rfl⟩)
  go_ret
  exact ⟨rfl, ⟨blk_alloc_new _ _, Vec.nil _ _ _ _, In.no⟩, (Grown.refl _).alloc _ _⟩
theorem rreserve_no (h : Rb w A N p c q r) (hl : N ≤ q.length + r) (hm : q.length + r ≤ 1000000) :
    Calls Tryd.prog 12 #[ptr A] w fun e w' => e = .returned (.bool false) ∧ ∃ m, w' = w.drewN m := by
  obtain ⟨c0, c1, c2⟩ := h.cells
  obtain ⟨k, hk⟩ : ∃ k, Hid (k = q.length) := ⟨_, rfl⟩
  rw [← hk.out] at c1 hl hm
  have hd : decide ((N : Int) ≤ (k : Int) + (r : Int)) = true := by rw [decide_eq_true_eq]; omega
  have hb := lt_of h.head
  clear h
  unfold ptr
  go_enter Tryd.func12, Tryd.ntmps12
  go_wp2
  go_quiet (fail)
  go_wp2
  go_ret
  exact ⟨rfl, _, rfl⟩
theorem rreserve_yes (h : Rb w A N p c q r) (hl : q.length + r < N) (hm : N ≤ 4096) :
    Calls Tryd.prog 12 #[ptr A] w fun e w' => e = .returned (.bool true) ∧ Rb w' A N p c q (r + 1) ∧ Out (rbF A p) w w' := by
  obtain ⟨c0, c1, c2⟩ := h.cells
  have f2 := h.free 2
  have H : Hid (Rb w A N p c q r) := h
  obtain ⟨k, hk⟩ : ∃ k, Hid (k = q.length) := ⟨_, rfl⟩
  rw [← hk.out] at c1 hl
  have hd : decide ((N : Int) ≤ (k : Int) + (r : Int)) = false := by rw [decide_eq_false_iff_not]; omega
  have hdn : ¬ N ≤ k + r := by omega
  have hb := lt_of h.head
  clear h
  unfold ptr
  go_enter Tryd.func12, Tryd.ntmps12
  go_wp2
  go_quiet (fail)
  go_wp2
  go_ret
  exact ⟨rfl, (H.out.grown (grownDrewN (Grown.refl _) nq)).setR (r + 1), (((Out.refl _ _).drewN _).setCell (Or.inl rfl) _)⟩
theorem rcancel_no (h : Rb w A N p c q 0) : Calls Tryd.prog 17 #[ptr A] w fun e w' => e = .returned (.int .i64 3) ∧ w' = w := by
  obtain ⟨c0, c1, c2⟩ := h.cells
  have c2 : w.cell? ⟨A, 2, none⟩ = some (.int .i64 0) := c2
  have hb := lt_of h.head
  clear h
  unfold ptr
  go_enter Tryd.func17, Tryd.ntmps17
  go_wp2
  go_ret
  exact ⟨rfl, rfl⟩
theorem rcancel_yes (h : Rb w A N p c q (r + 1)) (hr : r ≤ 4096) : Calls Tryd.prog 17 #[ptr A] w fun e w' => e = .returned (.int .i64 0) ∧ Rb w' A N p c q r ∧ Out (rbF A p) w w' := by
  obtain ⟨c0, c1, c2⟩ := h.cells
  have c2 : w.cell? ⟨A, 2, none⟩ = some (.int .i64 ((r : Int) + 1)) := c2
  have f2 := h.free 2
  have H : Hid (Rb w A N p c q (r + 1)) := h
  have hz : ¬ (r : Int) + 1 = 0 := by omega
  have hz2 : ((r : Int) + 1 == 0) = false := by simp; omega
  have hb := lt_of h.head
  clear h
  unfold ptr
  go_enter Tryd.func17, Tryd.ntmps17
  go_wp2
  go_ret
  refine ⟨rfl, ?_, ((Out.refl _ _).setCell (Or.inl rfl) _)⟩
  have := H.out.setR r
  simpa using this
theorem rcommit_no (h : Rb w A N p c q 0) (e : Ev) : Calls Tryd.prog 15 #[ptr A, e.v] w fun o w' => o = .returned (.int .i64 3) ∧ Grown w w' := by
  obtain ⟨c0, c1, c2⟩ := (h.grown ((Grown.refl w).alloc (#[.int .i64 e.d, .int .i64 e.n, .int .i64 e.k, .int .i64 e.x]) 30)).cells
  have hb := lt_of h.head
  obtain ⟨c0, c1, c2'⟩ := h.cells
  have c2' : w.cell? ⟨A, 2, none⟩ = some (.int .i64 0) := c2'
  clear h
  unfold ptr Ev.v at *
  go_enter Tryd.func15, Tryd.ntmps15
  go_wp2
  go_ret
  exact ⟨rfl, (Grown.refl _).alloc _ _⟩
theorem rtake_no (h : Rb w A N p c [] r) :
    Calls Tryd.prog 19 #[ptr A] w fun e w' => e = .returned (.tuple #[e0.v, .bool false]) ∧ Grown w w' := by
  obtain ⟨c0, c1, c2⟩ := h.cells
  have c1 : w.cell? ⟨A, 1, none⟩ = some (.slice p 0 c) := c1
  have hb := lt_of h.head
  have hR : (w.alloc (.cells #[.int .i64 0, .int .i64 0, .int .i64 0, .int .i64 0] 30)).heap[w.heap.size]? = some (.cells #[.int .i64 0, .int .i64 0, .int .i64 0, .int .i64 0] 30 (0, 0)) := blk_alloc_new _ _
  have g1 : Grown w (w.alloc (.cells #[.int .i64 0, .int .i64 0, .int .i64 0, .int .i64 0] 30)) := (Grown.refl _).alloc _ _
  clear h
  unfold ptr
  go_enter Tryd.func19, Tryd.ntmps19
  go_wp2_with (first | (refine wpList_store_ev rfl rfl (.tmp 2) (.tmp 11) rfl w.heap.size rfl rfl hR rfl ?_; intro w2 h2 o2; have g2 := o2.grown g1 (fun k hk => by omega); clear hR o2 g1))
  exact bodyPost_ret (results_row_tmp Tryd.results19 _ _ w.heap.size 30 _ (0, 0) _ rfl h2 Tryd.underlying30 rfl sizeEv) rfl ⟨rfl, g2⟩
theorem wsum_take {q : List Ev} {i : Nat} (h : i < q.length) : wsum (q.take (i + 1)) = wsum (q.take i) + min (max (q.getD i e0).x 0) 2147483648 := by
  rw [List.take_add_one, List.getElem?_eq_getElem h, show (some q[i]).toList = [q[i]] from rfl, wsum_push, List.getD_eq_getElem?_getD, List.getElem?_eq_getElem h]
  rfl
theorem rweight_b (h : Rb w A N p c q r) (hm : q.length ≤ 4096) : Calls Tryd.prog 24 #[ptr A] w fun e w' => e = .returned (.int .i64 (wsum q)) ∧ w' = w := by
  obtain ⟨c0, c1, c2⟩ := h.cells
  have hb := lt_of h.head
  have hv : Hid (Vec w 30 4 p q.length c (evL q)) := h.vec
  clear h
  unfold ptr
  go_enter Tryd.func24, Tryd.ntmps24
  go_wp2
  go_loopw [3, 4] (fun s i wq => ∃ n : Nat, n ≤ q.length ∧ i = .int .i64 (n : Int) ∧ s = .int .i64 (wsum (q.take n)) ∧ wq = w) (fun _ i _ => q.length - (intOf i).toNat)
  case atStart => exact ⟨0, by omega, rfl, by rw [List.take_zero]; rfl, rfl⟩
  case round =>
    obtain ⟨n, hn, rfl, rfl, hww⟩ := hrel
    subst hww
    by_cases hlt : n < q.length
    · have hd : decide ((n : Int) < (q.length : Int)) = true := by rw [decide_eq_true_eq]; omega
      obtain ⟨B, hB, lB, cB, _, _⟩ := hv.out.opens (by omega)
      have k3 := cB (n * 4 + 3) (by omega)
      rw [(evL_at q n).2.2.2] at k3
      have HS := wsum_take hlt
      have hbd := wsum_bd (q.take n)
      rw [List.length_take] at hbd
      obtain ⟨S, hS⟩ : ∃ S, Hid (S = wsum (q.take n)) := ⟨_, rfl⟩
      obtain ⟨z, hz⟩ : ∃ z, Hid (z = (q.getD n e0).x) := ⟨_, rfl⟩
      rw [← hz.out] at k3 HS
      rw [← hS.out] at HS hbd ⊢
      have HS : Hid (wsum (q.take (n + 1)) = S + min (max z 0) 2147483648) := HS
      have hS2 : 0 ≤ S ∧ S ≤ 8796093022208 := by omega
      rw [hB] at c1
      clear cB hbd
      go_wp2
      all_goals
        go_roundw
        case rel => exact ⟨n + 1, by omega, by go_num, by rw [HS.out]; congr 1; omega, trivial⟩
        case measure => simp [intOf]; omega
    · obtain rfl : n = q.length := by omega
      have hd : decide ((q.length : Int) < (q.length : Int)) = false := by rw [decide_eq_false_iff_not]; omega
      rw [List.take_length]
      go_wp2
      go_ret
      exact ⟨rfl, rfl⟩
end Go.Proofs.YtigmjgmkeoineaaDoor.Wb
