/-
  What New, Len, Most, has, Get, Set, Drop, give and Put of package arena do when they are called.
-/
import Derived.Test.YtkjnpgpgcikhgaaArMem
namespace Go.Proofs.Ytkjnpgpgcikhgaa
open Go.RowKit Go.Deep

variable {w : World} {A : Nat} {ps pd : Option Addr} {cs cd : Nat} {t : As}

theorem most_m (h : ArM w A ps cs pd cd t) :
    Calls Try.prog 21 #[ptr A] w fun e w' => e = .returned (.int .i64 (t.m : Int)) ∧ w' = w := by
  have c0 := h.cell0
  unfold ptr
  go_enter Try.func21, Try.ntmps21
  go_wp2
  go_ret
  exact ⟨rfl, rfl⟩

theorem len_m (h : ArM w A ps cs pd cd t) (hw : t.Wf) :
    Calls Try.prog 19 #[ptr A] w fun e w' => e = .returned (.int .i64 (t.len : Int)) ∧ ∃ d, w' = w.drewN d := by
  have c1 := h.cell1
  have c2 := h.cell2
  have h1 := hw.few
  have h2 := hw.top
  have h3 := hw.cap
  have h4 := hw.len_eq
  obtain ⟨L, hL⟩ : ∃ L : Int, L = (t.len : Int) := ⟨_, rfl⟩
  rw [← hL] at h4 ⊢
  obtain ⟨n, hn⟩ : ∃ n, n = t.n := ⟨_, rfl⟩
  obtain ⟨k, hk⟩ : ∃ k, k = t.d.length := ⟨_, rfl⟩
  simp only [← hn, ← hk] at c1 c2 h1 h2 h4
  have h5 : n ≤ 65537 := by omega
  clear hL hn hk h2 h3
  unfold ptr
  go_enter Try.func19, Try.ntmps19
  go_wp2
  go_quiet (fail)
  go_wp2
  go_ret
  exact ⟨ret_i (by omega), _, rfl⟩

theorem has_no (h : ArM w A ps cs pd cd t) (hw : t.Wf) (id : Int) (hid : t.under id = none) :
    Calls Try.prog 24 #[ptr A, .int .i64 id] w fun e w' => e = .returned (.bool false) ∧ w' = w := by
  have c1 := h.cell1
  obtain ⟨B, hB, hlt, hc, hf, hn⟩ := h.slots.opens hw.pos
  subst hB
  have h3 := hw.cap
  have h2 := hw.top
  have hp := hw.pos
  by_cases h0 : 0 < id
  · by_cases h1 : id < t.n
    · obtain ⟨i, rfl⟩ : ∃ i : Nat, id = i := ⟨id.toNat, by omega⟩
      rw [As.under_nat] at hid
      have ci := hc (i * 3) (by omega)
      rw [slotC0, hid] at ci
      have d1 : decide ((0 : Int) < (i : Int)) = true := by rw [decide_eq_true_eq]; omega
      have d2 : decide ((i : Int) < (t.n : Int)) = true := by rw [decide_eq_true_eq]; omega
      have ci' : w.cell? ⟨B, i * 3, none⟩ = some (.bool false) := ci
      obtain ⟨n, hn'⟩ : ∃ n, n = t.n := ⟨_, rfl⟩
      simp only [← hn'] at *
      clear hc ci hid
      unfold ptr
      go_enter Try.func24, Try.ntmps24
      go_wp2
      go_ret
      exact ⟨rfl, rfl⟩
    · have d1 : decide ((0 : Int) < id) = true := by rw [decide_eq_true_eq]; omega
      have d2 : decide (id < (t.n : Int)) = false := by rw [decide_eq_false_iff_not]; omega
      clear hc
      unfold ptr
      go_enter Try.func24, Try.ntmps24
      go_wp2
      go_ret
      exact ⟨rfl, rfl⟩
  · have d1 : decide ((0 : Int) < id) = false := by rw [decide_eq_false_iff_not]; omega
    clear hc
    unfold ptr
    go_enter Try.func24, Try.ntmps24
    go_wp2
    go_ret
    exact ⟨rfl, rfl⟩

theorem has_yes (h : ArM w A ps cs pd cd t) (hw : t.Wf) (i : Nat) (v : Int × Int) (hi : t.s i = some v) :
    Calls Try.prog 24 #[ptr A, .int .i64 (i : Int)] w fun e w' => e = .returned (.bool true) ∧ w' = w := by
  have c1 := h.cell1
  obtain ⟨h0, h1⟩ := hw.held hi
  obtain ⟨B, hB, hlt, hc, hf, hn⟩ := h.slots.opens hw.pos
  subst hB
  have h3 := hw.cap
  have h2 := hw.top
  have ci := hc (i * 3) (by omega)
  rw [slotC0, hi] at ci
  have d1 : decide ((0 : Int) < (i : Int)) = true := by rw [decide_eq_true_eq]; omega
  have d2 : decide ((i : Int) < (t.n : Int)) = true := by rw [decide_eq_true_eq]; omega
  have ci' : w.cell? ⟨B, i * 3, none⟩ = some (.bool true) := ci
  obtain ⟨n, hn'⟩ : ∃ n, n = t.n := ⟨_, rfl⟩
  simp only [← hn'] at *
  clear hc ci hi
  unfold ptr
  go_enter Try.func24, Try.ntmps24
  go_wp2
  go_ret
  exact ⟨rfl, rfl⟩

theorem infoNode (x y : Value) : (Try.prog.info? 30).map (·.size) = some (#[x, y] : Array Value).size := by kernel_rfl
/-- A node as a value. -/
def nodeV (v : Int × Int) : Value := .agg #[.int .i64 v.1, .int .i64 v.2]
theorem get_no (h : ArM w A ps cs pd cd t) (hw : t.Wf) (id : Int) (hid : t.under id = none) :
    Calls Try.prog 17 #[ptr A, .int .i64 id] w fun e w' => e = .returned (.tuple #[nodeV (0, 0), .int .i64 3]) ∧ Grown w w' := by
  have hh := fun W (g : Grown w W) => has_no (h.grown g) hw id hid
  unfold ptr at *
  go_enter Try.func17, Try.ntmps17
  go_wp2_with (go_at_call 24; refine (hh _ ((Grown.refl _).alloc _ _)).mono ?_; rintro e w' ⟨rfl, hw'⟩; have hw' := hw'.symm; subst hw')
  exact bodyPost_ret (results_row_tmp Try.results17 _ _ w.heap.size 30 _ (0, 0) _ rfl (heap_alloc_new _ _) Try.underlying30 rfl (infoNode _ _)) rfl ⟨rfl, (Grown.refl _).alloc _ _⟩

/-- What the cells of a slot hold, also behind new blocks. -/
theorem ArM.at (h : ArM w A ps cs pd cd t) (hw : t.Wf) (i : Nat) (v : Int × Int) (hi : t.s i = some v) : ∃ B, ps = some ⟨B, 0, none⟩ ∧ B < w.heap.size ∧ i < t.n ∧
    (∀ W, Grown w W → W.cell? ⟨A, 1, none⟩ = some (.slice (some ⟨B, 0, none⟩) t.n cs) ∧ W.cell? ⟨B, i * 3, none⟩ = some (.bool true) ∧ W.cell? ⟨B, i * 3 + 1, none⟩ = some (.int .i64 v.1) ∧ W.cell? ⟨B, i * 3 + 2, none⟩ = some (.int .i64 v.2) ∧ ∀ j, W.frozen? ⟨B, j, none⟩ = false) := by
  obtain ⟨h0, h1⟩ := hw.held hi
  obtain ⟨B, hB, hlt, hc, hf, hn⟩ := h.slots.opens hw.pos
  refine ⟨B, hB, hlt, h1, fun W g => ?_⟩
  have hx := h.grown g
  subst hB
  obtain ⟨B', hB', hlt', hc', hf', hn'⟩ := hx.slots.opens hw.pos
  cases hB'
  have e0 := hc' (i * 3) (by omega)
  have e1 := hc' (i * 3 + 1) (by omega)
  have e2 := hc' (i * 3 + 2) (by omega)
  rw [slotC0, hi] at e0
  rw [slotC1, hi] at e1
  rw [slotC2, hi] at e2
  exact ⟨hx.cell1, e0, e1, e2, hf'⟩
theorem get_yes (h : ArM w A ps cs pd cd t) (hw : t.Wf) (i : Nat) (v : Int × Int) (hi : t.s i = some v) :
    Calls Try.prog 17 #[ptr A, .int .i64 (i : Int)] w fun e w' => e = .returned (.tuple #[nodeV v, .int .i64 0]) ∧ Grown w w' := by
  have hh := fun W (g : Grown w W) => has_yes (h.grown g) hw i v hi
  obtain ⟨B, rfl, hB, hin, hat⟩ := h.at hw i v hi
  have h3 := hw.cap
  have h2 := hw.top
  have c1 : ∀ c y, (w.alloc (.cells c y)).cell? ⟨A, 1, none⟩ = some (.slice (some ⟨B, 0, none⟩) t.n cs) := fun c y => (hat _ ((Grown.refl _).alloc _ _)).1
  have c2 : ∀ c y, (w.alloc (.cells c y)).cell? ⟨B, i * 3 + 1, none⟩ = some (.int .i64 v.1) := fun c y => (hat _ ((Grown.refl _).alloc _ _)).2.2.1
  have c3 : ∀ c y, (w.alloc (.cells c y)).cell? ⟨B, i * 3 + 2, none⟩ = some (.int .i64 v.2) := fun c y => (hat _ ((Grown.refl _).alloc _ _)).2.2.2.1
  clear hat hi
  unfold ptr at *
  go_enter Try.func17, Try.ntmps17
  go_wp2_with (go_at_call 24; refine (hh _ ((Grown.refl _).alloc _ _)).mono ?_; rintro e w' ⟨rfl, hw'⟩; have hw' := hw'.symm; subst hw')
  exact bodyPost_ret (results_row_tmp Try.results17 _ _ w.heap.size 30 _ (0, 0) _ rfl (heap_alloc_new _ _) Try.underlying30 rfl (infoNode _ _)) rfl ⟨rfl, (Grown.refl _).alloc _ _⟩

/-- The three cells of a slot, written one behind the other. -/
theorem ArM.setSlot {B i : Nat} (h : ArM w A (some ⟨B, 0, none⟩) cs pd cd t) (o : Option (Int × Int)) :
    ArM (((w.setCell ⟨B, i * 3, none⟩ (.bool o.isSome)).setCell ⟨B, i * 3 + 1, none⟩ (.int .i64 (o.getD (0, 0)).1)).setCell ⟨B, i * 3 + 2, none⟩ (.int .i64 (o.getD (0, 0)).2)) A (some ⟨B, 0, none⟩) cs pd cd { t with s := fun k => if k = i then o else t.s k } := by
  have hA : A ≠ B := fun e => h.n1 (by rw [e]; exact In.self B)
  refine ⟨?_, ?_, ?_, h.n1, h.n2, h.n3⟩
  · rw [blk_setCell_other _ _ _ _ hA, blk_setCell_other _ _ _ _ hA, blk_setCell_other _ _ _ _ hA]; exact h.head
  · refine (((h.slots.set _ _).set _ _).set _ _).congr fun j _ => ?_
    rw [slotC_set]
  · exact h.drops.out ((((Out.refl (· = B) w).setCell (a := ⟨B, _, none⟩) rfl _).setCell (a := ⟨B, _, none⟩) rfl _).setCell (a := ⟨B, _, none⟩) rfl _) (fun k hk e => h.n3 k (by rw [e]; exact In.self B) hk)
/-- A node alone, written over. -/
theorem ArM.setNode {B i : Nat} (h : ArM w A (some ⟨B, 0, none⟩) cs pd cd t) (v : Int × Int) {u : Int × Int} (hi : t.s i = some u) :
    ArM ((w.setCell ⟨B, i * 3 + 1, none⟩ (.int .i64 v.1)).setCell ⟨B, i * 3 + 2, none⟩ (.int .i64 v.2)) A (some ⟨B, 0, none⟩) cs pd cd (t.set i v) := by
  have hA : A ≠ B := fun e => h.n1 (by rw [e]; exact In.self B)
  refine ⟨?_, ?_, ?_, h.n1, h.n2, h.n3⟩
  · rw [blk_setCell_other _ _ _ _ hA, blk_setCell_other _ _ _ _ hA]; exact h.head
  · refine ((h.slots.set _ _).set _ _).congr fun j _ => ?_
    show _ = slotC (fun k => if k = i then some v else t.s k) j
    rw [slotC_set]
    by_cases e : j = i * 3
    · subst e
      rw [if_neg (by omega), if_neg (by omega), if_neg (by omega), if_neg (by omega), if_pos rfl, slotC0, hi]; rfl
    · rw [if_neg e]; rfl
  · exact h.drops.out (((Out.refl (· = B) w).setCell (a := ⟨B, _, none⟩) rfl _).setCell (a := ⟨B, _, none⟩) rfl _) (fun k hk e => h.n3 k (by rw [e]; exact In.self B) hk)
/-- Other slots in the place of those. -/
theorem ArM.newSlots {w2 : World} {p' : Option Addr} {n' c' : Nat} (h : ArM w A ps cs pd cd t) (o : Out (In ps) w w2) (hv : Vec w2 56 3 p' n' c' (slotC t.s)) (hp : p' = ps ∨ p' = some ⟨w.heap.size, 0, none⟩) :
    ArM (w2.setCell ⟨A, 1, none⟩ (.slice p' n' c')) A p' c' pd cd { t with n := n' } := by
  have hA : A < w.heap.size := h.lt
  have hn1 : ¬ In p' A := by
    rcases hp with rfl | rfl
    · exact h.n1
    · intro e; have := e.eq; omega
  have hn3 : ∀ k, In p' k → ¬ In pd k := by
    rcases hp with rfl | rfl
    · exact h.n3
    · intro k e g; have h1 := e.eq; have h2 := h.drops.lt g; omega
  have ho : Out (· = A) w2 (w2.setCell ⟨A, 1, none⟩ (.slice p' n' c')) := (Out.refl (fun x => x = A) w2).setCell (a := ⟨A, 1, none⟩) rfl _
  refine ⟨?_, hv.out ho (fun k hk e => hn1 (by rw [← e]; exact hk)), (h.drops.out o (fun k hk g => h.n3 k g hk)).out ho (fun k hk e => h.n2 (by rw [← e]; exact hk)), hn1, h.n2, hn3⟩
  have := (o.block A hA h.n1).trans h.head
  simp [World.setCell, Array.getElem?_modify, this]
/-- Other dropped numbers in the place of those. -/
theorem ArM.newDrops {w2 : World} {p' : Option Addr} {k' c' : Nat} {d' : List Nat} (h : ArM w A ps cs pd cd t) (o : Out (In pd) w w2) (hv : Vec w2 3 1 p' k' c' (dropC d')) (hk : k' = d'.length) (hp : p' = pd ∨ p' = some ⟨w.heap.size, 0, none⟩) :
    ArM (w2.setCell ⟨A, 2, none⟩ (.slice p' k' c')) A ps cs p' c' { t with d := d' } := by
  subst hk
  have hA : A < w.heap.size := h.lt
  have hn2 : ¬ In p' A := by
    rcases hp with rfl | rfl
    · exact h.n2
    · intro e; have := e.eq; omega
  have hn3 : ∀ k, In ps k → ¬ In p' k := by
    rcases hp with rfl | rfl
    · exact h.n3
    · intro k g e; have h1 := e.eq; have h2 := h.slots.lt g; omega
  have ho : Out (· = A) w2 (w2.setCell ⟨A, 2, none⟩ (.slice p' d'.length c')) := (Out.refl (fun x => x = A) w2).setCell (a := ⟨A, 2, none⟩) rfl _
  refine ⟨?_, (h.slots.out o (fun k hk g => h.n3 k hk g)).out ho (fun k hk e => h.n1 (by rw [← e]; exact hk)), hv.out ho (fun k hk e => hn2 (by rw [← e]; exact hk)), h.n1, hn2, hn3⟩
  have := (o.block A hA h.n2).trans h.head
  simp [World.setCell, Array.getElem?_modify, this]
theorem ArM.dcell {F : Nat → Prop} {w2 : World} (h : ArM w A ps cs pd cd t) (o : Out F w w2) (hF : ¬ F A) (k : Nat) : w2.cell? ⟨A, k, none⟩ = w.cell? ⟨A, k, none⟩ ∧ w2.frozen? ⟨A, k, none⟩ = false :=
  ⟨World.cell?_of_block (w := w) (o.block A h.lt hF), (o.froz _).trans (h.frozen k)⟩
theorem foot_slot {B : Nat} (pd : Option Addr) : foot A (some ⟨B, 0, none⟩) pd B := Or.inr (Or.inl (In.self B))
theorem set_no (h : ArM w A ps cs pd cd t) (hw : t.Wf) (id : Int) (v : Int × Int) (hid : t.under id = none) :
    Calls Try.prog 15 #[ptr A, .int .i64 id, nodeV v] w fun e w' => e = .returned (.int .i64 3) ∧ Grown w w' := by
  have hh := fun W (g : Grown w W) => has_no (h.grown g) hw id hid
  unfold ptr nodeV at *
  go_enter Try.func15, Try.ntmps15
  go_wp2_with (go_at_call 24; refine (hh _ ((Grown.refl _).alloc _ _)).mono ?_; rintro e w' ⟨rfl, hw'⟩; have hw' := hw'.symm; subst hw')
  go_ret
  exact ⟨rfl, (Grown.refl _).alloc _ _⟩
theorem set_yes (h : ArM w A ps cs pd cd t) (hw : t.Wf) (i : Nat) (v : Int × Int) (u : Int × Int) (hi : t.s i = some u) :
    Calls Try.prog 15 #[ptr A, .int .i64 (i : Int), nodeV v] w fun e w' => e = .returned (.int .i64 0) ∧ ArM w' A ps cs pd cd (t.set i v) ∧ Out (foot A ps pd) w w' := by
  have hh := fun W (g : Grown w W) => has_yes (h.grown g) hw i u hi
  obtain ⟨B, rfl, hB, hin, hat⟩ := h.at hw i u hi
  have h3 := hw.cap
  have h2 := hw.top
  have hA := h.lt
  have c1 : w.cell? ⟨A, 1, none⟩ = some (.slice (some ⟨B, 0, none⟩) t.n cs) := (hat _ (Grown.refl _)).1
  have c2 : w.cell? ⟨B, i * 3 + 1, none⟩ = some (.int .i64 u.1) := (hat _ (Grown.refl _)).2.2.1
  have c3 : w.cell? ⟨B, i * 3 + 1 + 1, none⟩ = some (.int .i64 u.2) := (hat _ (Grown.refl _)).2.2.2.1
  have c4 : ∀ j, w.frozen? ⟨B, j, none⟩ = false := (hat _ (Grown.refl _)).2.2.2.2
  have R : Hid (∀ W, Grown ((w.setCell ⟨B, i * 3 + 1, none⟩ (.int .i64 v.1)).setCell ⟨B, i * 3 + 1 + 1, none⟩ (.int .i64 v.2)) W → ArM W A (some ⟨B, 0, none⟩) cs pd cd (t.set i v) ∧ Out (foot A (some ⟨B, 0, none⟩) pd) w W) := fun W g =>
    ⟨(h.setNode v hi).grown g, (((Out.refl (foot A (some ⟨B, 0, none⟩) pd) w).setCell (a := ⟨B, i * 3 + 1, none⟩) (foot_slot _) _).setCell (a := ⟨B, i * 3 + 2, none⟩) (foot_slot _) _).more g⟩
  clear hat hi h
  unfold ptr nodeV at *
  go_enter Try.func15, Try.ntmps15
  go_wp2_with (go_at_call 24; refine (hh _ ((Grown.refl _).alloc _ _)).mono ?_; rintro e w' ⟨rfl, hw'⟩; have hw' := hw'.symm; subst hw')
  go_region
  all_goals (try go_wp2)
  all_goals go_ret
  all_goals exact ⟨rfl, R.out _ ((Grown.refl _).alloc _ _).drew⟩

theorem drop_no (h : ArM w A ps cs pd cd t) (hw : t.Wf) (id : Int) (hid : t.under id = none) :
    Calls Try.prog 13 #[ptr A, .int .i64 id] w fun e w' => e = .returned (.int .i64 3) ∧ w' = w := by
  have hh := has_no h hw id hid
  unfold ptr at *
  go_enter Try.func13, Try.ntmps13
  go_wp2_with (go_at_call 24; refine hh.mono ?_; rintro e w' ⟨rfl, hw'⟩; have hw' := hw'.symm; subst hw')
  go_ret
  exact ⟨rfl, rfl⟩
theorem infoInt : (Try.prog.info? 3).map (fun i => (i.zero, i.size, i.bytes)) = some (some (.int .i64 0), 1, 8) := by kernel_rfl
theorem infoSlot : (Try.prog.info? 56).map (fun i => (i.zero, i.size, i.bytes)) = some (some (.agg #[.bool false, .int .i64 0, .int .i64 0]), 3, 24) := by kernel_rfl
/-- A cell of a block that was laid just now. -/
theorem new_cells (w : World) (cs : Array Value) (y : TypeId) (j : Nat) : (w.alloc (.cells cs y)).cell? ((⟨w.heap.size, 0, none⟩ : Addr).add j) = cs[j]? := by
  have e : (⟨w.heap.size, 0, none⟩ : Addr).add j = ⟨w.heap.size, j, none⟩ := by unfold Addr.add; split <;> simp_all
  rw [e]
  simp only [World.cell?, blk_alloc_new]
  rfl
theorem new_one (w : World) (u : Value) (y : TypeId) : ∀ j, j < 1 * 1 → (w.alloc (.cells #[u] y)).cell? ((⟨w.heap.size, 0, none⟩ : Addr).add j) = some u := fun j hj => by
  obtain rfl : j = 0 := by omega
  rw [new_cells]; rfl
/-- A slot that is emptied. -/
def emptied (w : World) (B i : Nat) : World := ((w.setCell ⟨B, i * 3, none⟩ (.bool false)).setCell ⟨B, i * 3 + 1, none⟩ (.int .i64 0)).setCell ⟨B, i * 3 + 2, none⟩ (.int .i64 0)
theorem emptied_size (w : World) (B i : Nat) : (emptied w B i).heap.size = w.heap.size := by unfold emptied; rw [nblk_setCell, nblk_setCell, nblk_setCell]
theorem ArM.emptied {B : Nat} (h : ArM w A (some ⟨B, 0, none⟩) cs pd cd t) (i : Nat) : ArM (emptied w B i) A (some ⟨B, 0, none⟩) cs pd cd { t with s := fun k => if k = i then none else t.s k } ∧ Out (foot A (some ⟨B, 0, none⟩) pd) w (Go.Proofs.Ytkjnpgpgcikhgaa.emptied w B i) :=
  ⟨h.setSlot none, (((Out.refl (foot A (some ⟨B, 0, none⟩) pd) w).setCell (a := ⟨B, i * 3, none⟩) (foot_slot _) _).setCell (a := ⟨B, i * 3 + 1, none⟩) (foot_slot _) _).setCell (a := ⟨B, i * 3 + 2, none⟩) (foot_slot _) _⟩
theorem ArM.dropped {B i k : Nat} (h : ArM w A (some ⟨B, 0, none⟩) cs pd cd t) (hk : k = t.d.length) (cc : Array Value) (yy : TypeId) {p' : Option Addr} {c' : Nat} {w2 : World}
    (hv : Vec w2 3 1 p' (k + 1) c' (fun j => if j < k * 1 then dropC t.d j else .int .i64 (i : Int))) (ho : Out (In pd) ((Go.Proofs.Ytkjnpgpgcikhgaa.emptied w B i).alloc (.cells cc yy)) w2) (hp : p' = pd ∨ p' = some ⟨((Go.Proofs.Ytkjnpgpgcikhgaa.emptied w B i).alloc (.cells cc yy)).heap.size, 0, none⟩) :
    (w2.cell? ⟨A, 2, none⟩ = some (.slice pd k cd) ∧ w2.frozen? ⟨A, 2, none⟩ = false) ∧ ArM (w2.setCell ⟨A, 2, none⟩ (.slice p' (k + 1) c')) A (some ⟨B, 0, none⟩) cs p' c' (t.drop i) ∧ Out (foot A (some ⟨B, 0, none⟩) pd) w (w2.setCell ⟨A, 2, none⟩ (.slice p' (k + 1) c')) ∧ (p' = pd ∨ ∃ k, p' = some ⟨k, 0, none⟩ ∧ w.heap.size ≤ k) := by
  subst hk
  obtain ⟨h1, h2⟩ := h.emptied i
  have h3 := h1.grown ((Grown.refl _).alloc cc yy)
  have hd := h3.dcell ho h3.n2 2
  rw [h3.cell2] at hd
  refine ⟨hd, h3.newDrops (d' := i :: t.d) ho (hv.congr fun j hj => ?_) rfl hp, ((h2.alloc cc yy).trans ho (fun k hk => Or.inl (Or.inr (Or.inr hk)))).setCell (a := ⟨A, 2, none⟩) (Or.inl rfl) _, ?_⟩
  · rw [dropC_cons _ _ _ (by omega), Nat.mul_one]
  · rcases hp with e | e
    · exact Or.inl e
    · refine Or.inr ⟨_, e, ?_⟩
      rw [nblk_alloc, emptied_size]; omega
set_option maxHeartbeats 1000000 in
theorem drop_yes (h : ArM w A ps cs pd cd t) (hw : t.Wf) (i : Nat) (u : Int × Int) (hi : t.s i = some u) :
    Calls Try.prog 13 #[ptr A, .int .i64 (i : Int)] w fun e w' => e = .returned (.int .i64 0) ∧ ∃ pd' cd', ArM w' A ps cs pd' cd' (t.drop i) ∧ Out (foot A ps pd) w w' ∧ (pd' = pd ∨ ∃ k, pd' = some ⟨k, 0, none⟩ ∧ w.heap.size ≤ k) := by
  have hh := has_yes h hw i u hi
  obtain ⟨B, rfl, hB, hin, hat⟩ := h.at hw i u hi
  have h3 := hw.cap
  have h2 := hw.top
  have h1 := hw.few
  have hA := h.lt
  have hne : A ≠ B := fun e => h.n1 (by rw [e]; exact In.self B)
  have c1 : w.cell? ⟨A, 1, none⟩ = some (.slice (some ⟨B, 0, none⟩) t.n cs) := (hat _ (Grown.refl _)).1
  have c0 : w.cell? ⟨B, i * 3, none⟩ = some (.bool true) := (hat _ (Grown.refl _)).2.1
  have c2 : w.cell? ⟨B, i * 3 + 1, none⟩ = some (.int .i64 u.1) := (hat _ (Grown.refl _)).2.2.1
  have c3 : w.cell? ⟨B, i * 3 + 2, none⟩ = some (.int .i64 u.2) := (hat _ (Grown.refl _)).2.2.2.1
  have c4 : ∀ j, w.frozen? ⟨B, j, none⟩ = false := (hat _ (Grown.refl _)).2.2.2.2
  have c5 := h.cell2
  have c6 := h.frozen
  have H : Hid (ArM w A (some ⟨B, 0, none⟩) cs pd cd t) := h
  obtain ⟨k, hk⟩ : ∃ k, k = t.d.length := ⟨_, rfl⟩
  rw [← hk] at c5 h1
  have hk' : Hid (k = t.d.length) := hk
  have HV : Hid (∀ cc yy, Vec ((emptied w B i).alloc (.cells cc yy)) 3 1 pd k cd (dropC t.d)) := fun cc yy => by rw [hk]; exact (h.emptied i).1.drops.grown ((Grown.refl _).alloc _ _)
  have HC : Hid (∀ j, j < 1 * 1 → ((emptied w B i).alloc (.cells #[.int .i64 (i : Int)] 3)).cell? ((⟨w.heap.size, 0, none⟩ : Addr).add j) = some (.int .i64 (i : Int))) := by
    rw [← emptied_size w B i]; exact new_one _ _ _
  clear hat hi h hk
  unfold ptr at *
  go_enter Try.func13, Try.ntmps13
  go_wp2_with (first | (go_at_call 24; refine hh.mono ?_; rintro e w' ⟨rfl, hw'⟩; have hw' := hw'.symm; subst hw') | (at_builtin; refine wpList_append_vec rfl (.tmp 20) (.tmp 22) 41 rfl Try.underlying41 infoInt rfl rfl (HV.out _ _) rfl (by decide) HC.out (fun _ _ => rfl) (by omega) (by omega) ?_; intro p' c' w2 hv2 ho2 hp2; obtain ⟨⟨hc2, hf2⟩, hr⟩ := H.out.dropped hk'.out _ _ hv2 ho2 hp2; have HR : Hid _ := hr; clear hr hv2 ho2 hp2))
  go_ret
  exact ⟨rfl, _, _, HR.out⟩

theorem new_three (w : World) (x y z : Value) (ty : TypeId) (H : Nat) (hH : w.heap.size = H) : ∀ j, j < 1 * 3 → (w.alloc (.cells #[x, y, z] ty)).cell? ((⟨H, 0, none⟩ : Addr).add j) = some (if j = 0 then x else if j = 1 then y else z) := fun j hj => by
  subst hH
  rw [new_cells]
  have h3 : j = 0 ∨ j = 1 ∨ j = 2 := by omega
  rcases h3 with rfl | rfl | rfl <;> rfl
/-- One slot more. -/
theorem ArM.grew (h : ArM w A ps cs pd cd t) (hw : t.Wf) (hd : t.d = []) (cc : Array Value) (yy : TypeId) {p' : Option Addr} {c' : Nat} {w2 : World}
    (hv : Vec w2 56 3 p' (t.n + 1) c' (fun j => if j < t.n * 3 then slotC t.s j else if j - t.n * 3 = 0 then .bool false else if j - t.n * 3 = 1 then .int .i64 0 else .int .i64 0)) (ho : Out (In ps) (w.alloc (.cells cc yy)) w2) (hp : p' = ps ∨ p' = some ⟨(w.alloc (.cells cc yy)).heap.size, 0, none⟩) :
    (w2.cell? ⟨A, 1, none⟩ = some (.slice ps t.n cs) ∧ w2.frozen? ⟨A, 1, none⟩ = false) ∧ ArM (w2.setCell ⟨A, 1, none⟩ (.slice p' (t.n + 1) c')) A p' c' pd cd t.mid ∧ Out (foot A ps pd) w (w2.setCell ⟨A, 1, none⟩ (.slice p' (t.n + 1) c')) ∧ (p' = ps ∨ ∃ k, p' = some ⟨k, 0, none⟩ ∧ w.heap.size ≤ k) := by
  have h3 := h.grown ((Grown.refl _).alloc cc yy)
  have hc := h3.dcell ho h3.n1 1
  rw [h3.cell1] at hc
  have hm : t.mid = { t with n := t.n + 1 } := by
    unfold As.mid; rw [if_pos hd, hd]; rfl
  rw [hm]
  refine ⟨hc, h3.newSlots ho (hv.congr fun j hj => ?_) hp, (((Out.refl (foot A ps pd) w).alloc cc yy).trans ho (fun k hk => Or.inl (Or.inr (Or.inl hk)))).setCell (a := ⟨A, 1, none⟩) (Or.inl rfl) _, ?_⟩
  · by_cases e : j < t.n * 3
    · rw [if_pos e]
    · rw [if_neg e]
      have hs : t.s (j / 3) = none := hw.past _ (by omega)
      have h3 : j = t.n * 3 ∨ j = t.n * 3 + 1 ∨ j = t.n * 3 + 2 := by omega
      rcases h3 with rfl | rfl | rfl
      · rw [slotC0, if_pos (by omega)]; rw [show t.n * 3 / 3 = t.n by omega] at hs; rw [hs]; rfl
      · rw [slotC1, if_neg (by omega), if_pos (by omega)]; rw [show (t.n * 3 + 1) / 3 = t.n by omega] at hs; rw [hs]; rfl
      · rw [slotC2, if_neg (by omega), if_neg (by omega)]; rw [show (t.n * 3 + 2) / 3 = t.n by omega] at hs; rw [hs]; rfl
  · rcases hp with e | e
    · exact Or.inl e
    · refine Or.inr ⟨_, e, ?_⟩
      rw [nblk_alloc]; omega
theorem give_m (h : ArM w A ps cs pd cd t) (hw : t.Wf) :
    Calls Try.prog 23 #[ptr A] w fun e w' => e = .returned (.int .i64 (t.give : Int)) ∧ ∃ ps' cs', ArM w' A ps' cs' pd cd t.mid ∧ Out (foot A ps pd) w w' ∧ (ps' = ps ∨ ∃ k, ps' = some ⟨k, 0, none⟩ ∧ w.heap.size ≤ k) := by
  have c1 := h.cell1
  have c2 := h.cell2
  have hA := h.lt
  have c6 := h.frozen
  have h3 := hw.cap
  have h2 := hw.top
  have h0 := hw.pos
  cases hd : t.d with
  | nil =>
    rw [As.give_new hd]
    rw [hd] at c2
    have c2' : w.cell? ⟨A, 2, none⟩ = some (.slice pd 0 cd) := c2
    have HV : Hid (∀ cc yy, Vec (w.alloc (.cells cc yy)) 56 3 ps t.n cs (slotC t.s)) := fun cc yy => h.slots.grown ((Grown.refl _).alloc _ _)
    have HG : Hid (∀ (cc : Array Value) (yy : TypeId) (p' : Option Addr) (c' : Nat) (w2 : World), Vec w2 56 3 p' (t.n + 1) c' (fun j => if j < t.n * 3 then slotC t.s j else if j - t.n * 3 = 0 then .bool false else if j - t.n * 3 = 1 then .int .i64 0 else .int .i64 0) → Out (In ps) (w.alloc (.cells cc yy)) w2 → (p' = ps ∨ p' = some ⟨(w.alloc (.cells cc yy)).heap.size, 0, none⟩) →
      (w2.cell? ⟨A, 1, none⟩ = some (.slice ps t.n cs) ∧ w2.frozen? ⟨A, 1, none⟩ = false) ∧ ArM (w2.setCell ⟨A, 1, none⟩ (.slice p' (t.n + 1) c')) A p' c' pd cd t.mid ∧ Out (foot A ps pd) w (w2.setCell ⟨A, 1, none⟩ (.slice p' (t.n + 1) c')) ∧ (p' = ps ∨ ∃ k, p' = some ⟨k, 0, none⟩ ∧ w.heap.size ≤ k)) := fun cc yy p' c' w2 hv ho hp => h.grew hw hd cc yy hv ho hp
    obtain ⟨tm, htm⟩ : ∃ tm, tm = t.mid := ⟨_, rfl⟩
    rw [← htm] at HG ⊢
    clear htm h hd c2
    unfold ptr at *
    go_enter Try.func23, Try.ntmps23
    go_wp2_with (first | (at_builtin; refine wpList_append_vec rfl (.tmp 17) (.tmp 19) 52 rfl Try.underlying52 infoSlot rfl rfl (HV.out _ _) rfl (by decide) (new_three _ _ _ _ _ _ rfl) (fun j _ => by split; rfl; split <;> rfl) (by omega) (by omega) ?_; intro p' c' w2 hv2 ho2 hp2; obtain ⟨⟨hc2, hf2⟩, hr⟩ := HG.out _ _ _ _ _ hv2 ho2 hp2; have HR : Hid _ := hr; clear hr hv2 ho2 hp2))
    go_ret
    exact ⟨rfl, _, _, HR.out⟩
  | cons x r =>
    rw [As.give_old hd]
    have hdr := h.drops
    rw [hd] at c2 hdr
    obtain ⟨D, rfl, hlt, hc, hf, hn⟩ := hdr.opens (by simp)
    have c2' : w.cell? ⟨A, 2, none⟩ = some (.slice (some ⟨D, 0, none⟩) (r.length + 1) cd) := c2
    have cx : w.cell? ⟨D, r.length, none⟩ = some (.int .i64 (x : Int)) := (hc _ (by simp)).trans (by rw [dropC_last])
    have hm : t.mid = { t with d := r } := by
      unfold As.mid; rw [if_neg (by rw [hd]; simp), hd]; rfl
    have HR : Hid (ArM (w.setCell ⟨A, 2, none⟩ (.slice (some ⟨D, 0, none⟩) r.length cd)) A ps cs (some ⟨D, 0, none⟩) cd t.mid ∧ Out (foot A ps (some ⟨D, 0, none⟩)) w (w.setCell ⟨A, 2, none⟩ (.slice (some ⟨D, 0, none⟩) r.length cd))) := by
      rw [hm]
      exact ⟨h.newDrops (d' := r) (Out.refl _ _) ((hdr.take (by simp)).congr fun j hj => by rw [dropC_cons _ _ _ (by omega), if_pos (by omega)]) rfl (Or.inl rfl), (Out.refl (foot A ps (some ⟨D, 0, none⟩)) w).setCell (a := ⟨A, 2, none⟩) (Or.inl rfl) _⟩
    have hr : r.length ≤ 65536 := by
      have := hw.few
      rw [hd] at this
      simp at this; omega
    have hcd : r.length + 1 ≤ cd := by simpa using hn
    obtain ⟨k, hk⟩ : ∃ k, k = r.length := ⟨_, rfl⟩
    rw [← hk] at HR c2' cx hr hcd
    clear h hdr hd c2 hc hm hk hn
    obtain ⟨tm, htm⟩ : ∃ tm, tm = t.mid := ⟨_, rfl⟩
    rw [← htm] at HR ⊢
    clear htm
    unfold ptr at *
    go_enter Try.func23, Try.ntmps23
    go_wp2
    go_ret
    exact ⟨rfl, _, _, HR.out.1, HR.out.2, Or.inl rfl⟩

theorem put_full (h : ArM w A ps cs pd cd t) (hw : t.Wf) (hf : t.m ≤ t.len) (v : Int × Int) :
    Calls Try.prog 11 #[ptr A, nodeV v] w fun e w' => e = .returned (.tuple #[.int .i64 0, .int .i64 2]) ∧ Grown w w' := by
  have hl := fun W (g : Grown w W) => len_m (h.grown g) hw
  have c0 := h.cell0
  have hA := h.lt
  have d1 : decide ((t.m : Int) ≤ (t.len : Int)) = true := by rw [decide_eq_true_eq]; omega
  obtain ⟨L, hL⟩ : ∃ L : Int, L = (t.len : Int) := ⟨_, rfl⟩
  obtain ⟨M, hM⟩ : ∃ M : Int, M = (t.m : Int) := ⟨_, rfl⟩
  simp only [← hL] at hl d1
  rw [← hM] at c0 d1
  clear hL hM h
  unfold ptr nodeV at *
  go_enter Try.func11, Try.ntmps11
  go_wp2
  go_quiet (first | (go_at_call 19; exact Calls.quiet_of (hl _ (grownDrewN ((Grown.refl _).alloc _ _) _))))
  go_wp2
  go_ret2
  exact ⟨rfl, grownDrewN ((Grown.refl _).alloc _ _) _⟩

/-- The slot that is given is written. -/
theorem ArM.putSlot {B : Nat} (h : ArM w A (some ⟨B, 0, none⟩) cs pd cd t.mid) (v : Int × Int) :
    ArM (((w.setCell ⟨B, t.give * 3, none⟩ (.bool true)).setCell ⟨B, t.give * 3 + 1, none⟩ (.int .i64 v.1)).setCell ⟨B, t.give * 3 + 2, none⟩ (.int .i64 v.2)) A (some ⟨B, 0, none⟩) cs pd cd (t.put v) := h.setSlot (some v)
theorem give_lt (hw : t.Wf) : t.give < t.mid.n := by
  cases hd : t.d with
  | nil =>
    rw [As.give_new hd]
    show t.n < if t.d = [] then t.n + 1 else t.n
    rw [if_pos hd]; omega
  | cons x r =>
    rw [As.give_old hd]
    show x < if t.d = [] then t.n + 1 else t.n
    rw [if_neg (by rw [hd]; simp)]
    exact ((hw.drop x).1 (by rw [hd]; exact List.mem_cons_self ..)).2.1
/-- What Put finds behind give. -/
theorem ArM.given {W w2 : World} {ps' : Option Addr} {cs' : Nat} (hw : t.Wf) (hn : t.mid.n ≤ 65537) (h : ArM w A ps cs pd cd t) (v : Int × Int) (hW : Grown (w.alloc (.cells #[.int .i64 v.1, .int .i64 v.2] 30)) W) (h2 : ArM w2 A ps' cs' pd cd t.mid) (ho : Out (foot A ps pd) W w2) (hp : ps' = ps ∨ ∃ k, ps' = some ⟨k, 0, none⟩ ∧ W.heap.size ≤ k) :
    ∃ B x y z, ps' = some ⟨B, 0, none⟩ ∧ B < w2.heap.size ∧ w2.cell? ⟨B, t.give * 3, none⟩ = some (.bool x) ∧ w2.cell? ⟨B, t.give * 3 + 1, none⟩ = some (.int .i64 y) ∧ w2.cell? ⟨B, t.give * 3 + 2, none⟩ = some (.int .i64 z) ∧ (∀ j, w2.frozen? ⟨B, j, none⟩ = false) ∧
      w2.cell? ⟨w.heap.size, 0, none⟩ = some (.int .i64 v.1) ∧ w2.cell? ⟨w.heap.size, 1, none⟩ = some (.int .i64 v.2) ∧ w.heap.size < w2.heap.size ∧ w2.cell? ⟨A, 1, none⟩ = some (.slice (some ⟨B, 0, none⟩) t.mid.n cs') ∧ A < w2.heap.size ∧ t.give < t.mid.n ∧ t.mid.n ≤ 65537 ∧
      (∀ W', Grown (((w2.setCell ⟨B, t.give * 3, none⟩ (.bool true)).setCell ⟨B, t.give * 3 + 1, none⟩ (.int .i64 v.1)).setCell ⟨B, t.give * 3 + 2, none⟩ (.int .i64 v.2)) W' → ArM W' A (some ⟨B, 0, none⟩) cs' pd cd (t.put v) ∧ Out (foot A ps pd) w W' ∧ ((some ⟨B, 0, none⟩ : Option Addr) = ps ∨ ∃ k, (some ⟨B, 0, none⟩ : Option Addr) = some ⟨k, 0, none⟩ ∧ w.heap.size ≤ k)) := by
  have hg := give_lt hw
  obtain ⟨B, rfl, hB, hc, hf, hle⟩ := h2.slots.opens (by omega)
  have e0 := hc (t.give * 3) (by omega)
  have e1 := hc (t.give * 3 + 1) (by omega)
  have e2 := hc (t.give * 3 + 2) (by omega)
  rw [slotC0] at e0
  rw [slotC1] at e1
  rw [slotC2] at e2
  have hs : w.heap.size < W.heap.size := by have := hW.2.2; rw [nblk_alloc] at this; omega
  have hb : w2.heap[w.heap.size]? = some (.cells #[.int .i64 v.1, .int .i64 v.2] 30 (0, 0)) := by
    rw [ho.block _ hs (fun hx => Nat.lt_irrefl _ (h.foot_lt hx)), grown_block hW (by rw [nblk_alloc]; omega), blk_alloc_new]
  have ow : Out (foot A ps pd) w w2 := Out.after (grownTrans ((Grown.refl _).alloc _ _) hW) ho
  have hp' : (some ⟨B, 0, none⟩ : Option Addr) = ps ∨ ∃ k, (some ⟨B, 0, none⟩ : Option Addr) = some ⟨k, 0, none⟩ ∧ w.heap.size ≤ k := by
    rcases hp with e | ⟨k, e, hk⟩
    · exact Or.inl e
    · exact Or.inr ⟨k, e, by omega⟩
  have ob : Out (· = B) w2 (((w2.setCell ⟨B, t.give * 3, none⟩ (.bool true)).setCell ⟨B, t.give * 3 + 1, none⟩ (.int .i64 v.1)).setCell ⟨B, t.give * 3 + 2, none⟩ (.int .i64 v.2)) :=
    (((Out.refl (fun x => x = B) w2).setCell (a := ⟨B, t.give * 3, none⟩) rfl _).setCell (a := ⟨B, t.give * 3 + 1, none⟩) rfl _).setCell (a := ⟨B, t.give * 3 + 2, none⟩) rfl _
  refine ⟨B, _, _, _, rfl, hB, e0, e1, e2, hf, by simp only [World.cell?, hb]; rfl, by simp only [World.cell?, hb]; rfl, Nat.lt_of_lt_of_le hs ho.size, h2.cell1, h2.lt, hg, hn, fun W' g => ⟨(h2.putSlot v).grown g, (ow.trans ob fun i hi => ?_).more g, hp'⟩⟩
  subst hi
  rcases hp' with e | ⟨k, e, hk⟩
  · exact Or.inl (Or.inr (Or.inl e.symm))
  · cases e; exact Or.inr hk
theorem put_room (h : ArM w A ps cs pd cd t) (hw : t.Wf) (hf : t.len < t.m) (v : Int × Int) :
    Calls Try.prog 11 #[ptr A, nodeV v] w fun e w' => e = .returned (.tuple #[.int .i64 (t.give : Int), .int .i64 0]) ∧ ∃ ps' cs', ArM w' A ps' cs' pd cd (t.put v) ∧ Out (foot A ps pd) w w' ∧ (ps' = ps ∨ ∃ k, ps' = some ⟨k, 0, none⟩ ∧ w.heap.size ≤ k) := by
  have hl := fun W (g : Grown w W) => len_m (h.grown g) hw
  have hg := fun W (g : Grown w W) => give_m (h.grown g) hw
  have hn : t.mid.n ≤ 65537 := by have := (As.put_wf (v := v) hw hf).top; have := hw.cap; show (t.put v).n ≤ 65537; have : (t.put v).m = t.m := rfl; omega
  have c0 := h.cell0
  have hA := h.lt
  have d1 : decide ((t.m : Int) ≤ (t.len : Int)) = false := by rw [decide_eq_false_iff_not]; omega
  have HG : Hid (∀ (W w2 : World) (ps' : Option Addr) (cs' : Nat), _ → _ → _ → _ → _) := fun W w2 ps' cs' hW h2 ho hp => ArM.given (W := W) (w2 := w2) (ps' := ps') (cs' := cs') hw hn h v hW h2 ho hp
  obtain ⟨L, hL⟩ : ∃ L : Int, L = (t.len : Int) := ⟨_, rfl⟩
  obtain ⟨M, hM⟩ : ∃ M : Int, M = (t.m : Int) := ⟨_, rfl⟩
  obtain ⟨G, hG⟩ : ∃ G : Nat, G = t.give := ⟨_, rfl⟩
  obtain ⟨tm, htm⟩ : ∃ tm, tm = t.mid := ⟨_, rfl⟩
  obtain ⟨tp, htp⟩ : ∃ tp, tp = t.put v := ⟨_, rfl⟩
  simp only [← hL] at hl d1
  simp only [← hM] at c0 d1
  simp only [← hG, ← htm] at hg
  simp only [← hG, ← htm, ← htp] at HG
  rw [← hG, ← htp]
  clear hL hM hG htm htp h hn
  unfold ptr nodeV at *
  go_enter Try.func11, Try.ntmps11
  go_wp2
  go_quiet (first | (go_at_call 19; exact Calls.quiet_of (hl _ (grownDrewN ((Grown.refl _).alloc _ _) _))))
  go_wp2_with (first | (go_at_call 23; refine (hg _ (grownDrewN ((Grown.refl _).alloc _ _) _)).mono ?_; rintro e w2 ⟨rfl, ps', cs', h2, ho, hp⟩; obtain ⟨B, x, y, z, rfl, hB, e0, e1, e2, e3, e4, e5, e6, e7, e8, e9, e10, hr⟩ := HG.out _ _ _ _ (grownDrewN (Grown.refl _) _) h2 ho hp; have HR : Hid (∀ W', _ → _) := hr; clear hr h2 ho hp HG hg hl))
  go_region
  all_goals (try go_wp2)
  all_goals go_ret2
  all_goals exact ⟨rfl, _, _, HR.out _ (Grown.refl _).drew⟩

/-- How many an arena may hold. -/
def mostI (most : Int) : Nat := (min (max most 0) 65536).toNat
theorem mostI_le (most : Int) : mostI most ≤ 65536 := by unfold mostI; omega
theorem make_slot (w : World) : (Instr.makeSlice 52 (.int .i64 1) (.int .i64 1)).run Try.prog w = .ok (.slice (some ⟨w.heap.size, 0, none⟩) 1 1) (w.alloc (.cells #[.bool false, .int .i64 0, .int .i64 0] 56)) := by kernel_rfl
theorem ArM.start (w : World) (m : Nat) : ArM ((w.alloc (.cells #[.bool false, .int .i64 0, .int .i64 0] 56)).alloc (.cells #[.int .i64 (m : Int), .slice (some ⟨w.heap.size, 0, none⟩) 1 1, .slice none 0 0] 54)) (w.heap.size + 1) (some ⟨w.heap.size, 0, none⟩) 1 none 0 (As.zero m) := by
  refine ⟨?_, (Vec.laid w _ _ 1 3 (by decide) rfl _ fun j hj => ?_).grown ((Grown.refl _).alloc _ _), Vec.nil _ _ _ _, fun h => ?_, In.no, fun _ _ => In.no⟩
  · have := blk_alloc_new (w.alloc (.cells #[.bool false, .int .i64 0, .int .i64 0] 56)) (.cells #[.int .i64 (m : Int), .slice (some ⟨w.heap.size, 0, none⟩) 1 1, .slice none 0 0] 54)
    rw [nblk_alloc] at this
    exact this
  · have h3 : j = 0 ∨ j = 1 ∨ j = 2 := by omega
    rcases h3 with rfl | rfl | rfl <;> rfl
  · have := h.eq; omega
theorem foot_start {w : World} : ∀ k, foot (w.heap.size + 1) (some ⟨w.heap.size, 0, none⟩) none k → w.heap.size ≤ k := by
  intro k hk
  rcases hk with e | e | e
  · omega
  · have := e.eq; omega
  · exact absurd e In.no
theorem new_m (most : Int) (w : World) :
    Calls Try.prog 9 #[.int .i64 most] w fun e w' => ∃ A, e = .returned (ptr A) ∧ w.heap.size ≤ A ∧ Grown w w' ∧ ∃ ps cs pd cd, ArM w' A ps cs pd cd (As.zero (mostI most)) ∧ ∀ k, foot A ps pd k → w.heap.size ≤ k := by
  have h0 : ((mostI most : Nat) : Int) = min (max most 0) 65536 := by unfold mostI; omega
  have hs : Hid (∀ x : Int, x = ((mostI most : Nat) : Int) → ∃ A, Ending.returned (.pointer (some ⟨w.heap.size + 1, 0, none⟩)) = .returned (ptr A) ∧ w.heap.size ≤ A ∧ Grown w ((w.alloc (.cells #[.bool false, .int .i64 0, .int .i64 0] 56)).alloc (.cells #[.int .i64 x, .slice (some ⟨w.heap.size, 0, none⟩) 1 1, .slice none 0 0] 54)) ∧ ∃ ps cs pd cd, ArM ((w.alloc (.cells #[.bool false, .int .i64 0, .int .i64 0] 56)).alloc (.cells #[.int .i64 x, .slice (some ⟨w.heap.size, 0, none⟩) 1 1, .slice none 0 0] 54)) A ps cs pd cd (As.zero (mostI most)) ∧ ∀ k, foot A ps pd k → w.heap.size ≤ k) := fun x hx => by
    subst hx
    exact ⟨_, rfl, by omega, ((Grown.refl _).alloc _ _).alloc _ _, _, _, _, _, ArM.start w _, foot_start⟩
  have mk := make_slot
  have hc : most < 0 ∨ (0 ≤ most ∧ most ≤ 65536) ∨ (0 ≤ most ∧ 65536 < most) := by omega
  rcases hc with h | ⟨h, h'⟩ | ⟨h, h'⟩
  · have hx : Hid ((0 : Int) = ((mostI most : Nat) : Int)) := by show _ = _; omega
    clear h0
    go_enter Try.func9, Try.ntmps9
    go_wp2
    go_ret
    exact hs.out _ hx.out
  · have hx : Hid (most = ((mostI most : Nat) : Int)) := by show _ = _; omega
    clear h0
    go_enter Try.func9, Try.ntmps9
    go_wp2
    go_ret
    exact hs.out _ hx.out
  · have hx : Hid ((65536 : Int) = ((mostI most : Nat) : Int)) := by show _ = _; omega
    clear h0
    go_enter Try.func9, Try.ntmps9
    go_wp2
    go_ret
    exact hs.out _ hx.out
end Go.Proofs.Ytkjnpgpgcikhgaa
