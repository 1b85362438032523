/-
  What Put and Remove of package table do when they are called. No condition but those told at each sentence.
-/
import Derived.Test.YthjcdloaclailaaTbGrow
import Derived.Test.YthjcdloaclailaaTbMoveW
namespace Go.Proofs.Ythjcdloaclailaa.Tb
open Go.RowKit Go.Deep Us
variable {w w' : World} {t : Tab} {key : Int} {l : List Lk} {x : Lk} {r : List Lk} {e : En}

/-- Ahead of each Put and Remove. -/
def Tab.nxt (t : Tab) (v : Addr → Value) : Tab := { t with l := t.l - 1, val := v, c := if t.l = 0 then t.c else t.mvC }
theorem nxt_same (h0 : t.l = 0) : t.nxt t.val = t := by
  unfold Tab.nxt
  rw [if_pos h0]
  cases t
  simp_all
theorem nxt_mv (v : Addr → Value) (h0 : 0 < t.l) : t.nxt v = t.mv v := by
  unfold Tab.nxt Tab.mv
  rw [if_neg (by omega)]
theorem move_t (h : Tb w t) : Calls Try.prog 31 #[ptr t.X] w fun e w' => e = .returned (.tuple #[]) ∧ ∃ v, Tb w' (t.nxt v) ∧ Out t.F w w' := by
  by_cases h0 : t.l = 0
  · refine (move_no h h0).mono ?_
    rintro e w' ⟨rfl, rfl⟩
    exact ⟨rfl, t.val, by rw [nxt_same h0]; exact h, Out.refl _ _⟩
  · refine (move_yes h (by omega)).mono ?_
    rintro e w' ⟨rfl, v, h1, h2⟩
    exact ⟨rfl, v, by rw [nxt_mv v (by omega)]; exact h1, h2⟩
/-- An entry stored over the one in a link. -/
theorem wpList_store_lk {ops : Array Oper} {rest : List Oper} {o : Oper} {a : Act} {w : World} {Q : Exit → Act → World → Prop} (hgd : o.guard = none) (hd : o.dst = none) (x y : Operand) (ho : o.op = .store 30 x y)
    (b : Nat) {d n k s d' n' k' s' : Int} {v : Value} (hx : a.eval x = .pointer (some ⟨b, 0, none⟩)) (hy : a.eval y = .agg #[.int .i64 d, .int .i64 n, .int .i64 k, .int .i64 s]) (h : w.heap[b]? = some (.cells #[.int .i64 d', .int .i64 n', .int .i64 k', .int .i64 s', v] 59 (0, 0)))
    (hn : ∀ W, W.heap[b]? = some (.cells #[.int .i64 d, .int .i64 n, .int .i64 k, .int .i64 s, v] 59 (0, 0)) → Out (· = b) w W → wpList Try.prog ops Q rest a W) : wpList Try.prog ops Q (o :: rest) a w := by
  refine wpList_store_mid hgd 30 x y ho b 0 _ hx hy ?_ sizeEn (by simp [Value.oneCell']) ?_
  · intro j hj
    rw [Nat.zero_add]
    have hj : j < 4 := hj
    refine ⟨?_, fr0 h j⟩
    rcases j with _ | _ | _ | _ | j
    · rw [cell_of h rfl]; rfl
    · rw [cell_of h rfl]; rfl
    · rw [cell_of h rfl]; rfl
    · rw [cell_of h rfl]; rfl
    · omega
  · rw [hd]
    refine hn _ ?_ ?_
    · have h1 := blk_set (blk_set (blk_set (blk_set h 0 (.int .i64 d)) 1 (.int .i64 n)) 2 (.int .i64 k)) 3 (.int .i64 s)
      exact h1
    · exact ((((Out.refl (· = b) w).setCell (a := ⟨b, 0, none⟩) rfl _).setCell (a := ⟨b, 1, none⟩) rfl _).setCell (a := ⟨b, 2, none⟩) rfl _).setCell (a := ⟨b, 3, none⟩) rfl _
theorem rep_len {W : World} {X B : Nat} {s : Int} {n k : Nat} {D : List Lk} {L : Nat} {val : Addr → Value} (h : Mem W X B s n k D.length (D.map (Tb.rep L e)) val) : Mem W X B s n k (D.map (Tb.rep L e)).length (D.map (Tb.rep L e)) val := by
  rw [List.length_map]; exact h
theorem rep_foot {v : Addr → Value} {L k : Nat} (h : ((t.nxt v).rep L e).F k) : t.F k := by
  rcases h with h | h | ⟨y, hy, rfl⟩
  · exact .inl h
  · exact .inr (.inl h)
  · obtain ⟨z, hz, rfl⟩ := List.mem_map.1 (show y ∈ t.D.map (Tb.rep L e) from hy)
    rw [rep_fst]
    exact .inr (.inr ⟨z, hz, rfl⟩)
theorem seek_yes (h : Tb w t) (hx : x ∈ t.D) (hk : x.2.k = key) : ∃ (Ab Ao : Nat) (z : Option Addr), Hid ((⟨Ab, Ao, none⟩ : Addr) = t.a key) ∧ (Calls Try.prog 32 #[.pointer (some ⟨t.X, 0, none⟩), .int .i64 key] w fun e w' => e = .returned (.pointer (some ⟨Ab, Ao, none⟩)) ∧ ∃ k, w' = w.drewN k) ∧
    w.cell? ⟨Ab, Ao, none⟩ = some (.pointer (some ⟨x.1, 0, none⟩)) ∧ w.frozen? ⟨Ab, Ao, none⟩ = false ∧ Ab < w.heap.size ∧ w.heap[x.1]? = some (.cells #[.int .i64 x.2.k, .int .i64 x.2.a, .int .i64 x.2.x, .int .i64 x.2.n, .pointer z] 59 (0, 0)) ∧ Hid (Value.pointer z = t.val ⟨x.1, 4, none⟩) := by
  obtain ⟨r, hr⟩ := h.sh.rst_yes hx hk
  obtain ⟨Ab, Ao, hA⟩ := Shape.a_form t key
  have hv := h.sh.val_a key
  rw [hr] at hv
  obtain ⟨h1, h2, h3⟩ := h.mem.cell (h.sh.at_a key)
  rw [hv] at h1
  have hf := find_t h key
  change Calls Try.prog 32 #[ptr t.X, .int .i64 key] w fun e w' => e = .returned (.pointer (some (t.a key))) ∧ ∃ k, w' = w.drewN k at hf
  rw [← hA] at h1 h2 h3 hf
  obtain ⟨z, hz⟩ : ∃ z : Option Addr, Value.pointer z = t.val ⟨x.1, 4, none⟩ := by
    have hl : Linked t.val ⟨t.B, t.pl key, none⟩ (t.ch key) := h.sh.link _ (h.sh.pl_lt key)
    rw [← ahd_rst key (t.ch key), hr, linked_app] at hl
    rw [linked_first hl.2.2]
    cases r with
    | nil => exact ⟨none, rfl⟩
    | cons y q => exact ⟨_, rfl⟩
  have hL := h.mem.lnk x hx
  rw [← hz] at hL
  exact ⟨Ab, Ao, z, hA, hf, h1, h2, h3, hL, hz⟩
theorem seek_no (h : Tb w t) (hx : ∀ x ∈ t.D, x.2.k ≠ key) : ∃ Ab Ao, Hid ((⟨Ab, Ao, none⟩ : Addr) = t.a key) ∧ (Calls Try.prog 32 #[.pointer (some ⟨t.X, 0, none⟩), .int .i64 key] w fun e w' => e = .returned (.pointer (some ⟨Ab, Ao, none⟩)) ∧ ∃ k, w' = w.drewN k) ∧
    w.cell? ⟨Ab, Ao, none⟩ = some (.pointer none) ∧ w.frozen? ⟨Ab, Ao, none⟩ = false ∧ Ab < w.heap.size ∧ t.X ≠ Ab := by
  have hr := h.sh.rst_nil hx
  obtain ⟨Ab, Ao, hA⟩ := Shape.a_form t key
  have hv := h.sh.val_a key
  rw [hr] at hv
  obtain ⟨h1, h2, h3⟩ := h.mem.cell (h.sh.at_a key)
  rw [hv] at h1
  have hf := find_t h key
  change Calls Try.prog 32 #[ptr t.X, .int .i64 key] w fun e w' => e = .returned (.pointer (some (t.a key))) ∧ ∃ k, w' = w.drewN k at hf
  have h4 : t.X ≠ (t.a key).block := by
    rcases h.sh.at_a key with ⟨j, _, q⟩ | ⟨y, hy, q⟩
    · rw [q]; exact h.mem.xb
    · rw [q]; exact fun q2 => (h.mem.sep y hy).1 q2.symm
  rw [← hA] at h1 h2 h3 h4 hf
  exact ⟨Ab, Ao, hA, hf, h1, h2, h3, h4⟩
set_option maxRecDepth 4000 in
set_option maxHeartbeats 1000000 in
theorem put_yes (h : Tb w t) (hx' : x ∈ t.D) (hk' : x.2.k = e.k) : Calls Try.prog 12 #[ptr t.X, e.v] w fun o w' => o = .returned (.tuple #[x.2.v, .bool true]) ∧ ∃ v, Tb w' ((t.nxt v).rep x.1 e) ∧ Out t.F w w' := by
  have mv : Hid (∀ W, Grown w W → Calls Try.prog 31 #[ptr t.X] W fun e w' => e = .returned (.tuple #[]) ∧ ∃ v, Tb w' (t.nxt v) ∧ Out t.F W w') := fun W g => move_t (h.grown g)
  have hx : Hid (x ∈ t.D) := hx'
  have hk : Hid (x.2.k = e.k) := hk'
  have flt : Hid (∀ k, t.F k → k < w.heap.size) := fun k hk => h.lt hk
  have hE : Hid (((w.alloc (.cells #[.int .i64 e.k, .int .i64 e.a, .int .i64 e.x, .int .i64 e.n] 30)).alloc (.cells #[.int .i64 0, .int .i64 0, .int .i64 0, .int .i64 0] 30)).heap[w.heap.size]? = some (.cells #[.int .i64 e.k, .int .i64 e.a, .int .i64 e.x, .int .i64 e.n] 30 (0, 0))) := heap2_old _ _ _
  have hR : Hid (((w.alloc (.cells #[.int .i64 e.k, .int .i64 e.a, .int .i64 e.x, .int .i64 e.n] 30)).alloc (.cells #[.int .i64 0, .int .i64 0, .int .i64 0, .int .i64 0] 30)).heap[w.heap.size + 1]? = some (.cells #[.int .i64 0, .int .i64 0, .int .i64 0, .int .i64 0] 30 (0, 0))) := heap2_new _ _ _
  have g0 : Hid (Grown w ((w.alloc (.cells #[.int .i64 e.k, .int .i64 e.a, .int .i64 e.x, .int .i64 e.n] 30)).alloc (.cells #[.int .i64 0, .int .i64 0, .int .i64 0, .int .i64 0] 30))) := ((Grown.refl _).alloc _ _).alloc _ _
  clear h hx' hk'
  unfold ptr En.v at *
  go_enter Try.func12, Try.ntmps12
  go_wp2_with (first | (go_at_call 31; refine (mv.out _ g0.out).mono ?_; generalize (w.alloc (.cells #[.int .i64 e.k, .int .i64 e.a, .int .i64 e.x, .int .i64 e.n] 30)).alloc (.cells #[.int .i64 0, .int .i64 0, .int .i64 0, .int .i64 0] 30) = W1 at hE hR g0 ⊢; rintro e1 W2 ⟨rfl, v, T2, O2⟩; have hE2 := (O2.block _ (lt_of hE.out) (fun q => Nat.lt_irrefl _ (flt.out _ q))).trans hE.out; have hR2 := (O2.block _ (lt_of hR.out) (fun q => by have := flt.out _ q; omega)).trans hR.out; have O2 : Hid (Out t.F w W2) := Out.after g0.out O2; obtain ⟨Ab, Ao, z, hA, fd, cA, _, lA, hL2, hz⟩ := seek_yes T2 hx.out hk.out; have T2 : Hid (Tb W2 (t.nxt v)) := T2; change Calls Try.prog 32 #[.pointer (some ⟨t.X, 0, none⟩), .int .i64 e.k] W2 _ at fd; have k0 := cell_of hE2 (k := 0) rfl; have lE := lt_of hE2; have lR := lt_of hR2; have lL := lt_of hL2) | (go_at_call 32; refine fd.mono ?_; rintro e1 w' ⟨rfl, k, rfl⟩; have T3 : Hid (Tb (W2.drewN k) (t.nxt v)) := T2.out.drewN k; have O3 : Hid (Out t.F w (W2.drewN k)) := O2.out.drewN k; change (W2.drewN k).heap[_]? = _ at hE2 hR2 hL2; change (W2.drewN k).cell? _ = _ at cA k0; change _ < (W2.drewN k).heap.size at lA lE lR lL; clear T2 O2 fd; generalize W2.drewN k = W3 at T3 O3 hE2 hR2 hL2 cA k0 lA lE lR lL ⊢) | (refine wpList_load_lk rfl (.tmp 22) rfl x.1 rfl hL2 ?_; have hE4 := (blk_alloc_lt W3 (.cells #[.int .i64 x.2.k, .int .i64 x.2.a, .int .i64 x.2.x, .int .i64 x.2.n] 30) _ lE).trans hE2; have hR4 := (blk_alloc_lt W3 (.cells #[.int .i64 x.2.k, .int .i64 x.2.a, .int .i64 x.2.x, .int .i64 x.2.n] 30) _ lR).trans hR2; have hL4 := (blk_alloc_lt W3 (.cells #[.int .i64 x.2.k, .int .i64 x.2.a, .int .i64 x.2.x, .int .i64 x.2.n] 30) _ lL).trans hL2; have hS4 := blk_alloc_new W3 (.cells #[.int .i64 x.2.k, .int .i64 x.2.a, .int .i64 x.2.x, .int .i64 x.2.n] 30); have T4 : Hid (Tb (W3.alloc (.cells #[.int .i64 x.2.k, .int .i64 x.2.a, .int .i64 x.2.x, .int .i64 x.2.n] 30)) (t.nxt v)) := T3.out.grown ((Grown.refl _).alloc _ _); have O4 : Hid (Out t.F w (W3.alloc (.cells #[.int .i64 x.2.k, .int .i64 x.2.a, .int .i64 x.2.x, .int .i64 x.2.n] 30))) := O3.out.alloc _ _) | (refine wpList_load_en rfl (.tmp 3) rfl w.heap.size rfl hE4 ?_) | (refine wpList_store_lk rfl rfl (.tmp 27) (.tmp 25) rfl x.1 rfl rfl hL4 ?_; generalize W3.alloc (.cells #[.int .i64 x.2.k, .int .i64 x.2.a, .int .i64 x.2.x, .int .i64 x.2.n] 30) = W4 at hE4 hR4 hL4 hS4 T4 O4 ⊢; intro W5 hL5 o5; have lx0 : x.1 < w.heap.size := flt.out _ (.inr (.inr ⟨x, hx.out, rfl⟩)); have lS : w.heap.size ≤ W3.heap.size := Nat.le_of_lt lE; have hR5 := (o5.block _ (lt_of hR4) (by omega)).trans hR4; have hS5 := (o5.block _ (lt_of hS4) (by omega)).trans hS4; have T5 : Hid (Tb W5 ((t.nxt v).rep x.1 e)) := ⟨T4.out.mem.rep hx.out e (by rw [← hz.out]; exact hL5) o5 |> rep_len, T4.out.sh.rep T4.out.mem.nd hx.out hk.out.symm⟩; have O5 : Hid (Out t.F w W5) := O4.out.trans (o5.wide (G := t.F) fun i _ q => by rw [q]; exact .inr (.inr ⟨x, hx.out, rfl⟩)) fun _ => Or.inl; clear hE4 hR4 hL4 hS4 T4 O4 o5 hL5; have lR5 := lt_of hR5) | (refine wpList_load_en rfl (.tmp 8) rfl W3.heap.size rfl hS5 ?_) | (refine wpList_store_en rfl rfl (.tmp 4) (.tmp 28) rfl (w.heap.size + 1) rfl rfl hR5 rfl ?_; intro W6 hR6 o6; have T6 : Hid (Tb W6 ((t.nxt v).rep x.1 e)) := T5.out.out o6 (fun i hi q => by have := flt.out i (rep_foot hi); omega); have O6 : Hid (Out t.F w W6) := O5.out.trans o6 fun i q => .inr (by omega); clear hR5 hS5 T5 O5 o6))
  exact bodyPost_ret (results_row_tmp Try.results12 _ _ (w.heap.size + 1) 30 _ (0, 0) _ rfl hR6 Try.underlying30 rfl sizeEn) rfl ⟨rfl, v, T6.out, O6.out⟩
theorem add_foot {v : Addr → Value} {L k : Nat} (h : ((t.nxt v).add L e).F k) : t.F k ∨ k = L := by
  rcases h with h | h | ⟨y, hy, rfl⟩
  · exact .inl (.inl h)
  · exact .inl (.inr (.inl h))
  · rcases List.mem_append.1 (show y ∈ t.D ++ [(L, e)] from hy) with hy | hy
    · exact .inl (.inr (.inr ⟨y, hy, rfl⟩))
    · rw [List.mem_singleton.1 hy]; exact .inr rfl
theorem grow_t (h : Tb w t) : Calls Try.prog 33 #[.pointer (some ⟨t.X, 0, none⟩)] w fun o w' => o = .returned (.tuple #[]) ∧ ∃ t', Tb w' t' ∧ Out t.F w w' ∧ ((t.l = 0 ∧ t.n < t.D.length ∧ t.n < 65536 ∧ t' = t.grw w.heap.size) ∨ (¬ (t.l = 0 ∧ t.n < t.D.length ∧ t.n < 65536) ∧ t' = t)) := by
  by_cases q : t.l = 0 ∧ t.n < t.D.length ∧ t.n < 65536
  · refine (grow_yes h q.1 q.2.1 q.2.2).mono ?_
    rintro o w' ⟨rfl, h1, h2⟩
    exact ⟨rfl, _, h1, h2, .inl ⟨q.1, q.2.1, q.2.2, rfl⟩⟩
  · refine (grow_no h (by omega)).mono ?_
    rintro o w' ⟨rfl, rfl⟩
    exact ⟨rfl, t, h, Out.refl _ _, .inr ⟨q, rfl⟩⟩
theorem add_world (h : Tb w t) (he : ∀ x ∈ t.D, x.2.k ≠ e.k) : Tb (((w.setCell (t.a e.k) (.pointer (some ⟨w.heap.size, 0, none⟩))).setCell ⟨t.X, 3, none⟩ (.int .i64 ((t.D.length : Int) + 1))).alloc (.cells (lnkC e (.pointer none)) 59)) (t.add w.heap.size e) := by
  have hlt : ∀ y ∈ t.D, y.1 < w.heap.size := fun y hy => lt_of (h.mem.lnk y hy)
  have lB := h.mem.lt (.inr (.inl rfl))
  refine ⟨?_, h.sh.add h.mem.nd (fun y hy => (h.mem.sep y hy).2) (fun y hy q => by have := hlt y hy; omega) (by omega) he⟩
  have h1 := ((h.mem.set (h.sh.at_a e.k) (.pointer (some ⟨w.heap.size, 0, none⟩))).setM (t.D.length + 1)).add e (.pointer none)
  rw [nblk_setCell, nblk_setCell] at h1
  have e1 : (t.add w.heap.size e).D.length = t.D.length + 1 := by show (t.D ++ [_]).length = _; simp
  rw [e1]
  exact h1
/-- What becomes of a table when an entry came. -/
def Came (t : Tab) (e : En) (t' : Tab) : Prop := ∃ v L, (((t.nxt v).add L e).l = 0 ∧ t.n < t.D.length + 1 ∧ t.n < 65536 ∧ ∃ B', t' = ((t.nxt v).add L e).grw B') ∨ (¬ (((t.nxt v).add L e).l = 0 ∧ t.n < t.D.length + 1 ∧ t.n < 65536) ∧ t' = (t.nxt v).add L e)
set_option maxRecDepth 4000 in
set_option maxHeartbeats 1000000 in
theorem put_no (h : Tb w t) (hx' : ∀ x ∈ t.D, x.2.k ≠ e.k) (hm' : t.D.length ≤ 1000000) : Calls Try.prog 12 #[ptr t.X, e.v] w fun o w' => o = .returned (.tuple #[e0.v, .bool false]) ∧ ∃ t', Tb w' t' ∧ Out t.F w w' ∧ (∀ k, t'.F k → t.F k ∨ w.heap.size ≤ k) ∧ Came t e t' := by
  have mv : Hid (∀ W, Grown w W → Calls Try.prog 31 #[ptr t.X] W fun e w' => e = .returned (.tuple #[]) ∧ ∃ v, Tb w' (t.nxt v) ∧ Out t.F W w') := fun W g => move_t (h.grown g)
  have hx : Hid (∀ x ∈ t.D, x.2.k ≠ e.k) := hx'
  obtain ⟨m, hm1⟩ : ∃ m, Hid (m = t.D.length) := ⟨_, rfl⟩
  have hm : m ≤ 1000000 := by rw [hm1.out]; exact hm'
  have flt : Hid (∀ k, t.F k → k < w.heap.size) := fun k hk => h.lt hk
  have hE : Hid (((w.alloc (.cells #[.int .i64 e.k, .int .i64 e.a, .int .i64 e.x, .int .i64 e.n] 30)).alloc (.cells #[.int .i64 0, .int .i64 0, .int .i64 0, .int .i64 0] 30)).heap[w.heap.size]? = some (.cells #[.int .i64 e.k, .int .i64 e.a, .int .i64 e.x, .int .i64 e.n] 30 (0, 0))) := heap2_old _ _ _
  have hR : Hid (((w.alloc (.cells #[.int .i64 e.k, .int .i64 e.a, .int .i64 e.x, .int .i64 e.n] 30)).alloc (.cells #[.int .i64 0, .int .i64 0, .int .i64 0, .int .i64 0] 30)).heap[w.heap.size + 1]? = some (.cells #[.int .i64 0, .int .i64 0, .int .i64 0, .int .i64 0] 30 (0, 0))) := heap2_new _ _ _
  have g0 : Hid (Grown w ((w.alloc (.cells #[.int .i64 e.k, .int .i64 e.a, .int .i64 e.x, .int .i64 e.n] 30)).alloc (.cells #[.int .i64 0, .int .i64 0, .int .i64 0, .int .i64 0] 30))) := ((Grown.refl _).alloc _ _).alloc _ _
  clear h hx' hm'
  unfold ptr En.v at *
  go_enter Try.func12, Try.ntmps12
  go_wp2_with (first | (go_at_call 31; refine (mv.out _ g0.out).mono ?_; generalize (w.alloc (.cells #[.int .i64 e.k, .int .i64 e.a, .int .i64 e.x, .int .i64 e.n] 30)).alloc (.cells #[.int .i64 0, .int .i64 0, .int .i64 0, .int .i64 0] 30) = W1 at hE hR g0 ⊢; rintro e1 W2 ⟨rfl, v, T2, O2⟩; have hE2 := (O2.block _ (lt_of hE.out) (fun q => Nat.lt_irrefl _ (flt.out _ q))).trans hE.out; have hR2 := (O2.block _ (lt_of hR.out) (fun q => by have := flt.out _ q; omega)).trans hR.out; have O2 : Hid (Out t.F w W2) := Out.after g0.out O2; obtain ⟨Ab, Ao, hA, fd, cA, fA, lA, nX⟩ := seek_no T2 hx.out; change t.X ≠ Ab at nX; have nX2 : Ab ≠ t.X := fun q => nX q.symm; have c3 : W2.cell? ⟨t.X, 3, none⟩ = some (.int .i64 (t.D.length : Int)) := T2.mem.head.cells.2.2.2; rw [← hm1.out] at c3; have f3 : W2.frozen? ⟨t.X, 3, none⟩ = false := fr0 T2.mem.head 3; have lX : t.X < W2.heap.size := T2.mem.lt (.inl rfl); have T2 : Hid (Tb W2 (t.nxt v)) := T2; change Calls Try.prog 32 #[.pointer (some ⟨t.X, 0, none⟩), .int .i64 e.k] W2 _ at fd; have k0 := cell_of hE2 (k := 0) rfl; have lE := lt_of hE2; have lR := lt_of hR2) | (go_at_call 32; refine fd.mono ?_; rintro e1 w' ⟨rfl, k, rfl⟩; have T3 : Hid (Tb (W2.drewN k) (t.nxt v)) := T2.out.drewN k; have O3 : Hid (Out t.F w (W2.drewN k)) := O2.out.drewN k; change (W2.drewN k).heap[_]? = _ at hE2 hR2; change (W2.drewN k).cell? _ = _ at cA k0 c3; change (W2.drewN k).frozen? _ = _ at fA f3; change _ < (W2.drewN k).heap.size at lA lE lR lX; clear T2 O2 fd; generalize W2.drewN k = W3 at T3 O3 hE2 hR2 cA k0 fA c3 f3 lA lE lR lX ⊢) | (refine wpList_load_en rfl (.tmp 3) rfl w.heap.size rfl hE2 ?_) | (go_at_call 33; have T4 := add_world T3.out hx.out; change Tb (((W3.setCell ((t.nxt v).a e.k) (.pointer (some ⟨W3.heap.size, 0, none⟩))).setCell ⟨t.X, 3, none⟩ (.int .i64 ((t.D.length : Int) + 1))).alloc (.cells #[.int .i64 e.k, .int .i64 e.a, .int .i64 e.x, .int .i64 e.n, .pointer none] 59)) ((t.nxt v).add W3.heap.size e) at T4; rw [← hA.out, ← hm1.out] at T4; refine (grow_t T4).mono ?_; clear T4; have O4 := ((Mem.outW (B := t.B) (X := t.X) (D := t.D) (n := t.n) O3.out (a := ⟨Ab, Ao, none⟩) (by rw [hA.out]; exact T3.out.sh.at_a e.k) (.pointer (some ⟨W3.heap.size, 0, none⟩))).setCell (a := ⟨t.X, 3, none⟩) (.inl rfl) (.int .i64 ((m : Int) + 1))).alloc #[.int .i64 e.k, .int .i64 e.a, .int .i64 e.x, .int .i64 e.n, .pointer none] 59; have hR4 : (((W3.setCell ⟨Ab, Ao, none⟩ (.pointer (some ⟨W3.heap.size, 0, none⟩))).setCell ⟨t.X, 3, none⟩ (.int .i64 ((m : Int) + 1))).alloc (.cells #[.int .i64 e.k, .int .i64 e.a, .int .i64 e.x, .int .i64 e.n, .pointer none] 59)).heap[w.heap.size + 1]? = _ := ((blk_alloc_lt _ _ _ (by rw [nblk_setCell, nblk_setCell]; exact lR)).trans ((blk_setCell_other _ _ _ _ (by have := flt.out t.X (.inl rfl); show w.heap.size + 1 ≠ t.X; omega)).trans (blk_setCell_other _ _ _ _ (by have := flt.out Ab (by have := Mem.foot_at (X := t.X) (T3.out.sh.at_a e.k); rw [← hA.out] at this; exact this); show w.heap.size + 1 ≠ Ab; omega)))).trans hR2; generalize (((W3.setCell ⟨Ab, Ao, none⟩ (.pointer (some ⟨W3.heap.size, 0, none⟩))).setCell ⟨t.X, 3, none⟩ (.int .i64 ((m : Int) + 1))).alloc (.cells #[.int .i64 e.k, .int .i64 e.a, .int .i64 e.x, .int .i64 e.n, .pointer none] 59)) = W4 at O4 hR4 ⊢; rintro o5 W5 ⟨rfl, t', T5, O5, hc5⟩; have hR5 := (O5.block _ (lt_of hR4) (fun q => (add_foot q).elim (fun q => by have := flt.out _ q; omega) (fun q => by omega))).trans hR4; have O6 : Hid (Out t.F w W5) := O4.trans O5 (fun i q => (add_foot q).elim Or.inl fun q => .inr (by omega)); have T6 : Hid (Tb W5 t') := T5; have lR6 := lt_of hR5; have s4 : w.heap.size + 1 < W4.heap.size := lt_of hR4; have hc6 : Hid (_ ∨ _) := hc5; clear hR4 O4 O5 T5 hc5) | (refine wpList_store_en rfl rfl (.tmp 4) (.tmp 43) rfl (w.heap.size + 1) rfl rfl hR5 rfl ?_; intro W6 hR6 o6))
  have ff : ∀ k, t'.F k → t.F k ∨ k = W3.heap.size ∨ k = W4.heap.size := fun k hk => by
    rcases hc6.out with ⟨_, _, _, rfl⟩ | ⟨_, rfl⟩
    · rcases hk with q | q | q
      · exact .inl (.inl q)
      · exact .inr (.inr q)
      · rcases add_foot (k := k) (.inr (.inr q)) with q | q
        · exact .inl q
        · exact .inr (.inl q)
    · rcases add_foot hk with q | q
      · exact .inl q
      · exact .inr (.inl q)
  have hne : ∀ k, t'.F k → k ≠ w.heap.size + 1 := fun k hk => by
    rcases ff k hk with q | q | q
    · have := flt.out k q; omega
    · omega
    · omega
  refine bodyPost_ret (results_row_tmp Try.results12 _ _ (w.heap.size + 1) 30 _ (0, 0) _ rfl hR6 Try.underlying30 rfl sizeEn) rfl ⟨rfl, t', T6.out.out o6 hne, O6.out.trans o6 fun i q => .inr (by omega), fun k hk => ?_, v, W3.heap.size, ?_⟩
  · rcases ff k hk with q | q | q
    · exact .inl q
    · exact .inr (by omega)
    · exact .inr (by omega)
  · have := hc6.out
    simp only [show ((t.nxt v).add W3.heap.size e).D.length = t.D.length + 1 by show (t.D ++ [_]).length = _; simp, show ((t.nxt v).add W3.heap.size e).n = t.n from rfl] at this
    rcases this with ⟨q1, q2, q3, q4⟩ | q
    · exact .inl ⟨q1, q2, q3, _, q4⟩
    · exact .inr q
end Go.Proofs.Ythjcdloaclailaa.Tb
