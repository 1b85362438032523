/-
  What Remove of package table does when it is called. No condition but those told at each sentence.
-/
import Derived.Test.YthjcdloaclailaaTbPut
namespace Go.Proofs.Ythjcdloaclailaa.Tb
open Go.RowKit Go.Deep Us
variable {w w' : World} {t : Tab} {key : Int} {l : List Lk} {x : Lk} {r : List Lk} {e : En}

theorem del_len {key : Int} : ∀ {D : List Lk}, (D.map (·.2.k)).Nodup → ∀ x ∈ D, x.2.k = key → (D.filter fun y => decide (y.2.k ≠ key)).length + 1 = D.length
  | [], _, x, hx, _ => by cases hx
  | y :: D, hn, x, hx, hk => by
    simp only [List.map_cons, List.nodup_cons] at hn
    rw [List.filter_cons]
    by_cases e : y.2.k = key
    · rw [if_neg (by simpa using e)]
      have : D.filter (fun y => decide (y.2.k ≠ key)) = D := List.filter_eq_self.2 fun z hz => by
        simp only [ne_eq, decide_eq_true_eq]
        intro q
        exact hn.1 (by rw [e, ← q]; exact List.mem_map.2 ⟨z, hz, rfl⟩)
      rw [this]; rfl
    · rw [if_pos (by simpa using e)]
      rcases List.mem_cons.1 hx with rfl | hx
      · exact absurd hk e
      · have := del_len hn.2 x hx hk
        simp only [List.length_cons]
        omega
theorem del_world (h : Tb w t) (hr : rst key (t.ch key) = x :: r) {m : Nat} (hm : m + 1 = t.D.length) : Tb ((w.setCell (t.a key) (t.val ⟨x.1, 4, none⟩)).setCell ⟨t.X, 3, none⟩ (.int .i64 (m : Int))) (t.del key) := by
  refine ⟨?_, h.sh.del h.mem.nd (fun y hy => (h.mem.sep y hy).2) hr⟩
  obtain ⟨xD, xk⟩ := h.sh.rst_mem hr
  have hv : t.val ⟨x.1, 4, none⟩ = nx r := by
    have hl : Linked t.val ⟨t.B, t.pl key, none⟩ (t.ch key) := h.sh.link _ (h.sh.pl_lt key)
    rw [← ahd_rst key (t.ch key), hr, linked_app] at hl
    exact linked_first hl.2.2
  have h1 := ((h.mem.set (h.sh.at_a key) (t.val ⟨x.1, 4, none⟩)).setM m).sub (D' := t.D.filter fun y => decide (y.2.k ≠ key)) List.filter_sublist
  have e1 : (t.del key).D.length = m := by
    have := del_len h.sh.keys x xD xk
    show (t.D.filter _).length = m
    omega
  rw [e1]
  have e2 : (t.del key).val = upd t.val (t.a key) (t.val ⟨x.1, 4, none⟩) := by
    show upd t.val (t.a key) (nx (rst key (t.ch key)).tail) = _
    rw [hr, hv]; rfl
  rw [e2]
  exact h1
theorem del_foot {v : Addr → Value} {k : Nat} (h : ((t.nxt v).del key).F k) : t.F k := by
  rcases h with h | h | ⟨y, hy, rfl⟩
  · exact .inl h
  · exact .inr (.inl h)
  · exact .inr (.inr ⟨y, (List.mem_filter.1 (show y ∈ t.D.filter _ from hy)).1, rfl⟩)
theorem a_ne {Ab Ao : Nat} (h : Tb w t) (hA : Hid ((⟨Ab, Ao, none⟩ : Addr) = t.a key)) (hr : rst key (t.ch key) = x :: r) : x.1 ≠ Ab := fun q => by
  have hpl := h.sh.pl_lt key
  have hc : t.ch key = ahd key (t.ch key) ++ x :: r := by rw [← hr]; exact (ahd_rst key (t.ch key)).symm
  obtain ⟨xD, _⟩ := h.sh.rst_mem hr
  have hn := h.sh.nod _ hpl
  rw [show t.c (t.pl key) = t.ch key from rfl, hc, List.map_append, List.nodup_append] at hn
  rcases a_cases t key with e | ⟨y, hy, e⟩
  · exact (h.mem.sep x xD).2 (q.trans (congrArg Addr.block (hA.out.trans e)))
  · exact hn.2.2 y.1 (List.mem_map_of_mem hy) x.1 (List.mem_map_of_mem (by simp)) (q.trans (congrArg Addr.block (hA.out.trans e))).symm
theorem a_X {Ab Ao : Nat} (h : Tb w t) (hA : Hid ((⟨Ab, Ao, none⟩ : Addr) = t.a key)) : t.X ≠ Ab := by
  have h4 : t.X ≠ (t.a key).block := by
    rcases h.sh.at_a key with ⟨j, _, q⟩ | ⟨y, hy, q⟩
    · rw [q]; exact h.mem.xb
    · rw [q]; exact fun q2 => (h.mem.sep y hy).1 q2.symm
  rwa [← hA.out] at h4
set_option maxRecDepth 4000 in
set_option maxHeartbeats 1000000 in
theorem remove_no (h : Tb w t) (hx' : ∀ x ∈ t.D, x.2.k ≠ key)  : Calls Try.prog 14 #[ptr t.X, .int .i64 key] w fun o w' => o = .returned (.tuple #[e0.v, .bool false]) ∧ ∃ v, Tb w' (t.nxt v) ∧ Out t.F w w' := by
  have mv : Hid (∀ W, Grown w W → Calls Try.prog 31 #[ptr t.X] W fun e w' => e = .returned (.tuple #[]) ∧ ∃ v, Tb w' (t.nxt v) ∧ Out t.F W w') := fun W g => move_t (h.grown g)
  have hx : Hid (∀ x ∈ t.D, x.2.k ≠ key) := hx'
  have flt : Hid (∀ k, t.F k → k < w.heap.size) := fun k hk => h.lt hk
  have hR : Hid ((w.alloc (.cells #[.int .i64 0, .int .i64 0, .int .i64 0, .int .i64 0] 30)).heap[w.heap.size]? = some (.cells #[.int .i64 0, .int .i64 0, .int .i64 0, .int .i64 0] 30 (0, 0))) := blk_alloc_new _ _
  have g0 : Hid (Grown w (w.alloc (.cells #[.int .i64 0, .int .i64 0, .int .i64 0, .int .i64 0] 30))) := (Grown.refl _).alloc _ _
  clear h hx'
  unfold ptr En.v at *
  go_enter Try.func14, Try.ntmps14
  go_wp2_with (first | (go_at_call 31; refine (mv.out _ g0.out).mono ?_; generalize w.alloc (.cells #[.int .i64 0, .int .i64 0, .int .i64 0, .int .i64 0] 30) = W1 at hR g0 ⊢; rintro e1 W2 ⟨rfl, v, T2, O2⟩; have hR2 := (O2.block _ (lt_of hR.out) (fun q => by have := flt.out _ q; omega)).trans hR.out; have O2 : Hid (Out t.F w W2) := Out.after g0.out O2; obtain ⟨Ab, Ao, hA, fd, cA, fA, lA, nX⟩ := seek_no T2 hx.out; have T2 : Hid (Tb W2 (t.nxt v)) := T2; change Calls Try.prog 32 #[.pointer (some ⟨t.X, 0, none⟩), .int .i64 key] W2 _ at fd; have lR := lt_of hR2) | (go_at_call 32; refine fd.mono ?_; rintro e1 w' ⟨rfl, k, rfl⟩; have T3 : Hid (Tb (W2.drewN k) (t.nxt v)) := T2.out.drewN k; have O3 : Hid (Out t.F w (W2.drewN k)) := O2.out.drewN k; change (W2.drewN k).heap[_]? = _ at hR2; change (W2.drewN k).cell? _ = _ at cA; change _ < (W2.drewN k).heap.size at lA lR; clear T2 O2 fd; generalize W2.drewN k = W3 at T3 O3 hR2 cA lA lR ⊢) | (refine wpList_store_en rfl rfl (.tmp 4) (.tmp 18) rfl w.heap.size rfl rfl hR2 rfl ?_; intro W6 hR6 o6))
  have ff : ∀ k, (t.nxt v).F k → ¬ k = w.heap.size := fun k hk q => by have := flt.out k hk; omega
  exact bodyPost_ret (results_row_tmp Try.results14 _ _ w.heap.size 30 _ (0, 0) _ rfl hR6 Try.underlying30 rfl sizeEn) rfl ⟨rfl, v, T3.out.out o6 ff, O3.out.trans o6 fun i q => .inr (by omega)⟩
set_option maxRecDepth 4000 in
set_option maxHeartbeats 1000000 in
theorem remove_yes (h : Tb w t) (hx' : x ∈ t.D) (hk' : x.2.k = key) (hm' : t.D.length ≤ 1000000) : Calls Try.prog 14 #[ptr t.X, .int .i64 key] w fun o w' => o = .returned (.tuple #[x.2.v, .bool true]) ∧ ∃ v, Tb w' ((t.nxt v).del key) ∧ Out t.F w w' := by
  have mv : Hid (∀ W, Grown w W → Calls Try.prog 31 #[ptr t.X] W fun e w' => e = .returned (.tuple #[]) ∧ ∃ v, Tb w' (t.nxt v) ∧ Out t.F W w') := fun W g => move_t (h.grown g)
  have hx : Hid (x ∈ t.D) := hx'
  have hk : Hid (x.2.k = key) := hk'
  obtain ⟨m, hm1⟩ : ∃ m, Hid (m + 1 = t.D.length) := ⟨t.D.length - 1, by have := List.length_pos_of_mem hx'; show _ + 1 = _; omega⟩
  have hm : m ≤ 1000000 := by have := hm1.out; omega
  have flt : Hid (∀ k, t.F k → k < w.heap.size) := fun k hk => h.lt hk
  have hR : Hid ((w.alloc (.cells #[.int .i64 0, .int .i64 0, .int .i64 0, .int .i64 0] 30)).heap[w.heap.size]? = some (.cells #[.int .i64 0, .int .i64 0, .int .i64 0, .int .i64 0] 30 (0, 0))) := blk_alloc_new _ _
  have g0 : Hid (Grown w (w.alloc (.cells #[.int .i64 0, .int .i64 0, .int .i64 0, .int .i64 0] 30))) := (Grown.refl _).alloc _ _
  clear h hx' hk' hm'
  unfold ptr En.v at *
  go_enter Try.func14, Try.ntmps14
  go_wp2_with (first | (go_at_call 31; refine (mv.out _ g0.out).mono ?_; generalize w.alloc (.cells #[.int .i64 0, .int .i64 0, .int .i64 0, .int .i64 0] 30) = W1 at hR g0 ⊢; rintro e1 W2 ⟨rfl, v, T2, O2⟩; have hR2 := (O2.block _ (lt_of hR.out) (fun q => by have := flt.out _ q; omega)).trans hR.out; have O2 : Hid (Out t.F w W2) := Out.after g0.out O2; obtain ⟨Ab, Ao, z, hA, fd, cA, fA, lA, hL2, hz⟩ := seek_yes T2 hx.out hk.out; obtain ⟨r, hr⟩ := T2.sh.rst_yes hx.out hk.out; have nX := a_X T2 hA; change t.X ≠ Ab at nX; have nX2 : Ab ≠ t.X := fun q => nX q.symm; have c3 : W2.cell? ⟨t.X, 3, none⟩ = some (.int .i64 (t.D.length : Int)) := T2.mem.head.cells.2.2.2; rw [← hm1.out, show ((m + 1 : Nat) : Int) = (m : Int) + 1 by omega] at c3; have f3 : W2.frozen? ⟨t.X, 3, none⟩ = false := fr0 T2.mem.head 3; have lX : t.X < W2.heap.size := T2.mem.lt (.inl rfl); have hr : Hid (rst key ((t.nxt v).ch key) = x :: r) := hr; have k4 : W2.cell? ⟨x.1, 4, none⟩ = some (.pointer z) := cell_of hL2 rfl; have lL := lt_of hL2; have T2 : Hid (Tb W2 (t.nxt v)) := T2; change Calls Try.prog 32 #[.pointer (some ⟨t.X, 0, none⟩), .int .i64 key] W2 _ at fd; have lR := lt_of hR2) | (go_at_call 32; refine fd.mono ?_; rintro e1 w' ⟨rfl, k, rfl⟩; have T3 : Hid (Tb (W2.drewN k) (t.nxt v)) := T2.out.drewN k; have O3 : Hid (Out t.F w (W2.drewN k)) := O2.out.drewN k; change (W2.drewN k).heap[_]? = _ at hR2 hL2; change (W2.drewN k).cell? _ = _ at cA c3 k4; change (W2.drewN k).frozen? _ = _ at fA f3; change _ < (W2.drewN k).heap.size at lA lR lX lL; clear T2 O2 fd; generalize W2.drewN k = W3 at T3 O3 hR2 hL2 cA c3 k4 fA f3 lA lR lX lL ⊢; have xA := a_ne T3.out hA hr.out; have xX : x.1 ≠ t.X := (T3.out.mem.sep x hx.out).1; have aF : Ab < w.heap.size := flt.out Ab (by have := Mem.foot_at (X := t.X) (T3.out.sh.at_a key); rw [← hA.out] at this; exact this); have xF : t.X < w.heap.size := flt.out t.X (.inl rfl); have T4 : Hid (Tb ((W3.setCell ⟨Ab, Ao, none⟩ (.pointer z)).setCell ⟨t.X, 3, none⟩ (.int .i64 (m : Int))) ((t.nxt v).del key)) := by { have q := del_world T3.out hr.out hm1.out; rw [← hA.out, ← hz.out] at q; exact q }; have O4 : Hid (Out t.F w ((W3.setCell ⟨Ab, Ao, none⟩ (.pointer z)).setCell ⟨t.X, 3, none⟩ (.int .i64 (m : Int)))) := (Mem.outW (B := t.B) (X := t.X) (D := t.D) (n := t.n) O3.out (a := ⟨Ab, Ao, none⟩) (by rw [hA.out]; exact T3.out.sh.at_a key) (.pointer z)).setCell (a := ⟨t.X, 3, none⟩) (.inl rfl) _; have hL4 : Hid (((W3.setCell ⟨Ab, Ao, none⟩ (.pointer z)).setCell ⟨t.X, 3, none⟩ (.int .i64 (m : Int))).heap[x.1]? = _) := ((blk_setCell_other _ _ _ _ xX).trans (blk_setCell_other _ _ _ _ xA)).trans hL2; have hR4 : Hid (((W3.setCell ⟨Ab, Ao, none⟩ (.pointer z)).setCell ⟨t.X, 3, none⟩ (.int .i64 (m : Int))).heap[w.heap.size]? = _) := ((blk_setCell_other _ _ _ _ (by show w.heap.size ≠ t.X; omega)).trans (blk_setCell_other _ _ _ _ (by show w.heap.size ≠ Ab; omega))).trans hR2; clear hR2 hL2) | (refine wpList_load_lk rfl (.tmp 34) rfl x.1 rfl hL4.out ?_) | (refine wpList_store_en rfl rfl (.tmp 4) (.tmp 35) rfl w.heap.size rfl rfl hR4.out rfl ?_; intro W6 hR6 o6))
  have ff : ∀ k, ((t.nxt v).del key).F k → ¬ k = w.heap.size := fun k hk q => by have := flt.out k (del_foot hk); omega
  exact bodyPost_ret (results_row_tmp Try.results14 _ _ w.heap.size 30 _ (0, 0) _ rfl hR6 Try.underlying30 rfl sizeEn) rfl ⟨rfl, v, T4.out.out o6 ff, O4.out.trans o6 fun i q => .inr (by omega)⟩
end Go.Proofs.Ythjcdloaclailaa.Tb
