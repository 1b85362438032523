/-
  What Put of package pantryref15 does when it is called. No condition but those told at each sentence.
-/
import Derived.Test.YthjcdloaclailaaRtGrow
namespace Go.Proofs.Ythjcdloaclailaa
open Go.RowKit Go.Deep
theorem Apt.heads {W w : World} {l m : List Ob} (h : Apt W w (l ++ m)) : Apt W w l := by
  have inl : ∀ {j : Nat} {x : Ob}, l[j]? = some x → (l ++ m)[j]? = some x := fun {j x} hx => by rw [List.getElem?_append_left (List.getElem?_eq_some_iff.1 hx).1]; exact hx
  exact ⟨h.grown, fun i o hi => h.all i o (inl hi), fun i o hi => h.base i o (inl hi), fun i j o u hi hj => h.apart i j o u (inl hi) (inl hj)⟩
end Go.Proofs.Ythjcdloaclailaa
namespace Go.Proofs.Ythjcdloaclailaa.Tb
open Go.RowKit Go.Deep Us
variable {W w w' : World} {key : Int} {e r : En} {J X n : Nat} {q q1 q2 : List En} {l m : List Ob} {i j c : Nat} {p : Option Addr} {u v : Rt}

theorem wanted_not {ops : Array Oper} {o o' : Oper} {A : Act} {g : Nat} {b : Bool} {d : Tmp} (h : o.guard = some (g, b)) (ho : ops[g]? = some o') (hd : o'.dst = some d) (hv : A.tmps[d]?.getD undef = .bool (!b)) : Region.wanted o (yielded ops A.tmps) = false := by
  unfold Region.wanted
  rw [h]
  have e : yielded ops A.tmps g = some (!b) := by
    unfold yielded
    rw [ho]
    cases hc : A.tmps[d]? with
    | none => rw [hc] at hv; cases hv
    | some v =>
      rw [hc] at hv
      have hv : v = .bool (!b) := hv
      simp only [Option.bind_some, hd, hc, hv]
  cases b <;> simp [e]
theorem set_head {x : Ob} {b : List Ob} (hi : i < l.length) : (l ++ b).set i x = l.set i x ++ b := by rw [List.set_append_left (h := hi)]
theorem swap_last (a : List Ob) (x y : Ob) : (a ++ [x, y]).Perm (a ++ [y] ++ [x]) := by
  rw [List.append_assoc]
  exact List.Perm.append_left _ (List.Perm.swap _ _ _)
/-- The rows are no longer than this. -/
def Rp.Fit (A : Rp) : Prop := ∀ p, (A.L p).length ≤ 1000000
set_option maxRecDepth 8000 in
set_option maxHeartbeats 4000000 in
theorem rput_y (h : Apt W w l) (hi' : l[i]? = some (obR u)) (hX : u.X = X) (hn : u.h = none) (e : En) (hf0 : u.A.Fit) (hf : u.A.mv.Fit) (hJ : KAt (u.A.mv.L (u.A.mv.rp e.k)) e.k J) (hr : (u.A.mv.L (u.A.mv.rp e.k))[J]? = some r) : Calls Try.prog 13 #[.pointer (some ⟨X, 0, none⟩), .agg #[.int .i64 e.k, .int .i64 e.a, .int .i64 e.x, .int .i64 e.n]] w fun o w' => o = .returned (.tuple #[.agg #[.int .i64 r.k, .int .i64 r.a, .int .i64 r.x, .int .i64 r.n], .bool true]) ∧ ∃ u', Apt W w' (l.set i (obR u')) ∧ u'.X = X ∧ u'.A = u.A.mv.st (u.A.mv.rp e.k) ((u.A.mv.L (u.A.mv.rp e.k)).set J e) ∧ u'.h = none := by
  have hJ1 := (List.getElem?_eq_some_iff.1 hr).1
  have h1 : Hid (Apt W ((w.alloc (.cells #[.int .i64 e.k, .int .i64 e.a, .int .i64 e.x, .int .i64 e.n] 30)).alloc (.cells #[.int .i64 0, .int .i64 0, .int .i64 0, .int .i64 0] 30)) (l ++ [obBlk w.heap.size 30 #[.int .i64 e.k, .int .i64 e.a, .int .i64 e.x, .int .i64 e.n], obBlk (w.heap.size + 1) 30 #[.int .i64 0, .int .i64 0, .int .i64 0, .int .i64 0]])) := by
    have := en_block (en_block h #[.int .i64 e.k, .int .i64 e.a, .int .i64 e.x, .int .i64 e.n] 30) #[.int .i64 0, .int .i64 0, .int .i64 0, .int .i64 0] 30
    rw [nblk_alloc, List.append_assoc] at this
    exact this
  have hlt : Hid (i < l.length) := (List.getElem?_eq_some_iff.1 hi').1
  have hi : Hid (l[i]? = some (obR u)) := hi'
  have mv : Hid (∀ W', Apt W W' (l ++ [obBlk w.heap.size 30 #[.int .i64 e.k, .int .i64 e.a, .int .i64 e.x, .int .i64 e.n], obBlk (w.heap.size + 1) 30 #[.int .i64 0, .int .i64 0, .int .i64 0, .int .i64 0]]) → Calls Try.prog 34 #[.pointer (some ⟨X, 0, none⟩)] W' fun e' w' => e' = .returned (.tuple #[]) ∧ ∃ u', Apt W w' ((l ++ [obBlk w.heap.size 30 #[.int .i64 e.k, .int .i64 e.a, .int .i64 e.x, .int .i64 e.n], obBlk (w.heap.size + 1) 30 #[.int .i64 0, .int .i64 0, .int .i64 0, .int .i64 0]]).set i (obR u')) ∧ u'.X = X ∧ u'.A = u.A.mv ∧ u'.h = none) := fun W' h => move_r h (by rw [List.getElem?_append_left hlt.out]; exact hi') hX hn (hf0 _) hf
  have hJ : Hid (KAt (u.A.mv.L (u.A.mv.rp e.k)) e.k J) := hJ
  obtain ⟨N, hN⟩ : ∃ N, Hid ((u.A.mv.L (u.A.mv.rp e.k)).length = N) := ⟨_, rfl⟩
  have hN2 : N ≤ 1000000 := by rw [← hN.out]; exact hf _
  obtain ⟨row, hrow⟩ : ∃ row, Hid (u.A.mv.L (u.A.mv.rp e.k) = row) := ⟨_, rfl⟩
  rw [hrow.out] at hN hJ
  rw [hrow.out] at hr hJ1 ⊢
  have hr : Hid (row[J]? = some r) := hr
  rw [hN.out] at hJ1
  have hJN : J < N := hJ1
  have hfj : Hid (fj J N = (J : Int)) := (by show _ = _; unfold fj; rw [if_pos hJN])
  have a1 : decide ((J : Int) ≥ 0) = true := by rw [decide_eq_true_eq]; omega
  have a2 : decide ((0 : Int) ≤ (J : Int)) = true := by rw [decide_eq_true_eq]; omega
  have hJI : (J : Int) < (N : Int) := by omega
  clear h hi' hX hn hf0 hf hJ1
  go_enter Try.func13, Try.ntmps13
  go_wp2_with (first | (go_at_call 34; refine (mv.out _ h1.out).mono ?_; clear mv; generalize (w.alloc (.cells #[.int .i64 e.k, .int .i64 e.a, .int .i64 e.x, .int .i64 e.n] 30)).alloc (.cells #[.int .i64 0, .int .i64 0, .int .i64 0, .int .i64 0] 30) = W1 at h1 ⊢; rintro o1 W2 ⟨rfl, u1, h2, hX1, hA1, hn1⟩; rw [set_head hlt.out] at h2; obtain ⟨L1, hL1⟩ : ∃ L1, Hid (l.set i (obR u1) = L1) := ⟨_, rfl⟩; have hiL : Hid (L1[i]? = some (obR u1)) := (by show _ = _; rw [← hL1.out, List.getElem?_set_self hlt.out]); have hset : Hid (∀ v, L1.set i v = l.set i v) := (fun v => by rw [← hL1.out, List.set_set]); have hlL : Hid (i < L1.length) := (List.getElem?_eq_some_iff.1 hiL.out).1; rw [hL1.out] at h2; have h2 : Hid (Apt W W2 (L1 ++ [obBlk w.heap.size 30 #[.int .i64 e.k, .int .i64 e.a, .int .i64 e.x, .int .i64 e.n], obBlk (w.heap.size + 1) 30 #[.int .i64 0, .int .i64 0, .int .i64 0, .int .i64 0]])) := h2; change Hid (u1.X = X) at hX1; change Hid (u1.A = u.A.mv) at hA1; change Hid (u1.h = none) at hn1; have hE := (h2.out.all (L1.length + 0) _ (at_n _ _ 0) : W2.heap[w.heap.size]? = some (.cells #[.int .i64 e.k, .int .i64 e.a, .int .i64 e.x, .int .i64 e.n] 30 (0, 0))); have k0 := cell_of (k := 0) hE rfl; have lE := lt_of hE; have HR : Hid (∀ W' m', Apt W W' (L1 ++ m') → RM W' u1) := (fun W' m' h => h.all i _ (by rw [List.getElem?_append_left hlL.out]; exact hiL.out)); obtain ⟨rp, hrp⟩ : ∃ rp, Hid ((u1.r (u.A.mv.rp e.k)).1 = rp) := ⟨_, rfl⟩; obtain ⟨rc, hrc⟩ : ∃ rc, Hid ((u1.r (u.A.mv.rp e.k)).2 = rc) := ⟨_, rfl⟩; have HC : Hid (∀ W', RM W' u1 → (Calls Try.prog 35 #[.pointer (some ⟨X, 0, none⟩), .int .i64 e.k] W' fun e' w' => e' = .returned (.slice rp N rc) ∧ ∃ d, w' = W'.drewN d) ∧ Vec W' 30 4 rp N rc (enL row)) := (fun W' h => by have a := chain_r h e.k; have b := h.inn _ ⟨h.rp_live e.k, by rw [hn1.out]; exact fun x => by cases x⟩; rw [hA1.out, hrow.out, hN.out, hrp.out, hrc.out] at a b; rw [hX1.out] at a; exact ⟨a, b⟩); clear hi h1) | (go_at_call 35; have h3 : Hid (Apt W (W2.alloc (.cells #[] 30)) (L1 ++ [obBlk w.heap.size 30 #[.int .i64 e.k, .int .i64 e.a, .int .i64 e.x, .int .i64 e.n], obBlk (w.heap.size + 1) 30 #[.int .i64 0, .int .i64 0, .int .i64 0, .int .i64 0], obE (some ⟨W2.heap.size, 0, none⟩) 0 []])) := mk_none h2.out; clear h2 hE k0 lE; refine (HC.out _ (HR.out _ _ h3.out)).1.mono ?_; generalize W2.heap.size = a0 at h3 ⊢; generalize W2.alloc (.cells #[] 30) = W3 at h3 ⊢; rintro o1 w4 ⟨rfl, d, rfl⟩; have h4 : Hid (Apt W (W3.drewN d) (L1 ++ [obBlk w.heap.size 30 #[.int .i64 e.k, .int .i64 e.a, .int .i64 e.x, .int .i64 e.n], obBlk (w.heap.size + 1) 30 #[.int .i64 0, .int .i64 0, .int .i64 0, .int .i64 0], obE (some ⟨a0, 0, none⟩) 0 []])) := h3.out.drewN d; clear h3; generalize W3.drewN d = W4 at h4 ⊢; have v4 := (HC.out _ (HR.out _ _ h4.out)).2) | (refine wpList_app rfl (.tmp 11) (.tmp 15) rfl h4.out (j := 2) rfl rfl rfl (q1 := []) (q2 := row) (n := N) rfl hN.out (Nat.zero_add _) (by omega) (vec_src v4) ?_; clear v4; intro p6 c6 W5 h5; have h5 : Hid (Apt W W5 (L1 ++ [obBlk w.heap.size 30 #[.int .i64 e.k, .int .i64 e.a, .int .i64 e.x, .int .i64 e.n], obBlk (w.heap.size + 1) 30 #[.int .i64 0, .int .i64 0, .int .i64 0, .int .i64 0], obE p6 c6 row])) := h5; clear h4; have hE := (h5.out.all (L1.length + 0) _ (at_n _ _ 0) : W5.heap[w.heap.size]? = some (.cells #[.int .i64 e.k, .int .i64 e.a, .int .i64 e.x, .int .i64 e.n] 30 (0, 0))); have k0 := cell_of (k := 0) hE rfl; have lE := lt_of hE; have v5 : Vec W5 30 4 p6 N c6 (enL row) := (by have : Vec W5 30 4 p6 row.length c6 (enL row) := h5.out.all (L1.length + 2) _ (at_n _ _ 2); rw [hN.out] at this; exact this)) | (go_at_call 36; refine (find_r v5 hN.out.symm hN2 hJ.out).mono ?_; rintro o1 w' ⟨rfl, hw'⟩; have hw' := hw'.symm; subst hw'; rw [hfj.out]; obtain ⟨B6, rfl, lB6, hcA, hfz, hcn⟩ := v5.opens (by omega); clear hcA hfz hcn) | (refine wpList_load_at rfl (.tmp 25) rfl B6 rfl v5 hJN hr.out ?_) | (have h6 : Hid (Apt W (W5.alloc (.cells #[.int .i64 r.k, .int .i64 r.a, .int .i64 r.x, .int .i64 r.n] 30)) (L1 ++ [obBlk w.heap.size 30 #[.int .i64 e.k, .int .i64 e.a, .int .i64 e.x, .int .i64 e.n], obBlk (w.heap.size + 1) 30 #[.int .i64 0, .int .i64 0, .int .i64 0, .int .i64 0], obE (some ⟨B6, 0, none⟩) c6 row, obBlk W5.heap.size 30 #[.int .i64 r.k, .int .i64 r.a, .int .i64 r.x, .int .i64 r.n]])) := (by have := en_block h5.out #[.int .i64 r.k, .int .i64 r.a, .int .i64 r.x, .int .i64 r.n] 30; rw [List.append_assoc] at this; exact this); clear h5 v5 hE k0 lE lB6; generalize W5.heap.size = b8 at h6 ⊢; generalize W5.alloc (.cells #[.int .i64 r.k, .int .i64 r.a, .int .i64 r.x, .int .i64 r.n] 30) = W6 at h6 ⊢; have hE6 := (h6.out.all (L1.length + 0) _ (at_n _ _ 0) : W6.heap[w.heap.size]? = some (.cells #[.int .i64 e.k, .int .i64 e.a, .int .i64 e.x, .int .i64 e.n] 30 (0, 0))); have lB6 : B6 < W6.heap.size := (h6.out.all (L1.length + 2) _ (at_n _ _ 2) : Vec W6 30 4 (some ⟨B6, 0, none⟩) row.length c6 (enL row)).lt (In.self B6); have k6 := cell_of (k := 0) hE6 rfl; have lE6 := lt_of hE6; refine wpList_load_en rfl (.tmp 3) rfl w.heap.size rfl hE6 ?_) | (refine wpList_store_at rfl rfl (.tmp 30) (.tmp 29) rfl B6 rfl rfl h6.out (j := 2) rfl (by rw [hN.out]; exact hJN) ?_; clear hE6 lB6 k6 lE6; intro W7 h7; have h7 : Hid (Apt W W7 (L1 ++ [obBlk w.heap.size 30 #[.int .i64 e.k, .int .i64 e.a, .int .i64 e.x, .int .i64 e.n], obBlk (w.heap.size + 1) 30 #[.int .i64 0, .int .i64 0, .int .i64 0, .int .i64 0], obE (some ⟨B6, 0, none⟩) c6 (row.set J e), obBlk b8 30 #[.int .i64 r.k, .int .i64 r.a, .int .i64 r.x, .int .i64 r.n]])) := h7; clear h6; have hE7 := (h7.out.all (L1.length + 0) _ (at_n _ _ 0) : W7.heap[w.heap.size]? = some (.cells #[.int .i64 e.k, .int .i64 e.a, .int .i64 e.x, .int .i64 e.n] 30 (0, 0))); have k7 := cell_of (k := 0) hE7 rfl; have lE7 := lt_of hE7) | (go_at_call 37; have h8 : Apt W W7 ((L1 ++ [obBlk w.heap.size 30 #[.int .i64 e.k, .int .i64 e.a, .int .i64 e.x, .int .i64 e.n], obBlk (w.heap.size + 1) 30 #[.int .i64 0, .int .i64 0, .int .i64 0, .int .i64 0], obBlk b8 30 #[.int .i64 r.k, .int .i64 r.a, .int .i64 r.x, .int .i64 r.n]]) ++ [obE (some ⟨B6, 0, none⟩) c6 (row.set J e)]) := (by refine h7.out.same ?_; have := swap_last (L1 ++ [obBlk w.heap.size 30 #[.int .i64 e.k, .int .i64 e.a, .int .i64 e.x, .int .i64 e.n], obBlk (w.heap.size + 1) 30 #[.int .i64 0, .int .i64 0, .int .i64 0, .int .i64 0]]) (obE (some ⟨B6, 0, none⟩) c6 (row.set J e)) (obBlk b8 30 #[.int .i64 r.k, .int .i64 r.a, .int .i64 r.x, .int .i64 r.n]); simpa [List.append_assoc] using this); have st := set_r h8 (by rw [List.getElem?_append_left hlL.out]; exact hiL.out) hn1.out e.k; rw [hX1.out, List.length_set, hN.out, hA1.out, set_head hlL.out, hset.out] at st; refine st.mono ?_; clear st h8 h7 hE7 k7 lE7; rintro o1 W8 ⟨rfl, h8⟩; have h8 : Hid (Apt W W8 (l.set i (obR (u1.st (u.A.mv.rp e.k) (row.set J e) (some ⟨B6, 0, none⟩) c6)) ++ [obBlk w.heap.size 30 #[.int .i64 e.k, .int .i64 e.a, .int .i64 e.x, .int .i64 e.n], obBlk (w.heap.size + 1) 30 #[.int .i64 0, .int .i64 0, .int .i64 0, .int .i64 0], obBlk b8 30 #[.int .i64 r.k, .int .i64 r.a, .int .i64 r.x, .int .i64 r.n]])) := h8; have hS8 := (h8.out.all ((l.set i (obR (u1.st (u.A.mv.rp e.k) (row.set J e) (some ⟨B6, 0, none⟩) c6))).length + 2) _ (at_n _ _ 2) : W8.heap[b8]? = some (.cells #[.int .i64 r.k, .int .i64 r.a, .int .i64 r.x, .int .i64 r.n] 30 (0, 0))); have hR8 := (h8.out.all ((l.set i (obR (u1.st (u.A.mv.rp e.k) (row.set J e) (some ⟨B6, 0, none⟩) c6))).length + 1) _ (at_n _ _ 1) : W8.heap[(w.heap.size + 1)]? = some (.cells #[.int .i64 0, .int .i64 0, .int .i64 0, .int .i64 0] 30 (0, 0))); have lR8 := lt_of hR8; have lS8 := lt_of hS8) | (refine wpList_load_en rfl (.tmp 8) rfl b8 rfl hS8 ?_) | (refine wpList_store_en rfl rfl (.tmp 4) (.tmp 36) rfl (w.heap.size + 1) rfl rfl hR8 rfl ?_; intro W9 h9 o9; have h10 : Hid (Apt W W9 (l.set i (obR (u1.st (u.A.mv.rp e.k) (row.set J e) (some ⟨B6, 0, none⟩) c6)))) := (by have := h8.out.upd (at_n _ _ 1) (o' := obBlk (w.heap.size + 1) 30 #[.int .i64 r.k, .int .i64 r.a, .int .i64 r.x, .int .i64 r.n]) h9 ⟨o9, fun _ hk => .inl hk⟩; rw [set_n] at this; exact this.heads); clear hR8 hS8 lR8 lS8 h8 o9))
  exact bodyPost_ret (results_row_tmp Try.results13 _ _ (w.heap.size + 1) 30 _ (0, 0) _ rfl h9 Try.underlying30 rfl sizeEn) rfl ⟨rfl, _, h10.out, hX1.out, (by show u1.A.st _ _ = _; rw [hA1.out]), rfl⟩
set_option maxRecDepth 40000 in
set_option maxHeartbeats 8000000 in
theorem rput_n (h : Apt W w l) (hi' : l[i]? = some (obR u)) (hX : u.X = X) (hn : u.h = none) (e : En) (hf0 : u.A.Fit) (hf : u.A.mv.Fit) (hfC : (u.A.mv.st (u.A.mv.rp e.k) (u.A.mv.L (u.A.mv.rp e.k) ++ [e])).rows.length ≤ 1000000) (hJ : KAt (u.A.mv.L (u.A.mv.rp e.k)) e.k J) (hr : ¬ J < (u.A.mv.L (u.A.mv.rp e.k)).length) : Calls Try.prog 13 #[.pointer (some ⟨X, 0, none⟩), .agg #[.int .i64 e.k, .int .i64 e.a, .int .i64 e.x, .int .i64 e.n]] w fun o w' => o = .returned (.tuple #[.agg #[.int .i64 0, .int .i64 0, .int .i64 0, .int .i64 0], .bool false]) ∧ ∃ u', Apt W w' (l.set i (obR u')) ∧ u'.X = X ∧ u'.A = (if ((u.A.mv.st (u.A.mv.rp e.k) (u.A.mv.L (u.A.mv.rp e.k) ++ [e])).k - (u.A.mv.st (u.A.mv.rp e.k) (u.A.mv.L (u.A.mv.rp e.k) ++ [e])).m = 0 ∧ (u.A.mv.st (u.A.mv.rp e.k) (u.A.mv.L (u.A.mv.rp e.k) ++ [e])).n < (u.A.mv.st (u.A.mv.rp e.k) (u.A.mv.L (u.A.mv.rp e.k) ++ [e])).rows.length ∧ (u.A.mv.st (u.A.mv.rp e.k) (u.A.mv.L (u.A.mv.rp e.k) ++ [e])).n < 65536) then (u.A.mv.st (u.A.mv.rp e.k) (u.A.mv.L (u.A.mv.rp e.k) ++ [e])).gr else (u.A.mv.st (u.A.mv.rp e.k) (u.A.mv.L (u.A.mv.rp e.k) ++ [e]))) ∧ u'.h = none := by
  have h1 : Hid (Apt W ((w.alloc (.cells #[.int .i64 e.k, .int .i64 e.a, .int .i64 e.x, .int .i64 e.n] 30)).alloc (.cells #[.int .i64 0, .int .i64 0, .int .i64 0, .int .i64 0] 30)) (l ++ [obBlk w.heap.size 30 #[.int .i64 e.k, .int .i64 e.a, .int .i64 e.x, .int .i64 e.n], obBlk (w.heap.size + 1) 30 #[.int .i64 0, .int .i64 0, .int .i64 0, .int .i64 0]])) := by
    have := en_block (en_block h #[.int .i64 e.k, .int .i64 e.a, .int .i64 e.x, .int .i64 e.n] 30) #[.int .i64 0, .int .i64 0, .int .i64 0, .int .i64 0] 30
    rw [nblk_alloc, List.append_assoc] at this
    exact this
  have hlt : Hid (i < l.length) := (List.getElem?_eq_some_iff.1 hi').1
  have hi : Hid (l[i]? = some (obR u)) := hi'
  have mv : Hid (∀ W', Apt W W' (l ++ [obBlk w.heap.size 30 #[.int .i64 e.k, .int .i64 e.a, .int .i64 e.x, .int .i64 e.n], obBlk (w.heap.size + 1) 30 #[.int .i64 0, .int .i64 0, .int .i64 0, .int .i64 0]]) → Calls Try.prog 34 #[.pointer (some ⟨X, 0, none⟩)] W' fun e' w' => e' = .returned (.tuple #[]) ∧ ∃ u', Apt W w' ((l ++ [obBlk w.heap.size 30 #[.int .i64 e.k, .int .i64 e.a, .int .i64 e.x, .int .i64 e.n], obBlk (w.heap.size + 1) 30 #[.int .i64 0, .int .i64 0, .int .i64 0, .int .i64 0]]).set i (obR u')) ∧ u'.X = X ∧ u'.A = u.A.mv ∧ u'.h = none) := fun W' h => move_r h (by rw [List.getElem?_append_left hlt.out]; exact hi') hX hn (hf0 _) hf
  have hJ : Hid (KAt (u.A.mv.L (u.A.mv.rp e.k)) e.k J) := hJ
  obtain ⟨N, hN⟩ : ∃ N, Hid ((u.A.mv.L (u.A.mv.rp e.k)).length = N) := ⟨_, rfl⟩
  have hN2 : N ≤ 1000000 := by rw [← hN.out]; exact hf _
  obtain ⟨row, hrow⟩ : ∃ row, Hid (u.A.mv.L (u.A.mv.rp e.k) = row) := ⟨_, rfl⟩
  rw [hrow.out] at hN hJ
  rw [hrow.out] at hr hfC ⊢
  rw [hN.out] at hr
  obtain ⟨C, hCC⟩ : ∃ C, Hid (u.A.mv.st (u.A.mv.rp e.k) (row ++ [e]) = C) := ⟨_, rfl⟩
  rw [hCC.out] at hfC ⊢
  change Hid (C.rows.length ≤ 1000000) at hfC
  have hJN : ¬ J < N := hr
  have hfj : Hid (fj J N = -1) := (by show _ = _; unfold fj; rw [if_neg hJN])
  have a1 : decide ((-1 : Int) ≥ 0) = false := by decide
  clear h hi' hX hn hf0 hf hr
  go_enter Try.func13, Try.ntmps13
  go_wp2_with (first | (go_at_call 34; refine (mv.out _ h1.out).mono ?_; clear mv; generalize (w.alloc (.cells #[.int .i64 e.k, .int .i64 e.a, .int .i64 e.x, .int .i64 e.n] 30)).alloc (.cells #[.int .i64 0, .int .i64 0, .int .i64 0, .int .i64 0] 30) = W1 at h1 ⊢; rintro o1 W2 ⟨rfl, u1, h2, hX1, hA1, hn1⟩; rw [set_head hlt.out] at h2; obtain ⟨L1, hL1⟩ : ∃ L1, Hid (l.set i (obR u1) = L1) := ⟨_, rfl⟩; have hiL : Hid (L1[i]? = some (obR u1)) := (by show _ = _; rw [← hL1.out, List.getElem?_set_self hlt.out]); have hset : Hid (∀ v, L1.set i v = l.set i v) := (fun v => by rw [← hL1.out, List.set_set]); have hlL : Hid (i < L1.length) := (List.getElem?_eq_some_iff.1 hiL.out).1; rw [hL1.out] at h2; have h2 : Hid (Apt W W2 (L1 ++ [obBlk w.heap.size 30 #[.int .i64 e.k, .int .i64 e.a, .int .i64 e.x, .int .i64 e.n], obBlk (w.heap.size + 1) 30 #[.int .i64 0, .int .i64 0, .int .i64 0, .int .i64 0]])) := h2; change Hid (u1.X = X) at hX1; change Hid (u1.A = u.A.mv) at hA1; change Hid (u1.h = none) at hn1; have hE := (h2.out.all (L1.length + 0) _ (at_n _ _ 0) : W2.heap[w.heap.size]? = some (.cells #[.int .i64 e.k, .int .i64 e.a, .int .i64 e.x, .int .i64 e.n] 30 (0, 0))); have k0 := cell_of (k := 0) hE rfl; have lE := lt_of hE; have HR : Hid (∀ W' m', Apt W W' (L1 ++ m') → RM W' u1) := (fun W' m' h => h.all i _ (by rw [List.getElem?_append_left hlL.out]; exact hiL.out)); obtain ⟨rp, hrp⟩ : ∃ rp, Hid ((u1.r (u.A.mv.rp e.k)).1 = rp) := ⟨_, rfl⟩; obtain ⟨rc, hrc⟩ : ∃ rc, Hid ((u1.r (u.A.mv.rp e.k)).2 = rc) := ⟨_, rfl⟩; have HC : Hid (∀ W', RM W' u1 → (Calls Try.prog 35 #[.pointer (some ⟨X, 0, none⟩), .int .i64 e.k] W' fun e' w' => e' = .returned (.slice rp N rc) ∧ ∃ d, w' = W'.drewN d) ∧ Vec W' 30 4 rp N rc (enL row)) := (fun W' h => by have a := chain_r h e.k; have b := h.inn _ ⟨h.rp_live e.k, by rw [hn1.out]; exact fun x => by cases x⟩; rw [hA1.out, hrow.out, hN.out, hrp.out, hrc.out] at a b; rw [hX1.out] at a; exact ⟨a, b⟩); clear hi h1) | (go_at_call 35; have h3 : Hid (Apt W (W2.alloc (.cells #[] 30)) (L1 ++ [obBlk w.heap.size 30 #[.int .i64 e.k, .int .i64 e.a, .int .i64 e.x, .int .i64 e.n], obBlk (w.heap.size + 1) 30 #[.int .i64 0, .int .i64 0, .int .i64 0, .int .i64 0], obE (some ⟨W2.heap.size, 0, none⟩) 0 []])) := mk_none h2.out; clear h2 hE k0 lE; refine (HC.out _ (HR.out _ _ h3.out)).1.mono ?_; generalize W2.heap.size = a0 at h3 ⊢; generalize W2.alloc (.cells #[] 30) = W3 at h3 ⊢; rintro o1 w4 ⟨rfl, d, rfl⟩; have h4 : Hid (Apt W (W3.drewN d) (L1 ++ [obBlk w.heap.size 30 #[.int .i64 e.k, .int .i64 e.a, .int .i64 e.x, .int .i64 e.n], obBlk (w.heap.size + 1) 30 #[.int .i64 0, .int .i64 0, .int .i64 0, .int .i64 0], obE (some ⟨a0, 0, none⟩) 0 []])) := h3.out.drewN d; clear h3; generalize W3.drewN d = W4 at h4 ⊢; have v4 := (HC.out _ (HR.out _ _ h4.out)).2) | (refine wpList_app rfl (.tmp 11) (.tmp 15) rfl h4.out (j := 2) rfl rfl rfl (q1 := []) (q2 := row) (n := N) rfl hN.out (Nat.zero_add _) (by omega) (vec_src v4) ?_; clear v4; intro p6 c6 W5 h5; have h5 : Hid (Apt W W5 (L1 ++ [obBlk w.heap.size 30 #[.int .i64 e.k, .int .i64 e.a, .int .i64 e.x, .int .i64 e.n], obBlk (w.heap.size + 1) 30 #[.int .i64 0, .int .i64 0, .int .i64 0, .int .i64 0], obE p6 c6 row])) := h5; clear h4; have hE := (h5.out.all (L1.length + 0) _ (at_n _ _ 0) : W5.heap[w.heap.size]? = some (.cells #[.int .i64 e.k, .int .i64 e.a, .int .i64 e.x, .int .i64 e.n] 30 (0, 0))); have k0 := cell_of (k := 0) hE rfl; have lE := lt_of hE; have v5 : Vec W5 30 4 p6 N c6 (enL row) := (by have : Vec W5 30 4 p6 row.length c6 (enL row) := h5.out.all (L1.length + 2) _ (at_n _ _ 2); rw [hN.out] at this; exact this)) | (go_at_call 36; refine (find_r v5 hN.out.symm hN2 hJ.out).mono ?_; rintro o1 w' ⟨rfl, hw'⟩; have hw' := hw'.symm; subst hw'; rw [hfj.out]))
  refine region_fill [5, 6, 7] [(37, .pointer (some ⟨X, 0, none⟩)), (38, .pointer (some ⟨w.heap.size, 0, none⟩)), (39, .int .i64 e.k), (40, .slice p6 N c6), (41, .agg #[.int .i64 e.k, .int .i64 e.a, .int .i64 e.x, .int .i64 e.n])] hmx (by kernel_rfl) (by kernel_rfl) ?_
  simp only [fills, Act.put, List.setIfInBounds_toArray, List.set_cons_zero, List.set_cons_succ]
  have h6 : Hid (Apt W W5.drew (L1 ++ [obBlk w.heap.size 30 #[.int .i64 e.k, .int .i64 e.a, .int .i64 e.x, .int .i64 e.n], obBlk (w.heap.size + 1) 30 #[.int .i64 0, .int .i64 0, .int .i64 0, .int .i64 0], obE p6 c6 row])) := h5.out.drew
  clear h5 v5 hE k0 lE
  generalize W5.drew = W6 at h6 ⊢
  have hE6 := (h6.out.all (L1.length + 0) _ (at_n _ _ 0) : W6.heap[w.heap.size]? = some (.cells #[.int .i64 e.k, .int .i64 e.a, .int .i64 e.x, .int .i64 e.n] 30 (0, 0)))
  have k6 := cell_of (k := 0) hE6 rfl
  have lE6 := lt_of hE6
  refine flow_val (some 42) (.slice (some ⟨W6.heap.size, 0, none⟩) 1 1) (W6.alloc (.cells #[.int .i64 e.k, .int .i64 e.a, .int .i64 e.x, .int .i64 e.n] 30)) _ rfl rfl ?run (by go_simp) ?_
  case run =>
    intro i o ho hi
    iterate 8 (rcases i with _ | i; · first | (exact absurd hi (by decide)) | (cases ho; exact exec_load_row 30 _ rfl w.heap.size rfl 30 _ (0, 0) _ hE6 Try.underlying30 rfl sizeEn) | (cases ho; go_simp; done))
    cases ho
  simp only [Act.put, List.setIfInBounds_toArray, List.set_cons_zero, List.set_cons_succ]
  have h7 : Hid (Apt W (W6.alloc (.cells #[.int .i64 e.k, .int .i64 e.a, .int .i64 e.x, .int .i64 e.n] 30)) (L1 ++ [obBlk w.heap.size 30 #[.int .i64 e.k, .int .i64 e.a, .int .i64 e.x, .int .i64 e.n], obBlk (w.heap.size + 1) 30 #[.int .i64 0, .int .i64 0, .int .i64 0, .int .i64 0], obE p6 c6 row, obE (some ⟨W6.heap.size, 0, none⟩) 1 [e]])) := mk_one h6.out e
  clear h6 hE6 k6 lE6
  generalize W6.heap.size = a1 at h7 ⊢
  generalize W6.alloc (.cells #[.int .i64 e.k, .int .i64 e.a, .int .i64 e.x, .int .i64 e.n] 30) = W7 at h7 ⊢
  have hE7 := (h7.out.all (L1.length + 0) _ (at_n _ _ 0) : W7.heap[w.heap.size]? = some (.cells #[.int .i64 e.k, .int .i64 e.a, .int .i64 e.x, .int .i64 e.n] 30 (0, 0)))
  have k7 := cell_of (k := 0) hE7 rfl
  have lE7 := lt_of hE7
  obtain ⟨p8, c8, W8, r8, h8⟩ := append_l 41 h7.out (j := 2) rfl (some ⟨a1, 0, none⟩) 1 (q1 := row) (q2 := [e]) (n1 := N) (n2 := 1) (n := N + 1) hN.out rfl rfl (by omega) (fun _ => ⟨_, rfl, by have hv : Vec W7 30 4 (some ⟨a1, 0, none⟩) 1 1 (enL [e]) := h7.out.all (L1.length + 3) _ (at_n _ _ 3); exact cells_take (q := [e]) (k := 1) hv (Nat.le_refl _)⟩)
  have h8 : Hid (Apt W W8 (L1 ++ [obBlk w.heap.size 30 #[.int .i64 e.k, .int .i64 e.a, .int .i64 e.x, .int .i64 e.n], obBlk (w.heap.size + 1) 30 #[.int .i64 0, .int .i64 0, .int .i64 0, .int .i64 0], obE p8 c8 (row ++ [e]), obE (some ⟨a1, 0, none⟩) 1 [e]])) := h8
  refine flow_val (some 43) (.slice p8 (N + 1) c8) W8 _ rfl rfl ?run (exec_append rfl rfl rfl r8) ?_
  case run =>
    clear r8
    intro i o ho hi
    iterate 8 (rcases i with _ | i; · first | (exact absurd hi (by decide)) | (cases ho; exact exec_load_row 30 _ rfl w.heap.size rfl 30 _ (0, 0) _ hE7 Try.underlying30 rfl sizeEn) | (cases ho; go_simp; done))
    cases ho
  simp only [Act.put, List.setIfInBounds_toArray, List.set_cons_zero, List.set_cons_succ]
  clear r8 h7 hE7 k7 lE7
  have hE8 := (h8.out.all (L1.length + 0) _ (at_n _ _ 0) : W8.heap[w.heap.size]? = some (.cells #[.int .i64 e.k, .int .i64 e.a, .int .i64 e.x, .int .i64 e.n] 30 (0, 0)))
  have k8 := cell_of (k := 0) hE8 rfl
  have lE8 := lt_of hE8
  have h9 : Apt W W8 ((L1 ++ [obBlk w.heap.size 30 #[.int .i64 e.k, .int .i64 e.a, .int .i64 e.x, .int .i64 e.n], obBlk (w.heap.size + 1) 30 #[.int .i64 0, .int .i64 0, .int .i64 0, .int .i64 0], obE (some ⟨a1, 0, none⟩) 1 [e]]) ++ [obE p8 c8 (row ++ [e])]) := by
    refine h8.out.same ?_
    have := swap_last (L1 ++ [obBlk w.heap.size 30 #[.int .i64 e.k, .int .i64 e.a, .int .i64 e.x, .int .i64 e.n], obBlk (w.heap.size + 1) 30 #[.int .i64 0, .int .i64 0, .int .i64 0, .int .i64 0]]) (obE p8 c8 (row ++ [e])) (obE (some ⟨a1, 0, none⟩) 1 [e])
    simpa [List.append_assoc] using this
  have st := set_r h9 (by rw [List.getElem?_append_left hlL.out]; exact hiL.out) hn1.out e.k
  rw [hX1.out, List.length_append, hN.out, hA1.out, set_head hlL.out, hset.out] at st
  clear h9
  refine flow_ent (some 44) 37 #[.pointer (some ⟨X, 0, none⟩), .int .i64 e.k, .slice p8 (N + 1) c8] _ rfl rfl ?run (by go_simp) (st.mono ?_)
  case run =>
    clear st
    intro i o ho hi
    iterate 8 (rcases i with _ | i; · first | (exact absurd hi (by decide)) | (cases ho; exact exec_load_row 30 _ rfl w.heap.size rfl 30 _ (0, 0) _ hE8 Try.underlying30 rfl sizeEn) | (cases ho; go_simp; done))
    cases ho
  clear st h8 hE8 k8 lE8
  rintro o1 W9 ⟨rfl, h9⟩
  refine ⟨_, rfl, ?_⟩
  obtain ⟨u2, hu2⟩ : ∃ u2, Hid ((u1.st (u.A.mv.rp e.k) (row ++ [e]) p8 c8) = u2) := ⟨_, rfl⟩
  rw [hu2.out] at h9
  have hX2 : Hid (u2.X = X) := by rw [← hu2.out]; exact hX1.out
  have hA2 : Hid (u2.A = u.A.mv.st (u.A.mv.rp e.k) (row ++ [e])) := by
    rw [← hu2.out]
    show u1.A.st _ _ = _
    rw [hA1.out]
  have hn2 : Hid (u2.h = none) := by rw [← hu2.out]; rfl
  have h9 : Hid (Apt W W9 (l.set i (obR u2) ++ [obBlk w.heap.size 30 #[.int .i64 e.k, .int .i64 e.a, .int .i64 e.x, .int .i64 e.n], obBlk (w.heap.size + 1) 30 #[.int .i64 0, .int .i64 0, .int .i64 0, .int .i64 0], obE (some ⟨a1, 0, none⟩) 1 [e]])) := h9
  clear hu2 HC HR hiL hset hlL hL1 hX1 hA1 hn1 hrp hrc
  simp only [Act.put, List.setIfInBounds_toArray, List.set_cons_zero, List.set_cons_succ]
  first | show Exit.then _ _ Exit.normal _ _ | show Exit.inBlock _ _ Exit.normal _ _ | simp only [Flow]
  have hi2 : Hid (∀ m' : List Ob, (l.set i (obR u2) ++ m')[i]? = some (obR u2)) := fun m' => by rw [List.getElem?_append_left (by simpa using hlt.out), List.getElem?_set_self hlt.out]
  have hC : Hid (u2.A = C) := hA2.out.trans hCC.out
  obtain ⟨n, hn3⟩ : ∃ n, Hid (C.n = n) := ⟨_, rfl⟩
  have hwk : 8 ≤ n ∧ n ≤ 131072 := by
    have := (h9.out.all _ _ (hi2.out _) : RM W9 u2).wk
    rw [hC.out, hn3.out] at this
    exact ⟨this.1, this.2.1⟩
  have lf : Hid (∀ W', RM W' u2 → Calls Try.prog 22 #[.pointer (some ⟨X, 0, none⟩)] W' fun e' w' => e' = .returned (.int .i64 ((C.k - C.m : Nat) : Int)) ∧ ∃ d, w' = W'.drewN d) := fun W' h => by
    have := left_r h
    rw [hX2.out, hC.out] at this
    exact this
  have cells : Hid (∀ W', RM W' u2 → W'.cell? ⟨X, 0, none⟩ = some (.slice (some ⟨u2.P, 0, none⟩) n n) ∧ X < W'.heap.size) := fun W' h => by
    obtain ⟨a, _⟩ := h.cells
    have b := lt_of h.head
    rw [hX2.out] at a b
    rw [hC.out, hn3.out] at a
    exact ⟨a, b⟩
  clear hN hN2 hJ hJN hfj hrow
  by_cases h0 : C.k - C.m = 0
  · by_cases h1 : C.n < C.rows.length
    · by_cases h2 : C.n < 65536
      · skip
        have hd0 : Hid ((C.k - C.m : Nat) = 0) := by show _ = _; omega
        have hgt3 : n < C.rows.length := by have := hn3.out; omega
        have hgt : decide ((C.rows.length : Int) > (n : Int)) = true := by rw [decide_eq_true_eq]; have := hn3.out; omega
        have hgt2 : decide ((n : Int) < (C.rows.length : Int)) = true := by rw [decide_eq_true_eq]; have := hn3.out; omega
        have hlt7 : n < 65536 := by have := hn3.out; omega
        have hlt6 : decide ((n : Int) < 65536) = true := by rw [decide_eq_true_eq]; have := hn3.out; omega
        have hyes : Hid (C.k - C.m = 0 ∧ C.n < C.rows.length ∧ C.n < 65536) := ⟨h0, h1, h2⟩
        go_wp2
        refine region_flowG [(1, [2, 3, 4, 6, 7, 8, 9, 10]), (5, [11, 12, 13, 14, 15, 16, 17, 18, 19]), (20, [])] 20 [(45, .pointer (some ⟨X, 0, none⟩))] hmx (by kernel_rfl) (by decide) (by kernel_rfl) ?_
        simp only [fills, Act.put, List.setIfInBounds_toArray, List.set_cons_zero, List.set_cons_succ]
        have h10 : Hid (Apt W W9.drew (l.set i (obR u2) ++ [obBlk w.heap.size 30 #[.int .i64 e.k, .int .i64 e.a, .int .i64 e.x, .int .i64 e.n], obBlk (w.heap.size + 1) 30 #[.int .i64 0, .int .i64 0, .int .i64 0, .int .i64 0], obE (some ⟨a1, 0, none⟩) 1 [e]])) := h9.out.drew
        clear h9
        generalize W9.drew = W10 at h10 ⊢
        have lf1 := lf.out _ (h10.out.all _ _ (hi2.out _))
        refine flowG_only (1, [2, 3, 4, 6, 7, 8, 9, 10]) [(5, [11, 12, 13, 14, 15, 16, 17, 18, 19]), (20, [])] (by kernel_rfl) rfl ?run (stepG_call _ (some 46) 22 #[.pointer (some ⟨X, 0, none⟩)] rfl rfl (wanted_none rfl) (by go_simp) (lf1.mono ?_))
        case run =>
          clear lf1
          refine runsG_hide [(0, .pointer (some ⟨X, 0, none⟩)), (45, .pointer (some ⟨X, 0, none⟩))] ⟨rfl, rfl, trivial⟩ ?_
          rintro A ⟨e0, e45, _⟩
          intro i o ho h1 h2
          rcases i with _ | i
          · cases ho; exact Or.inl ⟨wanted_none rfl, by go_simp⟩
          rcases i with _ | i
          · exact absurd h1 (by decide)
          rcases i with _ | i
          · exact absurd h2 (by decide)
          rcases i with _ | i
          · exact absurd h2 (by decide)
          rcases i with _ | i
          · exact absurd h2 (by decide)
          rcases i with _ | i
          · exact absurd h1 (by decide)
          rcases i with _ | i
          · exact absurd h2 (by decide)
          rcases i with _ | i
          · exact absurd h2 (by decide)
          rcases i with _ | i
          · exact absurd h2 (by decide)
          rcases i with _ | i
          · exact absurd h2 (by decide)
          rcases i with _ | i
          · exact absurd h2 (by decide)
          rcases i with _ | i
          · exact absurd h2 (by decide)
          rcases i with _ | i
          · exact absurd h2 (by decide)
          rcases i with _ | i
          · exact absurd h2 (by decide)
          rcases i with _ | i
          · exact absurd h2 (by decide)
          rcases i with _ | i
          · exact absurd h2 (by decide)
          rcases i with _ | i
          · exact absurd h2 (by decide)
          rcases i with _ | i
          · exact absurd h2 (by decide)
          rcases i with _ | i
          · exact absurd h2 (by decide)
          rcases i with _ | i
          · exact absurd h2 (by decide)
          rcases i with _ | i
          · exact absurd h1 (by decide)
          cases ho
        clear lf1
        rintro o1 w11 ⟨rfl, d, rfl⟩
        refine ⟨_, rfl, [(47, .bool true), (48, .bool true), (49, .pointer (some ⟨X, 0, none⟩)), (51, .pointer (some ⟨X, 0, none⟩)), (52, .pointer (some ⟨X, 0, none⟩)), (53, .pointer (some ⟨X, 0, none⟩)), (54, .slice (some ⟨u2.P, 0, none⟩) n n), (55, .int .i64 (n : Int))], by kernel_rfl, ?_⟩
        simp only [fills, Act.put, List.setIfInBounds_toArray, List.set_cons_zero, List.set_cons_succ]
        have h11 : Hid (Apt W (W10.drewN d) (l.set i (obR u2) ++ [obBlk w.heap.size 30 #[.int .i64 e.k, .int .i64 e.a, .int .i64 e.x, .int .i64 e.n], obBlk (w.heap.size + 1) 30 #[.int .i64 0, .int .i64 0, .int .i64 0, .int .i64 0], obE (some ⟨a1, 0, none⟩) 1 [e]])) := h10.out.drewN d
        clear h10
        generalize W10.drewN d = W11 at h11 ⊢
        obtain ⟨cA, lX⟩ := cells.out _ (h11.out.all _ _ (hi2.out _))
        have le1 := rlen_s h11.out (hi2.out _) hX2.out hn2.out (by rw [hC.out]; exact hfC.out)
        rw [hC.out] at le1
        rw [hd0.out]
        refine flowG_only (5, [11, 12, 13, 14, 15, 16, 17, 18, 19]) [(20, [])] (by kernel_rfl) rfl ?run (stepG_call _ (some 50) 19 #[.pointer (some ⟨X, 0, none⟩)] rfl rfl (wanted_ev rfl rfl rfl rfl) (by go_simp) (le1.mono ?_))
        case run =>
          clear le1
          refine runsG_hide [(0, .pointer (some ⟨X, 0, none⟩)), (45, .pointer (some ⟨X, 0, none⟩)), (46, .int .i64 0), (47, .bool true), (48, .bool true), (49, .pointer (some ⟨X, 0, none⟩)), (51, .pointer (some ⟨X, 0, none⟩)), (52, .pointer (some ⟨X, 0, none⟩)), (53, .pointer (some ⟨X, 0, none⟩)), (54, .slice (some ⟨u2.P, 0, none⟩) n n), (55, .int .i64 (n : Int))] ⟨rfl, rfl, rfl, rfl, rfl, rfl, rfl, rfl, rfl, rfl, rfl, trivial⟩ ?_
          rintro A ⟨e0, e45, e46, e47, e48, e49, e51, e52, e53, e54, e55, _⟩
          intro i o ho h1 h2
          rcases i with _ | i
          · cases ho; exact Or.inl ⟨wanted_none rfl, by go_simp⟩
          rcases i with _ | i
          · exact absurd h1 (by decide)
          rcases i with _ | i
          · cases ho; exact Or.inl ⟨wanted_none rfl, by go_simp⟩
          rcases i with _ | i
          · cases ho; exact Or.inl ⟨wanted_none rfl, by go_simp⟩
          rcases i with _ | i
          · cases ho; exact Or.inl ⟨wanted_ev rfl rfl rfl (by assumption), by go_simp⟩
          rcases i with _ | i
          · exact absurd h1 (by decide)
          rcases i with _ | i
          · cases ho; exact Or.inl ⟨wanted_ev rfl rfl rfl (by assumption), by go_simp⟩
          rcases i with _ | i
          · cases ho; exact Or.inl ⟨wanted_ev rfl rfl rfl (by assumption), by go_simp⟩
          rcases i with _ | i
          · cases ho; exact Or.inl ⟨wanted_ev rfl rfl rfl (by assumption), by go_simp⟩
          rcases i with _ | i
          · cases ho; exact Or.inl ⟨wanted_ev rfl rfl rfl (by assumption), by go_simp⟩
          rcases i with _ | i
          · cases ho; exact Or.inl ⟨wanted_ev rfl rfl rfl (by assumption), by go_simp⟩
          rcases i with _ | i
          · exact absurd h2 (by decide)
          rcases i with _ | i
          · exact absurd h2 (by decide)
          rcases i with _ | i
          · exact absurd h2 (by decide)
          rcases i with _ | i
          · exact absurd h2 (by decide)
          rcases i with _ | i
          · exact absurd h2 (by decide)
          rcases i with _ | i
          · exact absurd h2 (by decide)
          rcases i with _ | i
          · exact absurd h2 (by decide)
          rcases i with _ | i
          · exact absurd h2 (by decide)
          rcases i with _ | i
          · exact absurd h2 (by decide)
          rcases i with _ | i
          · exact absurd h1 (by decide)
          cases ho
        clear le1 cA lX
        rintro o1 W12 ⟨rfl, h12⟩
        refine ⟨_, rfl, [(56, .bool true), (57, .bool true), (58, .bool true), (59, .pointer (some ⟨X, 0, none⟩)), (60, .pointer (some ⟨X, 0, none⟩)), (61, .pointer (some ⟨X, 0, none⟩)), (62, .slice (some ⟨u2.P, 0, none⟩) n n), (63, .int .i64 (n : Int)), (64, .bool true)], by kernel_rfl, ?_⟩
        simp only [fills, Act.put, List.setIfInBounds_toArray, List.set_cons_zero, List.set_cons_succ]
        clear h11
        obtain ⟨cA, lX⟩ := cells.out _ (h12.out.all _ _ (hi2.out _))
        refine flowG_only (20, []) [] (by kernel_rfl) rfl ?run (stepG_val _ (some 65) (.bool true) W12 [] rfl rfl (wanted_none rfl) (by go_simp) rfl ?_)
        case run =>
          refine runsG_hide [(0, .pointer (some ⟨X, 0, none⟩)), (45, .pointer (some ⟨X, 0, none⟩)), (46, .int .i64 0), (47, .bool true), (48, .bool true), (49, .pointer (some ⟨X, 0, none⟩)), (51, .pointer (some ⟨X, 0, none⟩)), (52, .pointer (some ⟨X, 0, none⟩)), (53, .pointer (some ⟨X, 0, none⟩)), (54, .slice (some ⟨u2.P, 0, none⟩) n n), (55, .int .i64 (n : Int)), (50, .int .i64 (C.rows.length : Int)), (56, .bool true), (57, .bool true), (58, .bool true), (59, .pointer (some ⟨X, 0, none⟩)), (60, .pointer (some ⟨X, 0, none⟩)), (61, .pointer (some ⟨X, 0, none⟩)), (62, .slice (some ⟨u2.P, 0, none⟩) n n), (63, .int .i64 (n : Int)), (64, .bool true)] ⟨rfl, rfl, rfl, rfl, rfl, rfl, rfl, rfl, rfl, rfl, rfl, rfl, rfl, rfl, rfl, rfl, rfl, rfl, rfl, rfl, rfl, trivial⟩ ?_
          rintro A ⟨e0, e45, e46, e47, e48, e49, e51, e52, e53, e54, e55, e50, e56, e57, e58, e59, e60, e61, e62, e63, e64, _⟩
          intro i o ho h1 h2
          rcases i with _ | i
          · cases ho; exact Or.inl ⟨wanted_none rfl, by go_simp⟩
          rcases i with _ | i
          · exact absurd h1 (by decide)
          rcases i with _ | i
          · cases ho; exact Or.inl ⟨wanted_none rfl, by go_simp⟩
          rcases i with _ | i
          · cases ho; exact Or.inl ⟨wanted_none rfl, by go_simp⟩
          rcases i with _ | i
          · cases ho; exact Or.inl ⟨wanted_ev rfl rfl rfl (by assumption), by go_simp⟩
          rcases i with _ | i
          · exact absurd h1 (by decide)
          rcases i with _ | i
          · cases ho; exact Or.inl ⟨wanted_ev rfl rfl rfl (by assumption), by go_simp⟩
          rcases i with _ | i
          · cases ho; exact Or.inl ⟨wanted_ev rfl rfl rfl (by assumption), by go_simp⟩
          rcases i with _ | i
          · cases ho; exact Or.inl ⟨wanted_ev rfl rfl rfl (by assumption), by go_simp⟩
          rcases i with _ | i
          · cases ho; exact Or.inl ⟨wanted_ev rfl rfl rfl (by assumption), by go_simp⟩
          rcases i with _ | i
          · cases ho; exact Or.inl ⟨wanted_ev rfl rfl rfl (by assumption), by go_simp⟩
          rcases i with _ | i
          · cases ho; exact Or.inl ⟨wanted_ev rfl rfl rfl (by assumption), by go_simp⟩
          rcases i with _ | i
          · cases ho; exact Or.inl ⟨wanted_none rfl, by go_simp⟩
          rcases i with _ | i
          · cases ho; exact Or.inl ⟨wanted_none rfl, by go_simp⟩
          rcases i with _ | i
          · cases ho; exact Or.inl ⟨wanted_ev rfl rfl rfl (by assumption), by go_simp⟩
          rcases i with _ | i
          · cases ho; exact Or.inl ⟨wanted_ev rfl rfl rfl (by assumption), by go_simp⟩
          rcases i with _ | i
          · cases ho; exact Or.inl ⟨wanted_ev rfl rfl rfl (by assumption), by go_simp⟩
          rcases i with _ | i
          · cases ho; exact Or.inl ⟨wanted_ev rfl rfl rfl (by assumption), by go_simp⟩
          rcases i with _ | i
          · cases ho; exact Or.inl ⟨wanted_ev rfl rfl rfl (by assumption), by go_simp⟩
          rcases i with _ | i
          · cases ho; exact Or.inl ⟨wanted_ev rfl rfl rfl (by assumption), by go_simp⟩
          rcases i with _ | i
          · exact absurd h1 (by decide)
          cases ho
        simp only [fills, Act.put, List.setIfInBounds_toArray, List.set_cons_zero, List.set_cons_succ]
        refine flowG_done ?_
        first | show Exit.then _ _ Exit.normal _ _ | show Exit.inBlock _ _ Exit.normal _ _
        clear cA lX
        clear hlt6 hlt7 hgt hgt2 hgt3
        change Hid (C.n < 65536) at h2
        change Hid (C.n < C.rows.length) at h1
        have hR := (h12.out.all _ _ (hi2.out _) : RM W12 u2)
        obtain ⟨cA, lX⟩ := cells.out _ hR
        obtain ⟨_, c1, c2, _⟩ := hR.cells
        rw [hX2.out] at c1 c2
        have f0 : W12.frozen? ⟨X, 0, none⟩ = false := by rw [← hX2.out]; exact fr0 hR.head 0
        have f1 : W12.frozen? ⟨X, 1, none⟩ = false := by rw [← hX2.out]; exact fr0 hR.head 1
        have f2 : W12.frozen? ⟨X, 2, none⟩ = false := by rw [← hX2.out]; exact fr0 hR.head 2
        have hmk := run_make_row' (P := Try.prog) 35 41 (.slice none 0 0) 24 Try.underlying35 infoSE rfl .i64 .i64 (2 * n) (by omega) (by omega)
        rw [show ((2 * n : Nat) : Int) = 2 * (n : Int) by omega] at hmk
        have w1 : wrap64 (2 * (n : Int)) = 2 * (n : Int) := IntWalk.wrap64_in _ ⟨by omega, by omega⟩
        have fin : Hid (∀ w', w' = (((W12.setCell ⟨X, 1, none⟩ (.slice (some ⟨u2.P, 0, none⟩) n n)).setCell ⟨X, 2, none⟩ (.int .i64 0)).setCell ⟨X, 0, none⟩ (.slice (some ⟨W12.heap.size, 0, none⟩) (2 * n) (2 * n))).alloc (.cells (madeCells #[.slice none 0 0] (2 * n)) 41) → Apt W w' (l.set i (obR (u2.gr W12.heap.size)) ++ [obBlk w.heap.size 30 #[.int .i64 e.k, .int .i64 e.a, .int .i64 e.x, .int .i64 e.n], obBlk (w.heap.size + 1) 30 #[.int .i64 0, .int .i64 0, .int .i64 0, .int .i64 0], obE (some ⟨a1, 0, none⟩) 1 [e]])) := fun w' ew => by
          have o1 : Out (fun k => k = u2.X) W12 w' := by
            rw [ew]
            exact ((((Out.refl (fun k => k = u2.X) W12).setCell (a := ⟨X, 1, none⟩) hX2.out.symm _).setCell (a := ⟨X, 2, none⟩) hX2.out.symm _).setCell (a := ⟨X, 0, none⟩) hX2.out.symm _).alloc _ _
          have hnn : u2.A.n = n := by rw [hC.out]; exact hn3.out
          have hs0 : (((W12.setCell ⟨X, 1, none⟩ (.slice (some ⟨u2.P, 0, none⟩) n n)).setCell ⟨X, 2, none⟩ (.int .i64 0)).setCell ⟨X, 0, none⟩ (.slice (some ⟨W12.heap.size, 0, none⟩) (2 * n) (2 * n))).heap.size = W12.heap.size := by rw [nblk_setCell, nblk_setCell, nblk_setCell]
          have hh := blk_set (blk_set (blk_set hR.head 1 (.slice (some ⟨u2.P, 0, none⟩) n n)) 2 (.int .i64 0)) 0 (.slice (some ⟨W12.heap.size, 0, none⟩) (2 * n) (2 * n))
          rw [hX2.out] at hh
          have hh2 := (blk_alloc_lt _ (.cells (madeCells #[.slice none 0 0] (2 * n)) 41) X (by rw [hs0]; exact lX)).trans hh
          have hx : w'.heap[u2.X]? = some (.cells (headC (u2.gr W12.heap.size)) 37 (0, 0)) := by
            rw [ew, hX2.out, hh2]
            have e3 : (u2.gr W12.heap.size).oP = some ⟨u2.P, 0, none⟩ := if_neg (by show ¬ u2.A.n = 0; omega)
            unfold headC
            rw [e3]
            show _ = some (Obj.cells #[.slice (some ⟨W12.heap.size, 0, none⟩) (2 * u2.A.n) (2 * u2.A.n), .slice (some ⟨u2.P, 0, none⟩) u2.A.n u2.A.n, .int .i64 0, .int .i64 u2.A.s] _ _)
            rw [hnn]
            rfl
          have hNn : w'.heap[W12.heap.size]? = some (.cells (madeCells #[.slice none 0 0] (2 * u2.A.n)) 41 (0, 0)) := by
            rw [ew, hnn]
            have := blk_alloc_new (((W12.setCell ⟨X, 1, none⟩ (.slice (some ⟨u2.P, 0, none⟩) n n)).setCell ⟨X, 2, none⟩ (.int .i64 0)).setCell ⟨X, 0, none⟩ (.slice (some ⟨W12.heap.size, 0, none⟩) (2 * n) (2 * n))) (.cells (madeCells #[.slice none 0 0] (2 * n)) 41)
            rw [hs0] at this
            exact this
          have := gr_s h12.out (hi2.out _) hn2.out (by rw [hnn]; exact hn3.out ▸ h2.out) o1 hx hNn
          rw [set_head (by simpa using hlt.out), List.set_set] at this
          exact this
        clear hR
        go_wp2_with (first | (generalize hW : World.alloc _ _ = W14; have h14 := fin.out _ hW.symm; clear hW fin; have hR14 := (h14.all ((l.set i (obR (u2.gr W12.heap.size))).length + 1) _ (at_n _ _ 1) : W14.heap[(w.heap.size + 1)]? = some (.cells #[.int .i64 0, .int .i64 0, .int .i64 0, .int .i64 0] 30 (0, 0))); have lR14 := lt_of hR14; refine wpList_store_en rfl rfl (.tmp 4) (.tmp 86) rfl (w.heap.size + 1) rfl rfl hR14 rfl ?_; intro W15 h15 o15; have h16 : Hid (Apt W W15 (l.set i (obR (u2.gr W12.heap.size)))) := (by have := h14.upd (at_n _ _ 1) (o' := obBlk (w.heap.size + 1) 30 #[.int .i64 0, .int .i64 0, .int .i64 0, .int .i64 0]) h15 ⟨o15, fun _ hk => .inl hk⟩; rw [set_n] at this; exact this.heads)))
        exact bodyPost_ret (results_row_tmp Try.results13 _ _ (w.heap.size + 1) 30 _ (0, 0) _ rfl h15 Try.underlying30 rfl sizeEn) rfl ⟨rfl, _, h16.out, hX2.out, by first | (show u2.A.gr = C.gr; rw [hC.out]; done) | (rw [if_pos hyes.out]; show u2.A.gr = _; rw [hC.out]), rfl⟩
      · skip
        have hd0 : Hid ((C.k - C.m : Nat) = 0) := by show _ = _; omega
        have hgt3 : n < C.rows.length := by have := hn3.out; omega
        have hgt : decide ((C.rows.length : Int) > (n : Int)) = true := by rw [decide_eq_true_eq]; have := hn3.out; omega
        have hgt2 : decide ((n : Int) < (C.rows.length : Int)) = true := by rw [decide_eq_true_eq]; have := hn3.out; omega
        have hlt7 : 65536 ≤ n := by have := hn3.out; omega
        have hlt6 : decide ((n : Int) < 65536) = false := by rw [decide_eq_false_iff_not]; have := hn3.out; omega
        have hno : Hid (¬ (C.k - C.m = 0 ∧ C.n < C.rows.length ∧ C.n < 65536)) := fun x => h2 x.2.2
        go_wp2
        refine region_flowG [(1, [2, 3, 4, 6, 7, 8, 9, 10]), (5, [11, 12, 13, 14, 15, 16, 17, 18, 19]), (20, [])] 20 [(45, .pointer (some ⟨X, 0, none⟩))] hmx (by kernel_rfl) (by decide) (by kernel_rfl) ?_
        simp only [fills, Act.put, List.setIfInBounds_toArray, List.set_cons_zero, List.set_cons_succ]
        have h10 : Hid (Apt W W9.drew (l.set i (obR u2) ++ [obBlk w.heap.size 30 #[.int .i64 e.k, .int .i64 e.a, .int .i64 e.x, .int .i64 e.n], obBlk (w.heap.size + 1) 30 #[.int .i64 0, .int .i64 0, .int .i64 0, .int .i64 0], obE (some ⟨a1, 0, none⟩) 1 [e]])) := h9.out.drew
        clear h9
        generalize W9.drew = W10 at h10 ⊢
        have lf1 := lf.out _ (h10.out.all _ _ (hi2.out _))
        refine flowG_only (1, [2, 3, 4, 6, 7, 8, 9, 10]) [(5, [11, 12, 13, 14, 15, 16, 17, 18, 19]), (20, [])] (by kernel_rfl) rfl ?run (stepG_call _ (some 46) 22 #[.pointer (some ⟨X, 0, none⟩)] rfl rfl (wanted_none rfl) (by go_simp) (lf1.mono ?_))
        case run =>
          clear lf1
          refine runsG_hide [(0, .pointer (some ⟨X, 0, none⟩)), (45, .pointer (some ⟨X, 0, none⟩))] ⟨rfl, rfl, trivial⟩ ?_
          rintro A ⟨e0, e45, _⟩
          intro i o ho h1 h2
          rcases i with _ | i
          · cases ho; exact Or.inl ⟨wanted_none rfl, by go_simp⟩
          rcases i with _ | i
          · exact absurd h1 (by decide)
          rcases i with _ | i
          · exact absurd h2 (by decide)
          rcases i with _ | i
          · exact absurd h2 (by decide)
          rcases i with _ | i
          · exact absurd h2 (by decide)
          rcases i with _ | i
          · exact absurd h1 (by decide)
          rcases i with _ | i
          · exact absurd h2 (by decide)
          rcases i with _ | i
          · exact absurd h2 (by decide)
          rcases i with _ | i
          · exact absurd h2 (by decide)
          rcases i with _ | i
          · exact absurd h2 (by decide)
          rcases i with _ | i
          · exact absurd h2 (by decide)
          rcases i with _ | i
          · exact absurd h2 (by decide)
          rcases i with _ | i
          · exact absurd h2 (by decide)
          rcases i with _ | i
          · exact absurd h2 (by decide)
          rcases i with _ | i
          · exact absurd h2 (by decide)
          rcases i with _ | i
          · exact absurd h2 (by decide)
          rcases i with _ | i
          · exact absurd h2 (by decide)
          rcases i with _ | i
          · exact absurd h2 (by decide)
          rcases i with _ | i
          · exact absurd h2 (by decide)
          rcases i with _ | i
          · exact absurd h2 (by decide)
          rcases i with _ | i
          · exact absurd h1 (by decide)
          cases ho
        clear lf1
        rintro o1 w11 ⟨rfl, d, rfl⟩
        refine ⟨_, rfl, [(47, .bool true), (48, .bool true), (49, .pointer (some ⟨X, 0, none⟩)), (51, .pointer (some ⟨X, 0, none⟩)), (52, .pointer (some ⟨X, 0, none⟩)), (53, .pointer (some ⟨X, 0, none⟩)), (54, .slice (some ⟨u2.P, 0, none⟩) n n), (55, .int .i64 (n : Int))], by kernel_rfl, ?_⟩
        simp only [fills, Act.put, List.setIfInBounds_toArray, List.set_cons_zero, List.set_cons_succ]
        have h11 : Hid (Apt W (W10.drewN d) (l.set i (obR u2) ++ [obBlk w.heap.size 30 #[.int .i64 e.k, .int .i64 e.a, .int .i64 e.x, .int .i64 e.n], obBlk (w.heap.size + 1) 30 #[.int .i64 0, .int .i64 0, .int .i64 0, .int .i64 0], obE (some ⟨a1, 0, none⟩) 1 [e]])) := h10.out.drewN d
        clear h10
        generalize W10.drewN d = W11 at h11 ⊢
        obtain ⟨cA, lX⟩ := cells.out _ (h11.out.all _ _ (hi2.out _))
        have le1 := rlen_s h11.out (hi2.out _) hX2.out hn2.out (by rw [hC.out]; exact hfC.out)
        rw [hC.out] at le1
        rw [hd0.out]
        refine flowG_only (5, [11, 12, 13, 14, 15, 16, 17, 18, 19]) [(20, [])] (by kernel_rfl) rfl ?run (stepG_call _ (some 50) 19 #[.pointer (some ⟨X, 0, none⟩)] rfl rfl (wanted_ev rfl rfl rfl rfl) (by go_simp) (le1.mono ?_))
        case run =>
          clear le1
          refine runsG_hide [(0, .pointer (some ⟨X, 0, none⟩)), (45, .pointer (some ⟨X, 0, none⟩)), (46, .int .i64 0), (47, .bool true), (48, .bool true), (49, .pointer (some ⟨X, 0, none⟩)), (51, .pointer (some ⟨X, 0, none⟩)), (52, .pointer (some ⟨X, 0, none⟩)), (53, .pointer (some ⟨X, 0, none⟩)), (54, .slice (some ⟨u2.P, 0, none⟩) n n), (55, .int .i64 (n : Int))] ⟨rfl, rfl, rfl, rfl, rfl, rfl, rfl, rfl, rfl, rfl, rfl, trivial⟩ ?_
          rintro A ⟨e0, e45, e46, e47, e48, e49, e51, e52, e53, e54, e55, _⟩
          intro i o ho h1 h2
          rcases i with _ | i
          · cases ho; exact Or.inl ⟨wanted_none rfl, by go_simp⟩
          rcases i with _ | i
          · exact absurd h1 (by decide)
          rcases i with _ | i
          · cases ho; exact Or.inl ⟨wanted_none rfl, by go_simp⟩
          rcases i with _ | i
          · cases ho; exact Or.inl ⟨wanted_none rfl, by go_simp⟩
          rcases i with _ | i
          · cases ho; exact Or.inl ⟨wanted_ev rfl rfl rfl (by assumption), by go_simp⟩
          rcases i with _ | i
          · exact absurd h1 (by decide)
          rcases i with _ | i
          · cases ho; exact Or.inl ⟨wanted_ev rfl rfl rfl (by assumption), by go_simp⟩
          rcases i with _ | i
          · cases ho; exact Or.inl ⟨wanted_ev rfl rfl rfl (by assumption), by go_simp⟩
          rcases i with _ | i
          · cases ho; exact Or.inl ⟨wanted_ev rfl rfl rfl (by assumption), by go_simp⟩
          rcases i with _ | i
          · cases ho; exact Or.inl ⟨wanted_ev rfl rfl rfl (by assumption), by go_simp⟩
          rcases i with _ | i
          · cases ho; exact Or.inl ⟨wanted_ev rfl rfl rfl (by assumption), by go_simp⟩
          rcases i with _ | i
          · exact absurd h2 (by decide)
          rcases i with _ | i
          · exact absurd h2 (by decide)
          rcases i with _ | i
          · exact absurd h2 (by decide)
          rcases i with _ | i
          · exact absurd h2 (by decide)
          rcases i with _ | i
          · exact absurd h2 (by decide)
          rcases i with _ | i
          · exact absurd h2 (by decide)
          rcases i with _ | i
          · exact absurd h2 (by decide)
          rcases i with _ | i
          · exact absurd h2 (by decide)
          rcases i with _ | i
          · exact absurd h2 (by decide)
          rcases i with _ | i
          · exact absurd h1 (by decide)
          cases ho
        clear le1 cA lX
        rintro o1 W12 ⟨rfl, h12⟩
        refine ⟨_, rfl, [(56, .bool true), (57, .bool true), (58, .bool true), (59, .pointer (some ⟨X, 0, none⟩)), (60, .pointer (some ⟨X, 0, none⟩)), (61, .pointer (some ⟨X, 0, none⟩)), (62, .slice (some ⟨u2.P, 0, none⟩) n n), (63, .int .i64 (n : Int)), (64, .bool false)], by kernel_rfl, ?_⟩
        simp only [fills, Act.put, List.setIfInBounds_toArray, List.set_cons_zero, List.set_cons_succ]
        clear h11
        obtain ⟨cA, lX⟩ := cells.out _ (h12.out.all _ _ (hi2.out _))
        refine flowG_only (20, []) [] (by kernel_rfl) rfl ?run (stepG_val _ (some 65) (.bool false) W12 [] rfl rfl (wanted_none rfl) (by go_simp) rfl ?_)
        case run =>
          refine runsG_hide [(0, .pointer (some ⟨X, 0, none⟩)), (45, .pointer (some ⟨X, 0, none⟩)), (46, .int .i64 0), (47, .bool true), (48, .bool true), (49, .pointer (some ⟨X, 0, none⟩)), (51, .pointer (some ⟨X, 0, none⟩)), (52, .pointer (some ⟨X, 0, none⟩)), (53, .pointer (some ⟨X, 0, none⟩)), (54, .slice (some ⟨u2.P, 0, none⟩) n n), (55, .int .i64 (n : Int)), (50, .int .i64 (C.rows.length : Int)), (56, .bool true), (57, .bool true), (58, .bool true), (59, .pointer (some ⟨X, 0, none⟩)), (60, .pointer (some ⟨X, 0, none⟩)), (61, .pointer (some ⟨X, 0, none⟩)), (62, .slice (some ⟨u2.P, 0, none⟩) n n), (63, .int .i64 (n : Int)), (64, .bool false)] ⟨rfl, rfl, rfl, rfl, rfl, rfl, rfl, rfl, rfl, rfl, rfl, rfl, rfl, rfl, rfl, rfl, rfl, rfl, rfl, rfl, rfl, trivial⟩ ?_
          rintro A ⟨e0, e45, e46, e47, e48, e49, e51, e52, e53, e54, e55, e50, e56, e57, e58, e59, e60, e61, e62, e63, e64, _⟩
          intro i o ho h1 h2
          rcases i with _ | i
          · cases ho; exact Or.inl ⟨wanted_none rfl, by go_simp⟩
          rcases i with _ | i
          · exact absurd h1 (by decide)
          rcases i with _ | i
          · cases ho; exact Or.inl ⟨wanted_none rfl, by go_simp⟩
          rcases i with _ | i
          · cases ho; exact Or.inl ⟨wanted_none rfl, by go_simp⟩
          rcases i with _ | i
          · cases ho; exact Or.inl ⟨wanted_ev rfl rfl rfl (by assumption), by go_simp⟩
          rcases i with _ | i
          · exact absurd h1 (by decide)
          rcases i with _ | i
          · cases ho; exact Or.inl ⟨wanted_ev rfl rfl rfl (by assumption), by go_simp⟩
          rcases i with _ | i
          · cases ho; exact Or.inl ⟨wanted_ev rfl rfl rfl (by assumption), by go_simp⟩
          rcases i with _ | i
          · cases ho; exact Or.inl ⟨wanted_ev rfl rfl rfl (by assumption), by go_simp⟩
          rcases i with _ | i
          · cases ho; exact Or.inl ⟨wanted_ev rfl rfl rfl (by assumption), by go_simp⟩
          rcases i with _ | i
          · cases ho; exact Or.inl ⟨wanted_ev rfl rfl rfl (by assumption), by go_simp⟩
          rcases i with _ | i
          · cases ho; exact Or.inl ⟨wanted_ev rfl rfl rfl (by assumption), by go_simp⟩
          rcases i with _ | i
          · cases ho; exact Or.inl ⟨wanted_none rfl, by go_simp⟩
          rcases i with _ | i
          · cases ho; exact Or.inl ⟨wanted_none rfl, by go_simp⟩
          rcases i with _ | i
          · cases ho; exact Or.inl ⟨wanted_ev rfl rfl rfl (by assumption), by go_simp⟩
          rcases i with _ | i
          · cases ho; exact Or.inl ⟨wanted_ev rfl rfl rfl (by assumption), by go_simp⟩
          rcases i with _ | i
          · cases ho; exact Or.inl ⟨wanted_ev rfl rfl rfl (by assumption), by go_simp⟩
          rcases i with _ | i
          · cases ho; exact Or.inl ⟨wanted_ev rfl rfl rfl (by assumption), by go_simp⟩
          rcases i with _ | i
          · cases ho; exact Or.inl ⟨wanted_ev rfl rfl rfl (by assumption), by go_simp⟩
          rcases i with _ | i
          · cases ho; exact Or.inl ⟨wanted_ev rfl rfl rfl (by assumption), by go_simp⟩
          rcases i with _ | i
          · exact absurd h1 (by decide)
          cases ho
        simp only [fills, Act.put, List.setIfInBounds_toArray, List.set_cons_zero, List.set_cons_succ]
        refine flowG_done ?_
        first | show Exit.then _ _ Exit.normal _ _ | show Exit.inBlock _ _ Exit.normal _ _
        clear cA lX
        clear hlt6 hlt7 hgt hgt2 hgt3
        change Hid (¬ C.n < 65536) at h2
        change Hid (C.n < C.rows.length) at h1
        have hR9 := (h12.out.all ((l.set i (obR u2)).length + 1) _ (at_n _ _ 1) : W12.heap[(w.heap.size + 1)]? = some (.cells #[.int .i64 0, .int .i64 0, .int .i64 0, .int .i64 0] 30 (0, 0)))
        have lR9 := lt_of hR9
        go_wp2_with (first | (refine wpList_store_en rfl rfl (.tmp 4) (.tmp 86) rfl (w.heap.size + 1) rfl rfl hR9 rfl ?_; intro W13 h13 o13; have h14 : Hid (Apt W W13 (l.set i (obR u2))) := (by have := h12.out.upd (at_n _ _ 1) (o' := obBlk (w.heap.size + 1) 30 #[.int .i64 0, .int .i64 0, .int .i64 0, .int .i64 0]) h13 ⟨o13, fun _ hk => .inl hk⟩; rw [set_n] at this; exact this.heads)))
        exact bodyPost_ret (results_row_tmp Try.results13 _ _ (w.heap.size + 1) 30 _ (0, 0) _ rfl h13 Try.underlying30 rfl sizeEn) rfl ⟨rfl, u2, h14.out, hX2.out, by first | exact hC.out | (rw [if_neg hno.out]; exact hC.out), hn2.out⟩
    · skip
      have hd0 : Hid ((C.k - C.m : Nat) = 0) := by show _ = _; omega
      have hgt3 : C.rows.length ≤ n := by have := hn3.out; omega
      have hgt : decide ((C.rows.length : Int) > (n : Int)) = false := by rw [decide_eq_false_iff_not]; have := hn3.out; omega
      have hgt2 : decide ((n : Int) < (C.rows.length : Int)) = false := by rw [decide_eq_false_iff_not]; have := hn3.out; omega
      have hno : Hid (¬ (C.k - C.m = 0 ∧ C.n < C.rows.length ∧ C.n < 65536)) := fun x => h1 x.2.1
      go_wp2
      refine region_flowG [(1, [2, 3, 4, 6, 7, 8, 9, 10]), (5, [11, 12, 13, 14, 15, 16, 17, 18, 19]), (20, [])] 20 [(45, .pointer (some ⟨X, 0, none⟩))] hmx (by kernel_rfl) (by decide) (by kernel_rfl) ?_
      simp only [fills, Act.put, List.setIfInBounds_toArray, List.set_cons_zero, List.set_cons_succ]
      have h10 : Hid (Apt W W9.drew (l.set i (obR u2) ++ [obBlk w.heap.size 30 #[.int .i64 e.k, .int .i64 e.a, .int .i64 e.x, .int .i64 e.n], obBlk (w.heap.size + 1) 30 #[.int .i64 0, .int .i64 0, .int .i64 0, .int .i64 0], obE (some ⟨a1, 0, none⟩) 1 [e]])) := h9.out.drew
      clear h9
      generalize W9.drew = W10 at h10 ⊢
      have lf1 := lf.out _ (h10.out.all _ _ (hi2.out _))
      refine flowG_only (1, [2, 3, 4, 6, 7, 8, 9, 10]) [(5, [11, 12, 13, 14, 15, 16, 17, 18, 19]), (20, [])] (by kernel_rfl) rfl ?run (stepG_call _ (some 46) 22 #[.pointer (some ⟨X, 0, none⟩)] rfl rfl (wanted_none rfl) (by go_simp) (lf1.mono ?_))
      case run =>
        clear lf1
        refine runsG_hide [(0, .pointer (some ⟨X, 0, none⟩)), (45, .pointer (some ⟨X, 0, none⟩))] ⟨rfl, rfl, trivial⟩ ?_
        rintro A ⟨e0, e45, _⟩
        intro i o ho h1 h2
        rcases i with _ | i
        · cases ho; exact Or.inl ⟨wanted_none rfl, by go_simp⟩
        rcases i with _ | i
        · exact absurd h1 (by decide)
        rcases i with _ | i
        · exact absurd h2 (by decide)
        rcases i with _ | i
        · exact absurd h2 (by decide)
        rcases i with _ | i
        · exact absurd h2 (by decide)
        rcases i with _ | i
        · exact absurd h1 (by decide)
        rcases i with _ | i
        · exact absurd h2 (by decide)
        rcases i with _ | i
        · exact absurd h2 (by decide)
        rcases i with _ | i
        · exact absurd h2 (by decide)
        rcases i with _ | i
        · exact absurd h2 (by decide)
        rcases i with _ | i
        · exact absurd h2 (by decide)
        rcases i with _ | i
        · exact absurd h2 (by decide)
        rcases i with _ | i
        · exact absurd h2 (by decide)
        rcases i with _ | i
        · exact absurd h2 (by decide)
        rcases i with _ | i
        · exact absurd h2 (by decide)
        rcases i with _ | i
        · exact absurd h2 (by decide)
        rcases i with _ | i
        · exact absurd h2 (by decide)
        rcases i with _ | i
        · exact absurd h2 (by decide)
        rcases i with _ | i
        · exact absurd h2 (by decide)
        rcases i with _ | i
        · exact absurd h2 (by decide)
        rcases i with _ | i
        · exact absurd h1 (by decide)
        cases ho
      clear lf1
      rintro o1 w11 ⟨rfl, d, rfl⟩
      refine ⟨_, rfl, [(47, .bool true), (48, .bool true), (49, .pointer (some ⟨X, 0, none⟩)), (51, .pointer (some ⟨X, 0, none⟩)), (52, .pointer (some ⟨X, 0, none⟩)), (53, .pointer (some ⟨X, 0, none⟩)), (54, .slice (some ⟨u2.P, 0, none⟩) n n), (55, .int .i64 (n : Int))], by kernel_rfl, ?_⟩
      simp only [fills, Act.put, List.setIfInBounds_toArray, List.set_cons_zero, List.set_cons_succ]
      have h11 : Hid (Apt W (W10.drewN d) (l.set i (obR u2) ++ [obBlk w.heap.size 30 #[.int .i64 e.k, .int .i64 e.a, .int .i64 e.x, .int .i64 e.n], obBlk (w.heap.size + 1) 30 #[.int .i64 0, .int .i64 0, .int .i64 0, .int .i64 0], obE (some ⟨a1, 0, none⟩) 1 [e]])) := h10.out.drewN d
      clear h10
      generalize W10.drewN d = W11 at h11 ⊢
      obtain ⟨cA, lX⟩ := cells.out _ (h11.out.all _ _ (hi2.out _))
      have le1 := rlen_s h11.out (hi2.out _) hX2.out hn2.out (by rw [hC.out]; exact hfC.out)
      rw [hC.out] at le1
      rw [hd0.out]
      refine flowG_only (5, [11, 12, 13, 14, 15, 16, 17, 18, 19]) [(20, [])] (by kernel_rfl) rfl ?run (stepG_call _ (some 50) 19 #[.pointer (some ⟨X, 0, none⟩)] rfl rfl (wanted_ev rfl rfl rfl rfl) (by go_simp) (le1.mono ?_))
      case run =>
        clear le1
        refine runsG_hide [(0, .pointer (some ⟨X, 0, none⟩)), (45, .pointer (some ⟨X, 0, none⟩)), (46, .int .i64 0), (47, .bool true), (48, .bool true), (49, .pointer (some ⟨X, 0, none⟩)), (51, .pointer (some ⟨X, 0, none⟩)), (52, .pointer (some ⟨X, 0, none⟩)), (53, .pointer (some ⟨X, 0, none⟩)), (54, .slice (some ⟨u2.P, 0, none⟩) n n), (55, .int .i64 (n : Int))] ⟨rfl, rfl, rfl, rfl, rfl, rfl, rfl, rfl, rfl, rfl, rfl, trivial⟩ ?_
        rintro A ⟨e0, e45, e46, e47, e48, e49, e51, e52, e53, e54, e55, _⟩
        intro i o ho h1 h2
        rcases i with _ | i
        · cases ho; exact Or.inl ⟨wanted_none rfl, by go_simp⟩
        rcases i with _ | i
        · exact absurd h1 (by decide)
        rcases i with _ | i
        · cases ho; exact Or.inl ⟨wanted_none rfl, by go_simp⟩
        rcases i with _ | i
        · cases ho; exact Or.inl ⟨wanted_none rfl, by go_simp⟩
        rcases i with _ | i
        · cases ho; exact Or.inl ⟨wanted_ev rfl rfl rfl (by assumption), by go_simp⟩
        rcases i with _ | i
        · exact absurd h1 (by decide)
        rcases i with _ | i
        · cases ho; exact Or.inl ⟨wanted_ev rfl rfl rfl (by assumption), by go_simp⟩
        rcases i with _ | i
        · cases ho; exact Or.inl ⟨wanted_ev rfl rfl rfl (by assumption), by go_simp⟩
        rcases i with _ | i
        · cases ho; exact Or.inl ⟨wanted_ev rfl rfl rfl (by assumption), by go_simp⟩
        rcases i with _ | i
        · cases ho; exact Or.inl ⟨wanted_ev rfl rfl rfl (by assumption), by go_simp⟩
        rcases i with _ | i
        · cases ho; exact Or.inl ⟨wanted_ev rfl rfl rfl (by assumption), by go_simp⟩
        rcases i with _ | i
        · exact absurd h2 (by decide)
        rcases i with _ | i
        · exact absurd h2 (by decide)
        rcases i with _ | i
        · exact absurd h2 (by decide)
        rcases i with _ | i
        · exact absurd h2 (by decide)
        rcases i with _ | i
        · exact absurd h2 (by decide)
        rcases i with _ | i
        · exact absurd h2 (by decide)
        rcases i with _ | i
        · exact absurd h2 (by decide)
        rcases i with _ | i
        · exact absurd h2 (by decide)
        rcases i with _ | i
        · exact absurd h2 (by decide)
        rcases i with _ | i
        · exact absurd h1 (by decide)
        cases ho
      clear le1 cA lX
      rintro o1 W12 ⟨rfl, h12⟩
      refine ⟨_, rfl, [(56, .bool false), (57, .bool false), (58, .bool false), (59, undef), (60, undef), (61, undef), (62, undef), (63, undef), (64, undef)], by kernel_rfl, ?_⟩
      simp only [fills, Act.put, List.setIfInBounds_toArray, List.set_cons_zero, List.set_cons_succ]
      clear h11
      obtain ⟨cA, lX⟩ := cells.out _ (h12.out.all _ _ (hi2.out _))
      refine flowG_only (20, []) [] (by kernel_rfl) rfl ?run (stepG_val _ (some 65) (.bool false) W12 [] rfl rfl (wanted_none rfl) (by go_simp) rfl ?_)
      case run =>
        refine runsG_hide [(0, .pointer (some ⟨X, 0, none⟩)), (45, .pointer (some ⟨X, 0, none⟩)), (46, .int .i64 0), (47, .bool true), (48, .bool true), (49, .pointer (some ⟨X, 0, none⟩)), (51, .pointer (some ⟨X, 0, none⟩)), (52, .pointer (some ⟨X, 0, none⟩)), (53, .pointer (some ⟨X, 0, none⟩)), (54, .slice (some ⟨u2.P, 0, none⟩) n n), (55, .int .i64 (n : Int)), (50, .int .i64 (C.rows.length : Int)), (56, .bool false), (57, .bool false), (58, .bool false), (59, undef), (60, undef), (61, undef), (62, undef), (63, undef), (64, undef)] ⟨rfl, rfl, rfl, rfl, rfl, rfl, rfl, rfl, rfl, rfl, rfl, rfl, rfl, rfl, rfl, rfl, rfl, rfl, rfl, rfl, rfl, trivial⟩ ?_
        rintro A ⟨e0, e45, e46, e47, e48, e49, e51, e52, e53, e54, e55, e50, e56, e57, e58, e59, e60, e61, e62, e63, e64, _⟩
        intro i o ho h1 h2
        rcases i with _ | i
        · cases ho; exact Or.inl ⟨wanted_none rfl, by go_simp⟩
        rcases i with _ | i
        · exact absurd h1 (by decide)
        rcases i with _ | i
        · cases ho; exact Or.inl ⟨wanted_none rfl, by go_simp⟩
        rcases i with _ | i
        · cases ho; exact Or.inl ⟨wanted_none rfl, by go_simp⟩
        rcases i with _ | i
        · cases ho; exact Or.inl ⟨wanted_ev rfl rfl rfl (by assumption), by go_simp⟩
        rcases i with _ | i
        · exact absurd h1 (by decide)
        rcases i with _ | i
        · cases ho; exact Or.inl ⟨wanted_ev rfl rfl rfl (by assumption), by go_simp⟩
        rcases i with _ | i
        · cases ho; exact Or.inl ⟨wanted_ev rfl rfl rfl (by assumption), by go_simp⟩
        rcases i with _ | i
        · cases ho; exact Or.inl ⟨wanted_ev rfl rfl rfl (by assumption), by go_simp⟩
        rcases i with _ | i
        · cases ho; exact Or.inl ⟨wanted_ev rfl rfl rfl (by assumption), by go_simp⟩
        rcases i with _ | i
        · cases ho; exact Or.inl ⟨wanted_ev rfl rfl rfl (by assumption), by go_simp⟩
        rcases i with _ | i
        · cases ho; exact Or.inl ⟨wanted_ev rfl rfl rfl (by assumption), by go_simp⟩
        rcases i with _ | i
        · cases ho; exact Or.inl ⟨wanted_none rfl, by go_simp⟩
        rcases i with _ | i
        · cases ho; exact Or.inl ⟨wanted_none rfl, by go_simp⟩
        rcases i with _ | i
        · cases ho; exact Or.inr ⟨wanted_not rfl rfl rfl e58, by show A.tmps.getD 59 undef = undef; rw [Array.getD_eq_getD_getElem?]; exact e59⟩
        rcases i with _ | i
        · cases ho; exact Or.inr ⟨wanted_not rfl rfl rfl e58, by show A.tmps.getD 60 undef = undef; rw [Array.getD_eq_getD_getElem?]; exact e60⟩
        rcases i with _ | i
        · cases ho; exact Or.inr ⟨wanted_not rfl rfl rfl e58, by show A.tmps.getD 61 undef = undef; rw [Array.getD_eq_getD_getElem?]; exact e61⟩
        rcases i with _ | i
        · cases ho; exact Or.inr ⟨wanted_not rfl rfl rfl e58, by show A.tmps.getD 62 undef = undef; rw [Array.getD_eq_getD_getElem?]; exact e62⟩
        rcases i with _ | i
        · cases ho; exact Or.inr ⟨wanted_not rfl rfl rfl e58, by show A.tmps.getD 63 undef = undef; rw [Array.getD_eq_getD_getElem?]; exact e63⟩
        rcases i with _ | i
        · cases ho; exact Or.inr ⟨wanted_not rfl rfl rfl e58, by show A.tmps.getD 64 undef = undef; rw [Array.getD_eq_getD_getElem?]; exact e64⟩
        rcases i with _ | i
        · exact absurd h1 (by decide)
        cases ho
      simp only [fills, Act.put, List.setIfInBounds_toArray, List.set_cons_zero, List.set_cons_succ]
      refine flowG_done ?_
      first | show Exit.then _ _ Exit.normal _ _ | show Exit.inBlock _ _ Exit.normal _ _
      clear cA lX
      have hR9 := (h12.out.all ((l.set i (obR u2)).length + 1) _ (at_n _ _ 1) : W12.heap[(w.heap.size + 1)]? = some (.cells #[.int .i64 0, .int .i64 0, .int .i64 0, .int .i64 0] 30 (0, 0)))
      have lR9 := lt_of hR9
      go_wp2_with (first | (refine wpList_store_en rfl rfl (.tmp 4) (.tmp 86) rfl (w.heap.size + 1) rfl rfl hR9 rfl ?_; intro W13 h13 o13; have h14 : Hid (Apt W W13 (l.set i (obR u2))) := (by have := h12.out.upd (at_n _ _ 1) (o' := obBlk (w.heap.size + 1) 30 #[.int .i64 0, .int .i64 0, .int .i64 0, .int .i64 0]) h13 ⟨o13, fun _ hk => .inl hk⟩; rw [set_n] at this; exact this.heads)))
      exact bodyPost_ret (results_row_tmp Try.results13 _ _ (w.heap.size + 1) 30 _ (0, 0) _ rfl h13 Try.underlying30 rfl sizeEn) rfl ⟨rfl, u2, h14.out, hX2.out, by first | exact hC.out | (rw [if_neg hno.out]; exact hC.out), hn2.out⟩
  · skip
    have hno : Hid (¬ (C.k - C.m = 0 ∧ C.n < C.rows.length ∧ C.n < 65536)) := fun x => h0 x.1
    have hd : (((C.k - C.m : Nat) : Int) == 0) = false := by rw [beq_eq_false_iff_ne]; omega
    have hR : RM W9 u2 := h9.out.all _ _ (hi2.out _)
    have lf1 := fun d => lf.out (W9.drewN d) (hR.keep fun _ _ => rfl)
    clear hR
    go_wp2
    go_quiet (first | (go_at_call 22; exact Calls.quiet_of (lf1 _)))
    have h10 : Hid (Apt W (W9.drewN nq) (l.set i (obR u2) ++ [obBlk w.heap.size 30 #[.int .i64 e.k, .int .i64 e.a, .int .i64 e.x, .int .i64 e.n], obBlk (w.heap.size + 1) 30 #[.int .i64 0, .int .i64 0, .int .i64 0, .int .i64 0], obE (some ⟨a1, 0, none⟩) 1 [e]])) := h9.out.drewN nq
    clear h9 lf1
    generalize W9.drewN nq = W10 at h10 ⊢
    have hR9 := (h10.out.all ((l.set i (obR u2)).length + 1) _ (at_n _ _ 1) : W10.heap[(w.heap.size + 1)]? = some (.cells #[.int .i64 0, .int .i64 0, .int .i64 0, .int .i64 0] 30 (0, 0)))
    have lR9 := lt_of hR9
    go_wp2_with (first | (refine wpList_store_en rfl rfl (.tmp 4) (.tmp 86) rfl (w.heap.size + 1) rfl rfl hR9 rfl ?_; intro W13 h13 o13; have h14 : Hid (Apt W W13 (l.set i (obR u2))) := (by have := h10.out.upd (at_n _ _ 1) (o' := obBlk (w.heap.size + 1) 30 #[.int .i64 0, .int .i64 0, .int .i64 0, .int .i64 0]) h13 ⟨o13, fun _ hk => .inl hk⟩; rw [set_n] at this; exact this.heads)))
    exact bodyPost_ret (results_row_tmp Try.results13 _ _ (w.heap.size + 1) 30 _ (0, 0) _ rfl h13 Try.underlying30 rfl sizeEn) rfl ⟨rfl, u2, h14.out, hX2.out, by first | exact hC.out | (rw [if_neg hno.out]; exact hC.out), hn2.out⟩
end Go.Proofs.Ythjcdloaclailaa.Tb
