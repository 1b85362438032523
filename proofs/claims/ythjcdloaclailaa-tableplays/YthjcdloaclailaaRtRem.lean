/-
  What Remove of package pantryref15 does when it is called. No condition but those told at each sentence.
-/
import Derived.Test.YthjcdloaclailaaRtPut
namespace Go.Proofs.Ythjcdloaclailaa.Tb
open Go.RowKit Go.Deep Us
variable {W w w' : World} {key : Int} {e r : En} {J X n : Nat} {q q1 q2 : List En} {l m : List Ob} {i j c : Nat} {p : Option Addr} {u v : Rt}

set_option maxRecDepth 8000 in
set_option maxHeartbeats 4000000 in
theorem rrem_n (h : Apt W w l) (hi' : l[i]? = some (obR u)) (hX : u.X = X) (hn : u.h = none) (key : Int) (hf0 : u.A.Fit) (hf : u.A.mv.Fit) (hJ : KAt (u.A.mv.L (u.A.mv.rp key)) key J) (hr : ¬ J < (u.A.mv.L (u.A.mv.rp key)).length) : Calls Try.prog 15 #[.pointer (some ⟨X, 0, none⟩), .int .i64 key] w fun o w' => o = .returned (.tuple #[.agg #[.int .i64 0, .int .i64 0, .int .i64 0, .int .i64 0], .bool false]) ∧ ∃ u', Apt W w' (l.set i (obR u')) ∧ u'.X = X ∧ u'.A = u.A.mv ∧ u'.h = none := by
  have h1 : Hid (Apt W (w.alloc (.cells #[.int .i64 0, .int .i64 0, .int .i64 0, .int .i64 0] 30)) (l ++ [obBlk w.heap.size 30 #[.int .i64 0, .int .i64 0, .int .i64 0, .int .i64 0]])) := en_block h #[.int .i64 0, .int .i64 0, .int .i64 0, .int .i64 0] 30
  have hlt : Hid (i < l.length) := (List.getElem?_eq_some_iff.1 hi').1
  have mv : Hid (∀ W', Apt W W' (l ++ [obBlk w.heap.size 30 #[.int .i64 0, .int .i64 0, .int .i64 0, .int .i64 0]]) → Calls Try.prog 34 #[.pointer (some ⟨X, 0, none⟩)] W' fun e' w' => e' = .returned (.tuple #[]) ∧ ∃ u', Apt W w' ((l ++ [obBlk w.heap.size 30 #[.int .i64 0, .int .i64 0, .int .i64 0, .int .i64 0]]).set i (obR u')) ∧ u'.X = X ∧ u'.A = u.A.mv ∧ u'.h = none) := fun W' h => move_r h (by rw [List.getElem?_append_left hlt.out]; exact hi') hX hn (hf0 _) hf
  have hJ : Hid (KAt (u.A.mv.L (u.A.mv.rp key)) key J) := hJ
  obtain ⟨N, hN⟩ : ∃ N, Hid ((u.A.mv.L (u.A.mv.rp key)).length = N) := ⟨_, rfl⟩
  have hN2 : N ≤ 1000000 := by rw [← hN.out]; exact hf _
  obtain ⟨row, hrow⟩ : ∃ row, Hid (u.A.mv.L (u.A.mv.rp key) = row) := ⟨_, rfl⟩
  rw [hrow.out] at hN hJ
  rw [hrow.out] at hr
  rw [hN.out] at hr
  have hJN : ¬ J < N := hr
  have hfj : Hid (fj J N = -1) := (by show _ = _; unfold fj; rw [if_neg hJN])
  have a1 : decide ((-1 : Int) < 0) = true := by decide
  clear h hi' hX hn hf0 hf hr
  go_enter Try.func15, Try.ntmps15
  go_wp2_with (first | (go_at_call 34; refine (mv.out _ h1.out).mono ?_; clear mv; generalize w.alloc (.cells #[.int .i64 0, .int .i64 0, .int .i64 0, .int .i64 0] 30) = W1 at h1 ⊢; rintro o1 W2 ⟨rfl, u1, h2, hX1, hA1, hn1⟩; rw [set_head hlt.out] at h2; obtain ⟨L1, hL1⟩ : ∃ L1, Hid (l.set i (obR u1) = L1) := ⟨_, rfl⟩; have hiL : Hid (L1[i]? = some (obR u1)) := (by show _ = _; rw [← hL1.out, List.getElem?_set_self hlt.out]); have hset : Hid (∀ v, L1.set i v = l.set i v) := (fun v => by rw [← hL1.out, List.set_set]); have hlL : Hid (i < L1.length) := (List.getElem?_eq_some_iff.1 hiL.out).1; rw [hL1.out] at h2; have h2 : Hid (Apt W W2 (L1 ++ [obBlk w.heap.size 30 #[.int .i64 0, .int .i64 0, .int .i64 0, .int .i64 0]])) := h2; change Hid (u1.X = X) at hX1; change Hid (u1.A = u.A.mv) at hA1; change Hid (u1.h = none) at hn1; have HR : Hid (∀ W' m', Apt W W' (L1 ++ m') → RM W' u1) := (fun W' m' h => h.all i _ (by rw [List.getElem?_append_left hlL.out]; exact hiL.out)); obtain ⟨rp, hrp⟩ : ∃ rp, Hid ((u1.r (u.A.mv.rp key)).1 = rp) := ⟨_, rfl⟩; obtain ⟨rc, hrc⟩ : ∃ rc, Hid ((u1.r (u.A.mv.rp key)).2 = rc) := ⟨_, rfl⟩; have HC : Hid (∀ W', RM W' u1 → (Calls Try.prog 35 #[.pointer (some ⟨X, 0, none⟩), .int .i64 key] W' fun e' w' => e' = .returned (.slice rp N rc) ∧ ∃ d, w' = W'.drewN d) ∧ Vec W' 30 4 rp N rc (enL row)) := (fun W' h => by have a := chain_r h key; have b := h.inn _ ⟨h.rp_live key, by rw [hn1.out]; exact fun x => by cases x⟩; rw [hA1.out, hrow.out, hN.out, hrp.out, hrc.out] at a b; rw [hX1.out] at a; exact ⟨a, b⟩); clear h1) | (go_at_call 35; refine (HC.out _ (HR.out _ _ h2.out)).1.mono ?_; rintro o1 w4 ⟨rfl, d, rfl⟩; have h4 : Hid (Apt W (W2.drewN d) (L1 ++ [obBlk w.heap.size 30 #[.int .i64 0, .int .i64 0, .int .i64 0, .int .i64 0]])) := h2.out.drewN d; clear h2; generalize W2.drewN d = W4 at h4 ⊢; have v4 := (HC.out _ (HR.out _ _ h4.out)).2; have hR4 := (h4.out.all (L1.length + 0) _ (at_n _ _ 0) : W4.heap[w.heap.size]? = some (.cells #[.int .i64 0, .int .i64 0, .int .i64 0, .int .i64 0] 30 (0, 0))); have lR4 := lt_of hR4) | (go_at_call 36; refine (find_r v4 hN.out.symm hN2 hJ.out).mono ?_; rintro o1 w' ⟨rfl, hw'⟩; have hw' := hw'.symm; subst hw'; rw [hfj.out]) | (refine wpList_store_en rfl rfl (.tmp 4) (.tmp 19) rfl w.heap.size rfl rfl hR4 rfl ?_; intro W9 h9 o9; have h10 : Hid (Apt W W9 (l.set i (obR u1))) := (by have := h4.out.upd (at_n _ _ 0) (o' := obBlk w.heap.size 30 #[.int .i64 0, .int .i64 0, .int .i64 0, .int .i64 0]) h9 ⟨o9, fun _ hk => .inl hk⟩; rw [set_n, ← hL1.out] at this; exact this.heads); clear hR4 h4 o9 v4))
  exact bodyPost_ret (results_row_tmp Try.results15 _ _ w.heap.size 30 _ (0, 0) _ rfl h9 Try.underlying30 rfl sizeEn) rfl ⟨rfl, u1, h10.out, hX1.out, hA1.out, hn1.out⟩
set_option maxRecDepth 20000 in
set_option maxHeartbeats 8000000 in
theorem rrem_y (h : Apt W w l) (hi' : l[i]? = some (obR u)) (hX : u.X = X) (hn : u.h = none) (key : Int) (hf0 : u.A.Fit) (hf : u.A.mv.Fit) (hJ : KAt (u.A.mv.L (u.A.mv.rp key)) key J) (hr : (u.A.mv.L (u.A.mv.rp key))[J]? = some r) : Calls Try.prog 15 #[.pointer (some ⟨X, 0, none⟩), .int .i64 key] w fun o w' => o = .returned (.tuple #[.agg #[.int .i64 r.k, .int .i64 r.a, .int .i64 r.x, .int .i64 r.n], .bool true]) ∧ ∃ u', Apt W w' (l.set i (obR u')) ∧ u'.X = X ∧ u'.A = u.A.mv.st (u.A.mv.rp key) ((u.A.mv.L (u.A.mv.rp key)).take J ++ (u.A.mv.L (u.A.mv.rp key)).drop (J + 1)) ∧ u'.h = none := by
  have hJ1 := (List.getElem?_eq_some_iff.1 hr).1
  have h1 : Hid (Apt W (w.alloc (.cells #[.int .i64 0, .int .i64 0, .int .i64 0, .int .i64 0] 30)) (l ++ [obBlk w.heap.size 30 #[.int .i64 0, .int .i64 0, .int .i64 0, .int .i64 0]])) := en_block h #[.int .i64 0, .int .i64 0, .int .i64 0, .int .i64 0] 30
  have hlt : Hid (i < l.length) := (List.getElem?_eq_some_iff.1 hi').1
  have mv : Hid (∀ W', Apt W W' (l ++ [obBlk w.heap.size 30 #[.int .i64 0, .int .i64 0, .int .i64 0, .int .i64 0]]) → Calls Try.prog 34 #[.pointer (some ⟨X, 0, none⟩)] W' fun e' w' => e' = .returned (.tuple #[]) ∧ ∃ u', Apt W w' ((l ++ [obBlk w.heap.size 30 #[.int .i64 0, .int .i64 0, .int .i64 0, .int .i64 0]]).set i (obR u')) ∧ u'.X = X ∧ u'.A = u.A.mv ∧ u'.h = none) := fun W' h => move_r h (by rw [List.getElem?_append_left hlt.out]; exact hi') hX hn (hf0 _) hf
  have hJ : Hid (KAt (u.A.mv.L (u.A.mv.rp key)) key J) := hJ
  obtain ⟨N, hN⟩ : ∃ N, Hid ((u.A.mv.L (u.A.mv.rp key)).length = N) := ⟨_, rfl⟩
  have hN2 : N ≤ 1000000 := by rw [← hN.out]; exact hf _
  obtain ⟨row, hrow⟩ : ∃ row, Hid (u.A.mv.L (u.A.mv.rp key) = row) := ⟨_, rfl⟩
  rw [hrow.out] at hN hJ
  rw [hrow.out] at hr hJ1 ⊢
  have hr : Hid (row[J]? = some r) := hr
  rw [hN.out] at hJ1
  have hJN : J < N := hJ1
  have hfj : Hid (fj J N = (J : Int)) := (by show _ = _; unfold fj; rw [if_pos hJN])
  have a1 : decide ((J : Int) < 0) = false := by rw [decide_eq_false_iff_not]; omega
  have hJI : (J : Int) < (N : Int) := by omega
  clear h hi' hX hn hf0 hf hJ1
  go_enter Try.func15, Try.ntmps15
  go_wp2_with (first | (go_at_call 34; refine (mv.out _ h1.out).mono ?_; clear mv; generalize w.alloc (.cells #[.int .i64 0, .int .i64 0, .int .i64 0, .int .i64 0] 30) = W1 at h1 ⊢; rintro o1 W2 ⟨rfl, u1, h2, hX1, hA1, hn1⟩; rw [set_head hlt.out] at h2; obtain ⟨L1, hL1⟩ : ∃ L1, Hid (l.set i (obR u1) = L1) := ⟨_, rfl⟩; have hiL : Hid (L1[i]? = some (obR u1)) := (by show _ = _; rw [← hL1.out, List.getElem?_set_self hlt.out]); have hset : Hid (∀ v, L1.set i v = l.set i v) := (fun v => by rw [← hL1.out, List.set_set]); have hlL : Hid (i < L1.length) := (List.getElem?_eq_some_iff.1 hiL.out).1; rw [hL1.out] at h2; have h2 : Hid (Apt W W2 (L1 ++ [obBlk w.heap.size 30 #[.int .i64 0, .int .i64 0, .int .i64 0, .int .i64 0]])) := h2; change Hid (u1.X = X) at hX1; change Hid (u1.A = u.A.mv) at hA1; change Hid (u1.h = none) at hn1; have HR : Hid (∀ W' m', Apt W W' (L1 ++ m') → RM W' u1) := (fun W' m' h => h.all i _ (by rw [List.getElem?_append_left hlL.out]; exact hiL.out)); obtain ⟨rp, hrp⟩ : ∃ rp, Hid ((u1.r (u.A.mv.rp key)).1 = rp) := ⟨_, rfl⟩; obtain ⟨rc, hrc⟩ : ∃ rc, Hid ((u1.r (u.A.mv.rp key)).2 = rc) := ⟨_, rfl⟩; have HC : Hid (∀ W', RM W' u1 → (Calls Try.prog 35 #[.pointer (some ⟨X, 0, none⟩), .int .i64 key] W' fun e' w' => e' = .returned (.slice rp N rc) ∧ ∃ d, w' = W'.drewN d) ∧ Vec W' 30 4 rp N rc (enL row)) := (fun W' h => by have a := chain_r h key; have b := h.inn _ ⟨h.rp_live key, by rw [hn1.out]; exact fun x => by cases x⟩; rw [hA1.out, hrow.out, hN.out, hrp.out, hrc.out] at a b; rw [hX1.out] at a; exact ⟨a, b⟩); clear h1) | (go_at_call 35; refine (HC.out _ (HR.out _ _ h2.out)).1.mono ?_; rintro o1 w4 ⟨rfl, d, rfl⟩; have h4 : Hid (Apt W (W2.drewN d) (L1 ++ [obBlk w.heap.size 30 #[.int .i64 0, .int .i64 0, .int .i64 0, .int .i64 0]])) := h2.out.drewN d; clear h2; generalize W2.drewN d = W4 at h4 ⊢; have v4 := (HC.out _ (HR.out _ _ h4.out)).2; have hR4 := (h4.out.all (L1.length + 0) _ (at_n _ _ 0) : W4.heap[w.heap.size]? = some (.cells #[.int .i64 0, .int .i64 0, .int .i64 0, .int .i64 0] 30 (0, 0))); have lR4 := lt_of hR4) | (go_at_call 36; refine (find_r v4 hN.out.symm hN2 hJ.out).mono ?_; rintro o1 w' ⟨rfl, hw'⟩; have hw' := hw'.symm; subst hw'; rw [hfj.out]; obtain ⟨B, rfl, lB, hcA, hfz, hcn⟩ := v4.opens (by omega); clear hcA hfz) | (refine wpList_load_at rfl (.tmp 22) rfl B rfl v4 hJN hr.out ?_))
  have hk0 : J ≤ 1000000 := by omega
  have hkw : Hid _ := up_w J hk0
  have hkw2 : Hid _ := up_i J hk0
  have hk2 : (0 : Int) ≤ (J : Int) + 1 := by omega
  have hk3 : (J : Int) + 1 ≤ (N : Int) := by omega
  have hkk : ¬ (rc < J) := by omega
  obtain ⟨ad, had, HAD⟩ : ∃ ad : Addr, ((if rc = J + 1 then some ⟨B, 0, none⟩ else some ⟨B, (J + 1) * 4, none⟩) : Option Addr) = some ad ∧ Hid (J + 1 < N → ad = ⟨B, (J + 1) * 4, none⟩) := by
    by_cases g : rc = J + 1
    · exact ⟨_, if_pos g, fun x => by omega⟩
    · exact ⟨_, if_neg g, fun _ => rfl⟩
  refine region_fill [2, 6, 11, 12] [(24, .pointer (some ⟨X, 0, none⟩)), (25, .int .i64 key), (27, .slice (some ⟨B, 0, none⟩) N rc), (28, .int .i64 (J : Int)), (29, .slice (some ⟨B, 0, none⟩) J rc), (31, .slice (some ⟨B, 0, none⟩) N rc), (32, .int .i64 (J : Int)), (33, .int .i64 ((J + 1 : Nat) : Int)), (34, .slice (some ad) (N - (J + 1)) (rc - (J + 1)))] hmx (by kernel_rfl) (by kernel_rfl) ?_
  simp only [fills, Act.put, List.setIfInBounds_toArray, List.set_cons_zero, List.set_cons_succ]
  have h6 : Hid (Apt W (W4.alloc (.cells #[.int .i64 r.k, .int .i64 r.a, .int .i64 r.x, .int .i64 r.n] 30)).drew (L1 ++ [obBlk w.heap.size 30 #[.int .i64 0, .int .i64 0, .int .i64 0, .int .i64 0], obBlk W4.heap.size 30 #[.int .i64 r.k, .int .i64 r.a, .int .i64 r.x, .int .i64 r.n]])) := by
    have := (en_block h4.out #[.int .i64 r.k, .int .i64 r.a, .int .i64 r.x, .int .i64 r.n] 30).drew
    rw [List.append_assoc] at this
    exact this
  clear h4 v4 hR4 lR4 hcn lB
  generalize W4.heap.size = b8 at h6 ⊢
  generalize (W4.alloc (.cells #[.int .i64 r.k, .int .i64 r.a, .int .i64 r.x, .int .i64 r.n] 30)).drew = W6 at h6 ⊢
  refine flow_val (some 26) (.slice (some ⟨W6.heap.size, 0, none⟩) 0 0) (W6.alloc (.cells #[] 30)) _ rfl rfl ?run (by go_simp) ?_
  case run =>
    skip
    have kw := hkw.out
    have kw2 := hkw2.out
    intro i o ho hi
    iterate 13 (rcases i with _ | i; · first | (exact absurd hi (by decide)) | (cases ho; go_simp; done))
    cases ho
  simp only [Act.put, List.setIfInBounds_toArray, List.set_cons_zero, List.set_cons_succ]
  have h7 : Hid (Apt W (W6.alloc (.cells #[] 30)) (L1 ++ [obBlk w.heap.size 30 #[.int .i64 0, .int .i64 0, .int .i64 0, .int .i64 0], obBlk b8 30 #[.int .i64 r.k, .int .i64 r.a, .int .i64 r.x, .int .i64 r.n], obE (some ⟨W6.heap.size, 0, none⟩) 0 []])) := mk_none h6.out
  clear h6
  generalize W6.heap.size = a0 at h7 ⊢
  generalize W6.alloc (.cells #[] 30) = W7 at h7 ⊢
  have hv7 := (HC.out _ (HR.out _ _ h7.out)).2
  rw [← hN.out] at hv7
  obtain ⟨p8, c8, W8, r8, h8⟩ := append_l 41 h7.out (j := 2) rfl (some ⟨B, 0, none⟩) rc (q1 := []) (q2 := row.take J) (n1 := 0) (n2 := J) (n := J) rfl (by rw [List.length_take, hN.out]; omega) (Nat.zero_add _) (by omega) (fun _ => ⟨_, rfl, cells_take hv7 (by rw [hN.out]; omega)⟩)
  have h8 : Hid (Apt W W8 (L1 ++ [obBlk w.heap.size 30 #[.int .i64 0, .int .i64 0, .int .i64 0, .int .i64 0], obBlk b8 30 #[.int .i64 r.k, .int .i64 r.a, .int .i64 r.x, .int .i64 r.n], obE p8 c8 (row.take J)])) := h8
  clear hv7
  refine flow_val (some 30) (.slice p8 J c8) W8 _ rfl rfl ?run (exec_append rfl rfl rfl r8) ?_
  case run =>
    clear r8
    have kw := hkw.out
    have kw2 := hkw2.out
    intro i o ho hi
    iterate 13 (rcases i with _ | i; · first | (exact absurd hi (by decide)) | (cases ho; go_simp; done))
    cases ho
  simp only [Act.put, List.setIfInBounds_toArray, List.set_cons_zero, List.set_cons_succ]
  clear r8 h7
  have hv8 := (HC.out _ (HR.out _ _ h8.out)).2
  rw [← hN.out] at hv8
  obtain ⟨p9, c9, W9, r9, h9⟩ := append_l 41 h8.out (j := 2) rfl (some ad) (rc - (J + 1)) (q1 := row.take J) (q2 := row.drop (J + 1)) (n1 := J) (n2 := N - (J + 1)) (n := N - 1) (by rw [List.length_take, hN.out]; omega) (by rw [List.length_drop, hN.out]) (by omega) (by omega) (fun x => ⟨_, rfl, by rw [HAD.out (by omega)]; have := cells_drop hv8 (k := J + 1) (by rw [hN.out]; omega); rw [hN.out] at this; exact this⟩)
  have h9 : Hid (Apt W W9 (L1 ++ [obBlk w.heap.size 30 #[.int .i64 0, .int .i64 0, .int .i64 0, .int .i64 0], obBlk b8 30 #[.int .i64 r.k, .int .i64 r.a, .int .i64 r.x, .int .i64 r.n], obE p9 c9 (row.take J ++ row.drop (J + 1))])) := h9
  clear hv8
  refine flow_val (some 35) (.slice p9 (N - 1) c9) W9 _ rfl rfl ?run (exec_append rfl rfl rfl r9) ?_
  case run =>
    clear r9
    have kw := hkw.out
    have kw2 := hkw2.out
    intro i o ho hi
    iterate 13 (rcases i with _ | i; · first | (exact absurd hi (by decide)) | (cases ho; go_simp; done))
    cases ho
  simp only [Act.put, List.setIfInBounds_toArray, List.set_cons_zero, List.set_cons_succ]
  clear r9 h8
  have h10 : Apt W W9 ((L1 ++ [obBlk w.heap.size 30 #[.int .i64 0, .int .i64 0, .int .i64 0, .int .i64 0], obBlk b8 30 #[.int .i64 r.k, .int .i64 r.a, .int .i64 r.x, .int .i64 r.n]]) ++ [obE p9 c9 (row.take J ++ row.drop (J + 1))]) := by
    have := h9.out
    rw [show L1 ++ [obBlk w.heap.size 30 #[.int .i64 0, .int .i64 0, .int .i64 0, .int .i64 0], obBlk b8 30 #[.int .i64 r.k, .int .i64 r.a, .int .i64 r.x, .int .i64 r.n], obE p9 c9 (row.take J ++ row.drop (J + 1))] = (L1 ++ [obBlk w.heap.size 30 #[.int .i64 0, .int .i64 0, .int .i64 0, .int .i64 0], obBlk b8 30 #[.int .i64 r.k, .int .i64 r.a, .int .i64 r.x, .int .i64 r.n]]) ++ [obE p9 c9 (row.take J ++ row.drop (J + 1))] by rw [List.append_assoc]; rfl] at this
    exact this
  have st := set_r h10 (by rw [List.getElem?_append_left hlL.out]; exact hiL.out) hn1.out key
  rw [hX1.out, cut_len (by rw [hN.out]; exact hJN), hN.out, hA1.out, set_head hlL.out, hset.out] at st
  clear h10 h9
  refine flow_ent (some 36) 37 #[.pointer (some ⟨X, 0, none⟩), .int .i64 key, .slice p9 (N - 1) c9] _ rfl rfl ?run (by go_simp) (st.mono ?_)
  case run =>
    clear st
    have kw := hkw.out
    have kw2 := hkw2.out
    intro i o ho hi
    iterate 13 (rcases i with _ | i; · first | (exact absurd hi (by decide)) | (cases ho; go_simp; done))
    cases ho
  clear st
  rintro o1 W10 ⟨rfl, h10⟩
  refine ⟨_, rfl, ?_⟩
  obtain ⟨u2, hu2⟩ : ∃ u2, Hid ((u1.st (u.A.mv.rp key) (row.take J ++ row.drop (J + 1)) p9 c9) = u2) := ⟨_, rfl⟩
  rw [hu2.out] at h10
  have hX2 : Hid (u2.X = X) := by rw [← hu2.out]; exact hX1.out
  have hA2 : Hid (u2.A = u.A.mv.st (u.A.mv.rp key) (row.take J ++ row.drop (J + 1))) := by
    rw [← hu2.out]
    show u1.A.st _ _ = _
    rw [hA1.out]
  have hn2 : Hid (u2.h = none) := by rw [← hu2.out]; rfl
  have h10 : Hid (Apt W W10 (l.set i (obR u2) ++ [obBlk w.heap.size 30 #[.int .i64 0, .int .i64 0, .int .i64 0, .int .i64 0], obBlk b8 30 #[.int .i64 r.k, .int .i64 r.a, .int .i64 r.x, .int .i64 r.n]])) := h10
  clear hu2 HC HR hiL hset hlL hL1 hX1 hA1 hn1 hrp hrc hkw hkw2 had HAD
  simp only [Act.put, List.setIfInBounds_toArray, List.set_cons_zero, List.set_cons_succ]
  first | show Exit.then _ _ Exit.normal _ _ | show Exit.inBlock _ _ Exit.normal _ _ | simp only [Flow]
  have hS := (h10.out.all ((l.set i (obR u2)).length + 1) _ (at_n _ _ 1) : W10.heap[b8]? = some (.cells #[.int .i64 r.k, .int .i64 r.a, .int .i64 r.x, .int .i64 r.n] 30 (0, 0)))
  have hR := (h10.out.all ((l.set i (obR u2)).length + 0) _ (at_n _ _ 0) : W10.heap[w.heap.size]? = some (.cells #[.int .i64 0, .int .i64 0, .int .i64 0, .int .i64 0] 30 (0, 0)))
  have lR := lt_of hR
  have lS := lt_of hS
  go_wp2_with (first | (refine wpList_load_en rfl (.tmp 8) rfl b8 rfl hS ?_) | (refine wpList_store_en rfl rfl (.tmp 4) (.tmp 37) rfl w.heap.size rfl rfl hR rfl ?_; intro W13 h13 o13; have h14 : Hid (Apt W W13 (l.set i (obR u2))) := (by have := h10.out.upd (at_n _ _ 0) (o' := obBlk w.heap.size 30 #[.int .i64 r.k, .int .i64 r.a, .int .i64 r.x, .int .i64 r.n]) h13 ⟨o13, fun _ hk => .inl hk⟩; rw [set_n] at this; exact this.heads)))
  exact bodyPost_ret (results_row_tmp Try.results15 _ _ w.heap.size 30 _ (0, 0) _ rfl h13 Try.underlying30 rfl sizeEn) rfl ⟨rfl, u2, h14.out, hX2.out, hA2.out, hn2.out⟩
end Go.Proofs.Ythjcdloaclailaa.Tb
