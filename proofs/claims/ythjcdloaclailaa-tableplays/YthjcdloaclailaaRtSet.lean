/-
  What set and Get of package pantryref15 do when they are called; entries loaded from a row, stored into it. No condition but those told at each sentence.
-/
import Derived.Test.YthjcdloaclailaaRtWalk
import Derived.Test.YthjcdloaclailaaGenCell
namespace Go.Proofs.Ythjcdloaclailaa.Tb
open Go.RowKit Go.Deep Us
variable {W w w' : World} {key : Int} {e r : En} {J X n : Nat} {q : List En} {l : List Ob} {i c : Nat} {p : Option Addr} {u : Rt}

theorem rp_two (u : Rt) (key : Int) : (∃ g, u.A.rp key = (true, g) ∧ u.A.m < u.A.k) ∨ ∃ g, ub u.A.s key % u.A.n = g ∧ u.A.rp key = (false, g) := by
  rcases rp_cases u key with ⟨e1, c⟩ | h
  · exact .inl ⟨(u.A.rp key).2, by rw [← e1], c⟩
  · exact .inr h
set_option maxRecDepth 4000 in
theorem set_r {pp : Option Addr} {cc : Nat} (h : Apt W w (l ++ [obE pp cc q])) (hi : l[i]? = some (obR u)) (hn : u.h = none) (key : Int) : Calls Try.prog 37 #[.pointer (some ⟨u.X, 0, none⟩), .int .i64 key, .slice pp q.length cc] w fun e w' => e = .returned (.tuple #[]) ∧ Apt W w' (l.set i (obR (u.st (u.A.rp key) q pp cc))) := by
  have hR : RM w u := h.all i _ (by rw [List.getElem?_append_left (List.getElem?_eq_some_iff.1 hi).1]; exact hi)
  have fin : Hid (∀ w1, (∃ d, w1 = w.drewN d) → Apt W (w1.setCell ⟨u.bk (u.A.rp key).1, (u.A.rp key).2, none⟩ (.slice pp q.length cc)) (l.set i (obR (u.st (u.A.rp key) q pp cc)))) := fun w1 hd => by
    obtain ⟨d, rfl⟩ := hd
    exact store_s (h.drewN d) hi (hR.rp_live key) hn
  have hwk := hR.wk
  have old := old_r hR key
  have cl : Hid (∀ w1, (∃ d, w1 = w.drewN d) → RM w1 u) := fun w1 hd => by
    obtain ⟨d, rfl⟩ := hd
    exact hR.keep fun _ _ => rfl
  have cc1 : Hid (∀ w1, RM w1 u → w1.cell? ⟨u.bk (u.A.rp key).1, (u.A.rp key).2, none⟩ = some (u.sl (u.A.rp key)) ∧ u.bk (u.A.rp key).1 < w1.heap.size ∧ w1.frozen? ⟨u.bk (u.A.rp key).1, (u.A.rp key).2, none⟩ = false) := fun w1 h => h.cell (h.rp_live key)
  have hl := hR.rp_live key
  unfold Rt.sl at cc1
  generalize hu' : u.st (u.A.rp key) q pp cc = u' at fin ⊢
  clear h hi hn hu'
  rcases rp_two u key with ⟨g, e1, c⟩ | ⟨g, hg, e1⟩
  · rw [e1] at fin old cc1 hl
    unfold Rp.live at hl
    rw [if_pos rfl] at hl
    have ho : u.oP = some ⟨u.Q, 0, none⟩ := if_neg (by omega)
    change Hid (∀ w1, (∃ d, w1 = w.drewN d) → Apt W (w1.setCell ⟨u.Q, g, none⟩ (.slice pp q.length cc)) (l.set i (obR u'))) at fin
    change Hid (∀ w1, RM w1 u → w1.cell? ⟨u.Q, g, none⟩ = _ ∧ u.Q < w1.heap.size ∧ w1.frozen? ⟨u.Q, g, none⟩ = false) at cc1
    have hI : (g : Int) < (u.A.k : Int) := by have := hl.2; simp at this; omega
    clear e1 hl hwk
    go_enter Try.func37, Try.ntmps37
    go_wp2_with (go_at_call 48; refine old.mono ?_; rintro e w1 ⟨a, rfl, ha, hw⟩; obtain rfl := ha rfl; clear old; have h1 := cl.out _ hw; obtain ⟨_, c1, _⟩ := h1.cells; rw [ho] at c1; have lX := lt_of h1.head; obtain ⟨r1, r2, r3⟩ := cc1.out _ h1; have hw : Hid (∃ d, w1 = w.drewN d) := hw; clear h1)
    (try simp only [Exit.inBlock, Exit.then])
    refine bodyPost_ret (results_none rfl _ _ _) rfl ?_
    exact ⟨rfl, fin.out _ hw.out⟩
  · have ar : Hid (∀ W, RM W u → Calls Try.prog 47 #[.pointer (some ⟨u.X, 0, none⟩), .int .i64 key, .int .i64 (u.A.n : Int)] W fun e w' => e = .returned (.int .i64 ((ub u.A.s key % u.A.n : Nat) : Int)) ∧ w' = W) := fun W hW => at_r hW key u.A.n (by omega) (by omega)
    rw [hg] at ar
    rw [e1] at fin old cc1 hl
    have hl : g < u.A.n := hl
    change Hid (∀ w1, (∃ d, w1 = w.drewN d) → Apt W (w1.setCell ⟨u.P, g, none⟩ (.slice pp q.length cc)) (l.set i (obR u'))) at fin
    change Hid (∀ w1, RM w1 u → w1.cell? ⟨u.P, g, none⟩ = _ ∧ u.P < w1.heap.size ∧ w1.frozen? ⟨u.P, g, none⟩ = false) at cc1
    have hI : (g : Int) < (u.A.n : Int) := by omega
    clear e1 hwk hg
    go_enter Try.func37, Try.ntmps37
    go_wp2_with (go_at_call 48; refine old.mono ?_; rintro e w1 ⟨a, rfl, _, hw⟩; clear old; have h1 := cl.out _ hw; have hw : Hid (∃ d, w1 = w.drewN d) := hw; have h1 : Hid (RM w1 u) := h1)
    refine region_fill [11, 13, 14] [(22, .pointer (some ⟨u.X, 0, none⟩)), (23, .pointer (some ⟨u.X, 0, none⟩)), (24, .pointer (some ⟨u.X, 0, none⟩)), (25, .slice (some ⟨u.P, 0, none⟩) u.A.n u.A.n), (26, .pointer (some ⟨u.X, 0, none⟩)), (27, .int .i64 key), (28, .pointer (some ⟨u.X, 0, none⟩)), (29, .pointer (some ⟨u.X, 0, none⟩)), (30, .pointer (some ⟨u.X, 0, none⟩)), (31, .slice (some ⟨u.P, 0, none⟩) u.A.n u.A.n), (32, .int .i64 (u.A.n : Int)), (34, .slice pp q.length cc)] hmx (by kernel_rfl) (by kernel_rfl) ?_
    simp only [fills, Act.put, List.setIfInBounds_toArray, List.set_cons_zero, List.set_cons_succ]
    have h2 : RM w1.drew u := h1.out.keep fun _ _ => rfl
    have hw2 : Hid (∃ d, w1.drew = w.drewN d) := by
      obtain ⟨d, rfl⟩ := hw.out
      exact ⟨_, World.drew_drewN _ _⟩
    clear hw h1
    generalize w1.drew = w2 at h2 hw2 ⊢
    have ar2 := ar.out _ h2
    obtain ⟨c0, _⟩ := h2.cells
    have lX := lt_of h2.head
    obtain ⟨r1, r2, r3⟩ := cc1.out _ h2
    clear h2
    refine flow_ent (some 33) 47 #[.pointer (some ⟨u.X, 0, none⟩), .int .i64 key, .int .i64 (u.A.n : Int)] _ rfl rfl ?run (by go_simp) ?_
    case run =>
      intro i o ho hi
      iterate 15 (rcases i with _ | i; · first | (exact absurd hi (by decide)) | (cases ho; go_simp; done))
      cases ho
    refine ar2.mono ?_
    rintro e w3 ⟨rfl, rfl⟩
    refine ⟨_, rfl, ?_⟩
    simp only [Act.put, List.setIfInBounds_toArray, List.set_cons_zero, List.set_cons_succ]
    refine flow_val (some 35) (.pointer (some ⟨u.P, g, none⟩)) w3 _ rfl rfl ?run (by go_simp) ?_
    case run =>
      intro i o ho hi
      iterate 15 (rcases i with _ | i; · first | (exact absurd hi (by decide)) | (cases ho; go_simp; done))
      cases ho
    simp only [Act.put, List.setIfInBounds_toArray, List.set_cons_zero, List.set_cons_succ]
    refine flow_cons _ undef (w3.setCell ⟨u.P, g, none⟩ (.slice pp q.length cc)) rfl ?run (by first | (left; go_simp; done) | (right; refine ⟨?_, rfl⟩; go_simp; done)) ?_
    case run =>
      intro i o ho hi
      iterate 15 (rcases i with _ | i; · first | (exact absurd hi (by decide)) | (cases ho; go_simp; done))
      cases ho
    simp only [Act.put]
    simp only [Flow]
    go_end0
    exact ⟨rfl, fin.out _ hw2.out⟩
/-- An entry of a row, loaded whole. -/
theorem wpList_load_at {ops : Array Oper} {rest : List Oper} {o : Oper} {a : Act} {w : World} {Q : Exit → Act → World → Prop} (hgd : o.guard = none) (x : Operand) (ho : o.op = .load 30 x)
    (B : Nat) {n c J : Nat} (hx : a.eval x = .pointer (some ⟨B, J * 4, none⟩)) (hv : Vec w 30 4 (some ⟨B, 0, none⟩) n c (enL q)) (hJ : J < n) (hr : q[J]? = some r)
    (hn : wpList Try.prog ops Q rest (a.put o.dst (.agg #[.int .i64 r.k, .int .i64 r.a, .int .i64 r.x, .int .i64 r.n])) w) : wpList Try.prog ops Q (o :: rest) a w := by
  obtain ⟨k0, k1, k2, k3⟩ := en_cell hv hJ hr
  refine wpList_load_mid hgd 30 x ho B (J * 4) hx [.int .i64 r.k, .int .i64 r.a, .int .i64 r.x, .int .i64 r.n] _ ?_ Try.underlying30 rfl sizeEn hn
  intro j u hu
  rcases j with _ | _ | _ | _ | j
  · cases hu; exact k0
  · cases hu; exact k1
  · cases hu; exact k2
  · cases hu; exact k3
  · simp at hu
theorem get_ry (h : RM w u) (hn : u.h = none) (hJ : KAt (u.A.L (u.A.rp key)) key J) (hr : (u.A.L (u.A.rp key))[J]? = some r) (hm : (u.A.L (u.A.rp key)).length ≤ 1000000) : Calls Try.prog 17 #[.pointer (some ⟨u.X, 0, none⟩), .int .i64 key] w fun e w' => e = .returned (.tuple #[.agg #[.int .i64 r.k, .int .i64 r.a, .int .i64 r.x, .int .i64 r.n], .bool true]) ∧ Grown w w' := by
  have hlt := (List.getElem?_eq_some_iff.1 hr).1
  have hw : Hid (Grown w (w.alloc (.cells #[.int .i64 0, .int .i64 0, .int .i64 0, .int .i64 0] 30))) := (Grown.refl _).alloc _ _
  have hZ : Hid ((w.alloc (.cells #[.int .i64 0, .int .i64 0, .int .i64 0, .int .i64 0] 30)).heap[w.heap.size]? = some (.cells #[.int .i64 0, .int .i64 0, .int .i64 0, .int .i64 0] 30 (0, 0))) := blk_alloc_new w _
  have hR : Hid (∀ W, Grown w W → RM W u) := fun W g => h.moved (Out.of_grown g fun _ => False) fun _ _ => id
  have hl := h.rp_live key
  have ch : Hid (∀ W, RM W u → Calls Try.prog 35 #[.pointer (some ⟨u.X, 0, none⟩), .int .i64 key] W fun e w' => e = .returned (.slice (u.r (u.A.rp key)).1 (u.A.L (u.A.rp key)).length (u.r (u.A.rp key)).2) ∧ ∃ d, w' = W.drewN d) := fun W h => chain_r h key
  have hv : Hid (∀ W, RM W u → Vec W 30 4 (u.r (u.A.rp key)).1 (u.A.L (u.A.rp key)).length (u.r (u.A.rp key)).2 (enL (u.A.L (u.A.rp key)))) := fun W h => h.inn _ ⟨hl, by rw [hn]; exact fun x => by cases x⟩
  clear h hn hl
  generalize (u.r (u.A.rp key)).1 = pp at *
  generalize (u.r (u.A.rp key)).2 = cp at *
  generalize u.A.L (u.A.rp key) = q at *
  obtain ⟨N, hN⟩ : ∃ N, Hid (N = q.length) := ⟨_, rfl⟩
  rw [← hN.out] at ch hv hlt hm
  have hf : fj J N = (J : Int) := by unfold fj; rw [if_pos hlt]
  have fr : Hid (∀ W, Vec W 30 4 pp N cp (enL q) → Calls Try.prog 36 #[.slice pp N cp, .int .i64 key] W fun e w' => e = .returned (.int .i64 (J : Int)) ∧ w' = W) := fun W h => by
    have := find_r h hN.out hm hJ
    rw [hf] at this
    exact this
  clear hJ hf
  have hr : Hid (q[J]? = some r) := hr
  have hI : (J : Int) < (N : Int) := by omega
  have d1 : decide ((J : Int) < 0) = false := by rw [decide_eq_false_iff_not]; omega
  go_enter Try.func17, Try.ntmps17
  go_wp2_with (first | (go_at_call 35; refine (ch.out _ (hR.out _ hw.out)).mono ?_; rintro e w' ⟨rfl, d, rfl⟩; generalize w.alloc (.cells #[.int .i64 0, .int .i64 0, .int .i64 0, .int .i64 0] 30) = W1 at hw hZ ⊢; have g2 : Grown w (W1.drewN d) := grownDrewN hw.out d; have h2 : (W1.drewN d).heap[w.heap.size]? = some (.cells #[.int .i64 0, .int .i64 0, .int .i64 0, .int .i64 0] 30 (0, 0)) := hZ.out; generalize W1.drewN d = W2 at g2 h2 ⊢; have v2 := hv.out _ (hR.out _ g2); have l2 := lt_of h2; have g2 : Hid (Grown w W2) := g2) | (go_at_call 36; refine (fr.out _ v2).mono ?_; rintro e w' ⟨rfl, hw3⟩; have hw3 := hw3.symm; subst hw3; obtain ⟨B, rfl, lB, hA, hfz, hcn⟩ := v2.opens (by omega); clear hA hfz hcn) | (refine wpList_load_at rfl _ rfl B rfl v2 hlt hr.out ?_) | (refine wpList_store_en rfl rfl (.tmp 4) (.tmp 20) rfl w.heap.size rfl rfl h2 rfl ?_; intro W3 h3 o3; have g3 := o3.grown g2.out (fun k hk => by omega); clear h2 o3 g2))
  exact bodyPost_ret (results_row_tmp Try.results17 _ _ w.heap.size 30 _ (0, 0) _ rfl h3 Try.underlying30 rfl sizeEn) rfl ⟨rfl, g3⟩
theorem get_rn (h : RM w u) (hn : u.h = none) (hJ : KAt (u.A.L (u.A.rp key)) key J) (hr : ¬ J < (u.A.L (u.A.rp key)).length) (hm : (u.A.L (u.A.rp key)).length ≤ 1000000) : Calls Try.prog 17 #[.pointer (some ⟨u.X, 0, none⟩), .int .i64 key] w fun e w' => e = .returned (.tuple #[.agg #[.int .i64 0, .int .i64 0, .int .i64 0, .int .i64 0], .bool false]) ∧ Grown w w' := by
  have hw : Hid (Grown w (w.alloc (.cells #[.int .i64 0, .int .i64 0, .int .i64 0, .int .i64 0] 30))) := (Grown.refl _).alloc _ _
  have hZ : Hid ((w.alloc (.cells #[.int .i64 0, .int .i64 0, .int .i64 0, .int .i64 0] 30)).heap[w.heap.size]? = some (.cells #[.int .i64 0, .int .i64 0, .int .i64 0, .int .i64 0] 30 (0, 0))) := blk_alloc_new w _
  have hR : Hid (∀ W, Grown w W → RM W u) := fun W g => h.moved (Out.of_grown g fun _ => False) fun _ _ => id
  have hl := h.rp_live key
  have ch : Hid (∀ W, RM W u → Calls Try.prog 35 #[.pointer (some ⟨u.X, 0, none⟩), .int .i64 key] W fun e w' => e = .returned (.slice (u.r (u.A.rp key)).1 (u.A.L (u.A.rp key)).length (u.r (u.A.rp key)).2) ∧ ∃ d, w' = W.drewN d) := fun W h => chain_r h key
  have hv : Hid (∀ W, RM W u → Vec W 30 4 (u.r (u.A.rp key)).1 (u.A.L (u.A.rp key)).length (u.r (u.A.rp key)).2 (enL (u.A.L (u.A.rp key)))) := fun W h => h.inn _ ⟨hl, by rw [hn]; exact fun x => by cases x⟩
  clear h hn hl
  generalize (u.r (u.A.rp key)).1 = pp at *
  generalize (u.r (u.A.rp key)).2 = cp at *
  generalize u.A.L (u.A.rp key) = q at *
  obtain ⟨N, hN⟩ : ∃ N, Hid (N = q.length) := ⟨_, rfl⟩
  rw [← hN.out] at ch hv hr hm
  have hf : fj J N = -1 := by unfold fj; rw [if_neg hr]
  have fr : Hid (∀ W, Vec W 30 4 pp N cp (enL q) → Calls Try.prog 36 #[.slice pp N cp, .int .i64 key] W fun e w' => e = .returned (.int .i64 (-1)) ∧ w' = W) := fun W h => by
    have := find_r h hN.out hm hJ
    rw [hf] at this
    exact this
  clear hJ hf hr
  go_enter Try.func17, Try.ntmps17
  go_wp2_with (first | (go_at_call 35; refine (ch.out _ (hR.out _ hw.out)).mono ?_; rintro e w' ⟨rfl, d, rfl⟩; generalize w.alloc (.cells #[.int .i64 0, .int .i64 0, .int .i64 0, .int .i64 0] 30) = W1 at hw hZ ⊢; have g2 : Grown w (W1.drewN d) := grownDrewN hw.out d; have h2 : (W1.drewN d).heap[w.heap.size]? = some (.cells #[.int .i64 0, .int .i64 0, .int .i64 0, .int .i64 0] 30 (0, 0)) := hZ.out; generalize W1.drewN d = W2 at g2 h2 ⊢; have v2 := hv.out _ (hR.out _ g2); have l2 := lt_of h2; have g2 : Hid (Grown w W2) := g2) | (go_at_call 36; refine (fr.out _ v2).mono ?_; rintro e w' ⟨rfl, hw3⟩; have hw3 := hw3.symm; subst hw3) | (refine wpList_store_en rfl rfl (.tmp 4) (.tmp 16) rfl w.heap.size rfl rfl h2 rfl ?_; intro W3 h3 o3; have g3 := o3.grown g2.out (fun k hk => by omega); clear h2 o3 g2))
  exact bodyPost_ret (results_row_tmp Try.results17 _ _ w.heap.size 30 _ (0, 0) _ rfl h3 Try.underlying30 rfl sizeEn) rfl ⟨rfl, g3⟩
end Go.Proofs.Ythjcdloaclailaa.Tb
