/-
  What All of package table does when it is called. No condition but those told at each sentence.
-/
import Derived.Test.YthjcdloaclailaaTbSort
import Derived.Test.YthjcdloaclailaaGenPack
namespace Go.Proofs.Ythjcdloaclailaa.Tb
open Go.RowKit Go.Deep Us
variable {W w w' : World} {t : Tab} {key : Int} {x : Lk} {e : En} {l : List Ob} {i : Nat} {p : Option Addr} {c : Nat} {q : List En}

def obE (p : Option Addr) (c : Nat) (q : List En) : Ob := obVec 30 4 p q.length c (enL q)
theorem infoEn : (Try.prog.info? 30).map (fun i => (i.zero, i.size, i.bytes)) = some (some e0.v, 4, 32) := by kernel_rfl
theorem make_en (c : Nat) (hc : c ≤ 1000000) (w : World) : (Instr.makeSlice 41 (.int .i64 0) (.int .i64 (c : Int))).run Try.prog w = .ok (.slice (some ⟨w.heap.size, 0, none⟩) 0 c) (w.alloc (.cells (madeCells #[.int .i64 0, .int .i64 0, .int .i64 0, .int .i64 0] (c * 4)) 30)) := by
  obtain ⟨i, hi, hz, hs, hb⟩ := info_parts infoEn
  have hr := run_make (P := Try.prog) w 41 30 i _ Try.underlying41 hi hz .i64 .i64 0 c (by omega) (by omega) (by rw [hb]; omega) (by omega)
  simp only [Int.toNat_natCast, Int.toNat_zero, hs] at hr
  exact hr
/-- A calm operation that loads the entry of a link. -/
theorem exec_load_lk {o : Oper} {A : Act} {w : World} {b : Nat} {d n k s : Int} {v : Value} (x : Operand) (ho : o.op = .load 30 x) (hx : A.eval x = .pointer (some ⟨b, 0, none⟩)) (h : w.heap[b]? = some (.cells #[.int .i64 d, .int .i64 n, .int .i64 k, .int .i64 s, v] 59 (0, 0))) :
    (execOp A.eval o).run Try.prog w = .ok (.value (.agg #[.int .i64 d, .int .i64 n, .int .i64 k, .int .i64 s])) w := by
  have hr := run_loadAt_mid (P := Try.prog) w b 0 30 [.int .i64 d, .int .i64 n, .int .i64 k, .int .i64 s] _ (fun j u hu => by
    rw [Nat.zero_add]
    rcases j with _ | _ | _ | _ | j
    · cases hu; exact cell_of h rfl
    · cases hu; exact cell_of h rfl
    · cases hu; exact cell_of h rfl
    · cases hu; exact cell_of h rfl
    · simp at hu) Try.underlying30 rfl sizeEn
  unfold execOp
  simp only [ho, hx, Sem.run_bind, hr, Result.andThen_ok, Sem.run_pure]
/-- The entries of the first k buckets. -/
def ents (t : Tab) (k : Nat) : List En := ((List.range k).flatMap fun j => t.c j).map (·.2)
theorem ents_succ (t : Tab) (k : Nat) : ents t (k + 1) = ents t k ++ (t.c k).map (·.2) := by
  unfold ents
  rw [List.range_succ, List.flatMap_append]
  simp
theorem flat_nodup (h : Shape t) (hn : (t.D.map (·.1)).Nodup) : ∀ k, k ≤ t.n → (((List.range k).flatMap fun j => t.c j).map (·.1)).Nodup ∧ ∀ y ∈ (List.range k).flatMap fun j => t.c j, y ∈ t.D ∧ pl t.s t.n t.l y.2.k < k
  | 0, _ => ⟨by simp, fun y hy => by simp at hy⟩
  | k + 1, hk => by
    obtain ⟨h1, h2⟩ := flat_nodup h hn k (by omega)
    have e : (List.range (k + 1)).flatMap (fun j => t.c j) = (List.range k).flatMap (fun j => t.c j) ++ t.c k := by rw [List.range_succ, List.flatMap_append]; simp
    rw [e]
    refine ⟨?_, fun y hy => ?_⟩
    · rw [List.map_append, List.nodup_append]
      refine ⟨h1, h.nod k (by omega), fun p hp q hq e => ?_⟩
      obtain ⟨y, hy, rfl⟩ := List.mem_map.1 hp
      obtain ⟨z, hz, rfl⟩ := List.mem_map.1 hq
      obtain ⟨z1, z2⟩ := h.mem k (by omega) z hz
      obtain ⟨y1, y2⟩ := h2 y hy
      have := nodup_same hn y1 z1 e
      subst this
      omega
    · rcases List.mem_append.1 hy with hy | hy
      · obtain ⟨g1, g2⟩ := h2 y hy
        exact ⟨g1, by omega⟩
      · obtain ⟨g1, g2⟩ := h.mem k (by omega) y hy
        exact ⟨g1, by omega⟩
theorem nodup_of_fst {D : List Lk} (h : (D.map (·.1)).Nodup) : D.Nodup := List.Pairwise.of_map _ (fun _ _ hn e => hn (by rw [e])) h
theorem flat_perm (h : Shape t) (hn : (t.D.map (·.1)).Nodup) : ((List.range t.n).flatMap fun j => t.c j).Perm t.D := by
  obtain ⟨h1, h2⟩ := flat_nodup h hn t.n (Nat.le_refl _)
  refine (List.perm_ext_iff_of_nodup (nodup_of_fst h1) (nodup_of_fst hn)).2 fun y => ⟨fun hy => (h2 y hy).1, fun hy => ?_⟩
  exact List.mem_flatMap.2 ⟨_, List.mem_range.2 (h.pl_lt y.2.k), h.all y hy⟩
theorem flat_le (h : Shape t) (hn : (t.D.map (·.1)).Nodup) (k : Nat) (hk : k ≤ t.n) : ((List.range k).flatMap fun j => t.c j).length ≤ t.D.length := by
  obtain ⟨h1, h2⟩ := flat_nodup h hn k hk
  have := List.Nodup.length_le_of_subset h1 (l₂ := t.D.map (·.1)) fun p hp => by
    obtain ⟨y, hy, rfl⟩ := List.mem_map.1 hp
    exact List.mem_map_of_mem (h2 y hy).1
  simpa using this
/-- What All answers: the entries by rising keys. -/
def Sorted (t : Tab) (q : List En) : Prop := q.Perm (t.D.map (·.2)) ∧ q.Pairwise fun a b => a.k < b.k
theorem sorted_of (h : Shape t) (hp : q.Perm (t.D.map (·.2))) (hs : q.Pairwise fun a b => a.k ≤ b.k) : Sorted t q := by
  refine ⟨hp, ?_⟩
  have hk : (q.map (·.k)).Nodup := by
    have := (hp.map (·.k)).nodup_iff.2 (by rw [List.map_map]; exact h.keys)
    exact this
  have hk : q.Pairwise fun a b => a.k ≠ b.k := List.Pairwise.of_map _ (fun _ _ hn => hn) hk
  exact (hs.and hk).imp fun ⟨h1, h2⟩ => by omega
theorem enL_push (q : List En) (e : En) : ∀ j, j < (q.length + 1) * 4 → (if j < q.length * 4 then enL q j else (cs e).getD (j - q.length * 4) undef) = enL (q ++ [e]) j := fun j hj => by
  by_cases h : j < q.length * 4
  · have this : (q ++ [e]).getD (j / 4) e0 = q.getD (j / 4) e0 := by rw [List.getD_eq_getElem?_getD, List.getD_eq_getElem?_getD, List.getElem?_append_left (by omega)]
    rw [if_pos h]
    unfold enL
    rw [this]
  · have h4 : j / 4 = q.length := by omega
    have this : (q ++ [e]).getD q.length e0 = e := by simp [List.getD_eq_getElem?_getD]
    rw [if_neg h]
    unfold enL
    rw [h4, this, show j % 4 = j - q.length * 4 by omega]
theorem set_mid (l2 : List Ob) (b b' c : Ob) : (l2 ++ [b] ++ [c]).set l2.length b' = l2 ++ [b'] ++ [c] := by
  rw [List.append_assoc, List.set_append_right _ _ (Nat.le_refl _)]
  simp
theorem appended_e {tmp : Array Value} {y : TypeId} {p' : Option Addr} {c' : Nat} {w2 : World} (h : Apt W w l) (hi : l[i]? = some (obE p c q)) (hv : Vec w2 30 4 p' (q.length + 1) c' (fun j => if j < q.length * 4 then enL q j else (cs e).getD (j - q.length * 4) undef)) (o : Out (In p) (w.alloc (.cells tmp y)) w2)
    (hp : p' = p ∨ p' = some ⟨(w.alloc (.cells tmp y)).heap.size, 0, none⟩) : Apt W w2 (l.set i (obE p' c' (q ++ [e]))) := by
  have g : Grown w (w.alloc (.cells tmp y)) := (Grown.refl w).alloc _ _
  have hv' : Vec w2 30 4 p' (q ++ [e]).length c' (enL (q ++ [e])) := by
    rw [List.length_append]
    exact hv.congr (enL_push q e)
  refine h.upd hi hv' ⟨Out.after g o, fun k hk => ?_⟩
  rcases hp with rfl | rfl
  · exact .inl hk
  · have hk : In (some ⟨(w.alloc (.cells tmp y)).heap.size, 0, none⟩) k := hk
    rw [hk.eq, nblk_alloc]; exact .inr (by omega)
theorem set_blk {V : Nat} {ty : TypeId} {cs : Array Value} (h : Apt W w l) (hi : l[i]? = some (obBlk V ty cs)) (j : Nat) (v : Value) : Apt W (w.setCell ⟨V, j, none⟩ v) (l.set i (obBlk V ty (cs.setIfInBounds j v))) :=
  h.upd hi (blk_set (h.all i _ hi) j v) ⟨(Out.refl (fun k => k = V) w).setCell (a := ⟨V, j, none⟩) rfl v, fun _ hk => .inl hk⟩
theorem new_four (w : World) (e : En) (y : TypeId) : ∀ j, j < 1 * 4 → (w.alloc (.cells #[.int .i64 e.k, .int .i64 e.a, .int .i64 e.x, .int .i64 e.n] y)).cell? ((⟨w.heap.size, 0, none⟩ : Addr).add j) = some ((cs e).getD j undef) := fun j hj => by
  have e1 : (⟨w.heap.size, 0, none⟩ : Addr).add j = ⟨w.heap.size, j, none⟩ := by unfold Addr.add; split <;> simp_all
  rw [e1]
  refine cell_of (blk_alloc_new _ _) ?_
  rcases j with _ | _ | _ | _ | j
  · rfl
  · rfl
  · rfl
  · rfl
  · omega
set_option maxRecDepth 4000 in
set_option maxHeartbeats 2000000 in
theorem all_s (h : Apt W w l) (hi : l[i]? = some (obT t)) (hm : t.D.length ≤ 1000000) : Calls Try.prog 26 #[ptr t.X] w fun e w' => ∃ p c q, e = .returned (.slice p q.length c) ∧ Apt W w' (l ++ [obE p c q]) ∧ Sorted t q := by
  have ht : Tb w t := h.all i _ hi
  obtain ⟨c0, c1, c2, c3⟩ := ht.mem.head.cells
  have lX := ht.mem.lt (.inl rfl)
  have hmk := make_en t.D.length hm
  have hlt : Hid (i < l.length) := (List.getElem?_eq_some_iff.1 hi).1
  have hs : Hid (Shape t) := ht.sh
  have hn : Hid ((t.D.map (·.1)).Nodup) := ht.mem.nd
  have hi : Hid (l[i]? = some (obT t)) := hi
  have h0 : Hid (∀ cs ty, Apt W ((w.alloc (.cells (madeCells #[.int .i64 0, .int .i64 0, .int .i64 0, .int .i64 0] (t.D.length * 4)) 30)).alloc (.cells cs ty)) (l ++ [obE (some ⟨w.heap.size, 0, none⟩) t.D.length []] ++ [obBlk (w.heap.size + 1) ty cs])) := fun cs ty => by
    have h1 : Apt W (w.alloc (.cells (madeCells #[.int .i64 0, .int .i64 0, .int .i64 0, .int .i64 0] (t.D.length * 4)) 30)) (l ++ [obE (some ⟨w.heap.size, 0, none⟩) t.D.length []]) :=
      h.add ((Grown.refl _).alloc _ _) (Or.inr ⟨_, _, rfl, blk_alloc_new _ _, Nat.zero_le _, by unfold maxLen; omega, by rw [size_madeCells], fun j hj => by simp at hj⟩) fun k hk => by
        have hk : In (some ⟨w.heap.size, 0, none⟩) k := hk
        rw [hk.eq]; exact Nat.le_refl _
    have h2 := h1.add (u := obBlk (w.alloc (.cells (madeCells #[.int .i64 0, .int .i64 0, .int .i64 0, .int .i64 0] (t.D.length * 4)) 30)).heap.size ty cs) ((Grown.refl _).alloc cs ty) (blk_alloc_new _ _) fun k hk => by
      have hk : k = _ := hk
      rw [hk]; exact Nat.le_refl _
    rw [nblk_alloc] at h2
    exact h2
  clear h ht
  unfold ptr at *
  have gl : Hid (∀ k, k ≤ t.n → (ents t k).length ≤ 1000000) := fun k hk => by
    have := flat_le hs.out hn.out k hk
    unfold ents
    rw [List.length_map]; omega
  go_enter Try.func26, Try.ntmps26
  go_wp2
  clear hmk
  obtain ⟨V, hV⟩ : ∃ V, Hid (V = w.heap.size + 1) := ⟨_, rfl⟩
  rw [← hV.out]
  rw [← hV.out] at h0
  go_loopw [5, 16] (fun _ iv wr => ∃ (k m c : Nat) (p : Option Addr), Hid (∃ B, p = some ⟨B, 0, none⟩) ∧ k ≤ t.n ∧ iv = .int .i64 (k : Int) ∧ Hid (m = (ents t k).length) ∧ Apt W wr (l ++ [obE p c (ents t k)] ++ [obBlk V 41 #[.slice p m c]])) (fun _ i _ => t.n - (intOf i).toNat)
  case atStart => exact ⟨0, 0, t.D.length, _, ⟨_, rfl⟩, Nat.zero_le _, rfl, rfl, h0.out _ _⟩
  case round =>
    clear c0 c1 c2 c3 lX h0
    obtain ⟨k, m, c, p, hp, hk, rfl, hm1, hx⟩ := hrel
    have HT : Hid (∀ (W' : World) (a b : Ob), Apt W W' (l ++ [a] ++ [b]) → Tb W' t) := fun W' a b h => h.all i _ (by rw [List.append_assoc, List.getElem?_append_left hlt.out]; exact hi.out)
    have hx : Hid (Apt W wr (l ++ [obE p c (ents t k)] ++ [obBlk V 41 #[.slice p m c]])) := hx
    by_cases hlt' : k < t.n
    · have hd : decide ((k : Int) < (t.n : Int)) = true := by rw [decide_eq_true_eq]; omega
      have kn : (k : Int) < (t.n : Int) := by omega
      obtain ⟨cB, _, lB⟩ := (HT.out _ _ _ hx.out).mem.cell (.inl ⟨k, hlt', rfl⟩ : At t.B t.n t.D ⟨t.B, k, none⟩)
      rw [linked_first (hs.out.link k hlt')] at cB
      have hn64 : t.n ≤ 131072 := hs.out.hi
      obtain ⟨μ, hμ⟩ := rank_nx (t.c k) (hs.out.nod k hlt')
      have hμ : Hid (∀ a r, t.c k = a ++ r → μ (nx r) = r.length) := hμ
      go_wp2
      clear cB
      go_loopw [5] (fun lv wr => ∃ (a r : List Lk) (m c : Nat) (p : Option Addr), Hid (∃ B, p = some ⟨B, 0, none⟩) ∧ Hid (t.c k = a ++ r) ∧ Hid (m = (ents t k ++ a.map (·.2)).length) ∧ Apt W wr (l ++ [obE p c (ents t k ++ a.map (·.2))] ++ [obBlk V 41 #[.slice p m c]]) ∧ lv = nx r) (fun lv _ => μ lv)
      case atStart => exact ⟨[], t.c k, m, c, p, hp, rfl, by show _ = _; rw [hm1.out]; simp, by simpa using hx.out, rfl⟩
      case round =>
        clear hp hx
        obtain ⟨a, r, m, c, p, hp, hca, hma, hy, rfl⟩ := hrel
        obtain ⟨q, hq⟩ : ∃ q, Hid (q = ents t k ++ a.map (·.2)) := ⟨_, rfl⟩
        rw [← hq.out] at hma hy
        have hy : Hid (Apt W wr (l ++ [obE p c q] ++ [obBlk V 41 #[.slice p m c]])) := hy
        cases r with
        | nil =>
          have hnil : nx [] = .pointer none := rfl
          rw [hnil]
          have he : Hid (ents t (k + 1) = q) := by show _ = _; rw [ents_succ, hq.out, hca.out]; simp
          clear hnil
          go_wp2
          go_roundw
          case rel => exact ⟨k + 1, m, c, p, hp, by omega, by go_num, by rw [he.out]; exact hma, by rw [he.out]; exact hy.out⟩
          case measure => simp [intOf]; omega
        | cons x r =>
          have hcons : nx (x :: r) = .pointer (some ⟨x.1, 0, none⟩) := rfl
          have hme : Hid (μ (nx r) < μ (nx (x :: r))) := by
            show _ < _
            rw [hμ.out (a ++ [x]) r (by rw [hca.out]; simp), hμ.out a (x :: r) hca.out]
            simp
          rw [hcons] at hme ⊢
          have hxD : Hid (x ∈ t.D) := (hs.out.mem k hlt' x (by rw [hca.out]; simp)).1
          have hv : Hid (t.val ⟨x.1, 4, none⟩ = nx r) := by
            have q := hs.out.link k hlt'
            rw [hca.out, linked_app] at q
            exact linked_first q.2.2
          have hm3 : m < 1000000 := by
            have h1 := gl.out (k + 1) hlt'
            rw [ents_succ, hca.out] at h1
            rw [hma.out, hq.out]
            simp at h1 ⊢
            omega
          have hq2 : Hid (q ++ [x.2] = ents t k ++ (a ++ [x]).map (·.2)) := by show _ = _; rw [hq.out]; simp
          clear hcons
          go_wp2
          have h1 : Hid (Apt W wr.drew (l ++ [obE p c q] ++ [obBlk V 41 #[.slice p m c]])) := hy.out.drew
          clear hy
          refine region_fill [5, 6, 7] [(26, .slice p m c), (27, .pointer (some ⟨x.1, 0, none⟩)), (28, .pointer (some ⟨x.1, 0, none⟩)), (29, .pointer (some ⟨x.1, 0, none⟩)), (30, .agg #[.int .i64 x.2.k, .int .i64 x.2.a, .int .i64 x.2.x, .int .i64 x.2.n])] hmx (by kernel_rfl) (by kernel_rfl) ?_
          simp only [fills, Act.put, List.setIfInBounds_toArray, List.set_cons_zero, List.set_cons_succ]
          generalize wr.drew = W1 at h1 ⊢
          have hk1 : W1.heap[x.1]? = some (.cells #[.int .i64 x.2.k, .int .i64 x.2.a, .int .i64 x.2.x, .int .i64 x.2.n, nx r] 59 (0, 0)) := by rw [← hv.out]; exact (HT.out _ _ _ h1.out).mem.lnk x hxD.out
          have hV1 : W1.heap[V]? = some (.cells #[.slice p m c] 41 (0, 0)) := h1.out.all _ _ (at_end _ _)
          have cV1 : W1.cell? ⟨V, 0, none⟩ = some (.slice p m c) := cell_of hV1 rfl
          have lV1 := lt_of hV1
          have lk1 := lt_of hk1
          refine flow_val (some 31) (.slice (some ⟨W1.heap.size, 0, none⟩) 1 1) (W1.alloc (.cells #[.int .i64 x.2.k, .int .i64 x.2.a, .int .i64 x.2.x, .int .i64 x.2.n] 30)) _ rfl rfl ?run (by go_simp) ?_
          case run =>
            intro i o ho hi
            iterate 8 (rcases i with _ | i; · first | (exact absurd hi (by decide)) | (cases ho; exact exec_load_lk _ rfl rfl hk1) | (cases ho; go_simp; done))
            cases ho
          simp only [Act.put, List.setIfInBounds_toArray, List.set_cons_zero, List.set_cons_succ]
          have hk2 := (blk_alloc_lt W1 (.cells #[.int .i64 x.2.k, .int .i64 x.2.a, .int .i64 x.2.x, .int .i64 x.2.n] 30) _ lk1).trans hk1
          have hV2 := (blk_alloc_lt W1 (.cells #[.int .i64 x.2.k, .int .i64 x.2.a, .int .i64 x.2.x, .int .i64 x.2.n] 30) _ lV1).trans hV1
          have hvec : Vec (W1.alloc (.cells #[.int .i64 x.2.k, .int .i64 x.2.a, .int .i64 x.2.x, .int .i64 x.2.n] 30)) 30 4 p q.length c (enL q) := Vec.grown (h1.out.all _ _ (at_mid _ _ _)) ((Grown.refl _).alloc _ _)
          obtain ⟨p', c', w3, hr, hv3, ho3, hp3⟩ := run_append_vec (P := Try.prog) 41 Try.underlying41 infoEn rfl hvec (ad := ⟨W1.heap.size, 0, none⟩) (m := 1) (cx := 1) (g := fun j => (cs x.2).getD j undef) (by decide) (new_four W1 x.2 _) (fun j hj => by
            rcases j with _ | _ | _ | _ | j
            · rfl
            · rfl
            · rfl
            · rfl
            · omega) (by rw [← hma.out]; omega) (by rw [← hma.out]; omega)
          have h3 := appended_e h1.out (at_mid _ _ _) hv3 ho3 hp3
          rw [set_mid] at h3
          have h3 : Hid (Apt W w3 (l ++ [obE p' c' (q ++ [x.2])] ++ [obBlk V 41 #[.slice p m c]])) := h3
          rw [← hma.out] at hr
          have hp4 : Hid (∃ B, p' = some ⟨B, 0, none⟩) := by
            rcases hp3 with rfl | rfl
            · exact hp
            · exact ⟨_, rfl⟩
          clear hvec hv3 ho3 hp3 hk1 hV1 cV1 lV1 lk1 h1
          have cV2 : (W1.alloc (.cells #[.int .i64 x.2.k, .int .i64 x.2.a, .int .i64 x.2.x, .int .i64 x.2.n] 30)).cell? ⟨V, 0, none⟩ = some (.slice p m c) := cell_of hV2 rfl
          have lV2 := lt_of hV2
          have lk2 := lt_of hk2
          refine flow_val (some 32) (.slice p' (m + 1) c') w3 _ rfl rfl ?run (exec_append rfl rfl rfl hr) ?_
          case run =>
            clear hr
            intro i o ho hi
            iterate 8 (rcases i with _ | i; · first | (exact absurd hi (by decide)) | (cases ho; exact exec_load_lk _ rfl rfl hk2) | (cases ho; go_simp; done))
            cases ho
          simp only [Act.put, List.setIfInBounds_toArray, List.set_cons_zero, List.set_cons_succ]
          clear hr hk2 hV2 cV2 lV2 lk2
          have hk3 : w3.heap[x.1]? = some (.cells #[.int .i64 x.2.k, .int .i64 x.2.a, .int .i64 x.2.x, .int .i64 x.2.n, nx r] 59 (0, 0)) := by rw [← hv.out]; exact (HT.out _ _ _ h3.out).mem.lnk x hxD.out
          have hV3 : w3.heap[V]? = some (.cells #[.slice p m c] 41 (0, 0)) := h3.out.all _ _ (at_end _ _)
          have cV3 : w3.cell? ⟨V, 0, none⟩ = some (.slice p m c) := cell_of hV3 rfl
          have fV3 : w3.frozen? ⟨V, 0, none⟩ = false := fr0 hV3 0
          have lV3 := lt_of hV3
          have lk3 := lt_of hk3
          have h4 := set_blk h3.out (at_end _ _) 0 (.slice p' (m + 1) c')
          rw [set_end] at h4
          have h4 : Hid (Apt W (w3.setCell ⟨V, 0, none⟩ (.slice p' (m + 1) c')) (l ++ [obE p' c' (q ++ [x.2])] ++ [obBlk V 41 #[.slice p' (m + 1) c']])) := h4
          refine flow_cons _ undef (w3.setCell ⟨V, 0, none⟩ (.slice p' (m + 1) c')) rfl ?run ?eff ?next
          case run =>
            intro i o ho hi
            iterate 8 (rcases i with _ | i; · first | (exact absurd hi (by decide)) | (cases ho; exact exec_load_lk _ rfl rfl hk3) | (cases ho; go_simp; done))
            cases ho
          case eff => first | (left; go_simp; done) | (right; refine ⟨?_, rfl⟩; go_simp; done)
          case next =>
            show Exit.inBlock _ _ Exit.normal _ _
            clear hk3 hV3 cV3 fV3 lV3 lk3 h3
            generalize w3.setCell ⟨V, 0, none⟩ (.slice p' (m + 1) c') = W4 at h4 ⊢
            have hk4 := (HT.out _ _ _ h4.out).mem.lnk x hxD.out
            rw [hv.out] at hk4
            have k4 : W4.cell? ⟨x.1, 4, none⟩ = some (nx r) := cell_of hk4 rfl
            have lk4 := lt_of hk4
            clear hk4
            go_wp2
            go_roundw
            case rel => exact ⟨a ++ [x], r, m + 1, c', p', hp4, by show _ = _; rw [hca.out]; simp, by show _ = _; rw [← hq2.out]; simp [hma.out], by rw [← hq2.out]; exact h4.out, rfl⟩
            case measure => exact hme.out
    · obtain rfl : k = t.n := by omega
      have hd : decide ((t.n : Int) < (t.n : Int)) = false := by rw [decide_eq_false_iff_not]; omega
      obtain ⟨B, rfl⟩ := hp.out
      obtain ⟨q, hq⟩ : ∃ q, Hid (q = ents t t.n) := ⟨_, rfl⟩
      rw [← hq.out] at hm1 hx
      have hV1 : wr.heap[V]? = some (.cells #[.slice (some ⟨B, 0, none⟩) m c] 41 (0, 0)) := hx.out.all _ _ (at_end _ _)
      have hne : V ≠ B := fun e => hx.out.apart (l ++ [obE (some ⟨B, 0, none⟩) c q]).length l.length _ _ (at_end _ _) (at_mid _ _ _) (by simp) V rfl (by rw [e]; exact In.self B)
      have hv1 : Vec wr 30 4 (some ⟨B, 0, none⟩) q.length c (enL q) := hx.out.all _ _ (at_mid _ _ _)
      have hle : m ≤ 1000000 := by rw [hm1.out, hq.out]; exact gl.out t.n (Nat.le_refl _)
      have hst := sort_t hv1 (by rw [← hm1.out]; exact hV1) hne (by rw [← hm1.out]; exact hle)
      rw [← hm1.out] at hst
      have hst : Calls Try.prog 40 #[.iface 41 (.slice (some ⟨B, 0, none⟩) m c), .func (.func 41) #[] #[.pointer (some ⟨V, 0, none⟩)]] wr fun e w' => e = .returned (.tuple #[]) ∧ ∃ q', Hid (m = q'.length) ∧ Hid (Sorted t q') ∧ Hid (Apt W w' (l ++ [obE (some ⟨B, 0, none⟩) c q'] ++ [obBlk V 41 #[.slice (some ⟨B, 0, none⟩) m c]])) := by
        refine hst.mono ?_
        rintro e w' ⟨rfl, q', h1, h2, h3, h4⟩
        have hl : m = q'.length := by rw [h1.length_eq]; exact hm1.out
        refine ⟨rfl, q', hl, sorted_of hs.out (h1.trans ?_) h2, ?_⟩
        · rw [hq.out]
          exact (flat_perm hs.out hn.out).map _
        · have h5 := hx.out.upd (at_mid _ _ _) (o' := obE (some ⟨B, 0, none⟩) c q') (by rw [hl] at h3; exact h3) ⟨h4.wide (G := In (some ⟨B, 0, none⟩)) fun k _ e => by rw [e]; exact In.self B, fun _ hk => .inl hk⟩
          rw [set_mid] at h5
          exact h5
      have cV1 : wr.cell? ⟨V, 0, none⟩ = some (.slice (some ⟨B, 0, none⟩) m c) := cell_of hV1 rfl
      have lV1 := lt_of hV1
      clear hv1 hV1 hx hp
      go_wp2_with (go_at_call 40; refine hst.mono ?_; rintro e w2 ⟨rfl, q', hl, hso, h2⟩; clear cV1 lV1; have hV2 : w2.heap[V]? = some (.cells #[.slice (some ⟨B, 0, none⟩) m c] 41 (0, 0)) := h2.out.all _ _ (at_end _ _); have cV2 : w2.cell? ⟨V, 0, none⟩ = some (.slice (some ⟨B, 0, none⟩) m c) := cell_of hV2 rfl; have lV2 := lt_of hV2)
      go_ret
      exact ⟨_, c, q', by rw [← hl.out]; rfl, h2.out.front, hso.out⟩
end Go.Proofs.Ythjcdloaclailaa.Tb
