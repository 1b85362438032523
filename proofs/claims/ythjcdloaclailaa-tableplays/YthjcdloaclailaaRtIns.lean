/-
  What put of package pantryref15 does when it is called: an entry laid among others by its key. No condition but those told at each sentence.
-/
import Derived.Test.YthjcdloaclailaaRtSet
import Derived.Test.YthjcdloaclailaaGenFlowG
namespace Go.Proofs.Ythjcdloaclailaa
open Go.RowKit Go.Deep
theorem at_n {α : Type} (l m : List α) (j : Nat) : (l ++ m)[l.length + j]? = m[j]? := by
  rw [List.getElem?_append_right (Nat.le_add_right _ _), Nat.add_sub_cancel_left]
theorem set_n {α : Type} (l m : List α) (j : Nat) (x : α) : (l ++ m).set (l.length + j) x = l ++ m.set j x := by
  rw [List.set_append_right _ _ (Nat.le_add_right _ _), Nat.add_sub_cancel_left]
theorem Apt.pick {W w : World} {l m : List Ob} {j : Nat} {o : Ob} (h : Apt W w (l ++ m)) (hj : m[j]? = some o) : Apt W w (l ++ [o]) := by
  have hj2 := (List.getElem?_eq_some_iff.1 hj).1
  refine h.perm (fun i => if i < l.length then i else l.length + j) (fun i x hx => ?_) (fun a b ha hb hab => ?_)
  · by_cases c : i < l.length
    · rw [if_pos c, List.getElem?_append_left c]
      rw [List.getElem?_append_left c] at hx
      exact hx
    · have hlt := (List.getElem?_eq_some_iff.1 hx).1
      simp at hlt
      obtain rfl : i = l.length := by omega
      rw [if_neg c, at_n, hj]
      rw [List.getElem?_append_right (Nat.le_refl _)] at hx
      simpa using hx
  · simp at ha hb
    by_cases c : a < l.length <;> by_cases d : b < l.length
    · rw [if_pos c, if_pos d]; exact hab
    · rw [if_pos c, if_neg d]; omega
    · rw [if_neg c, if_pos d]; omega
    · omega
end Go.Proofs.Ythjcdloaclailaa
namespace Go.Proofs.Ythjcdloaclailaa.Tb
open Go.RowKit Go.Deep Us
variable {W w w' : World} {key : Int} {e r : En} {J X n : Nat} {q q1 q2 : List En} {l m : List Ob} {i j c : Nat} {p : Option Addr}

theorem enL_app (q1 q2 : List En) : ∀ j, j < (q1.length + q2.length) * 4 → (if j < q1.length * 4 then enL q1 j else enL q2 (j - q1.length * 4)) = enL (q1 ++ q2) j := fun j hj => by
  by_cases h : j < q1.length * 4
  · have this : (q1 ++ q2).getD (j / 4) e0 = q1.getD (j / 4) e0 := by rw [List.getD_eq_getElem?_getD, List.getD_eq_getElem?_getD, List.getElem?_append_left (by omega)]
    rw [if_pos h]
    unfold enL
    rw [this]
  · have this : (q1 ++ q2).getD (j / 4) e0 = q2.getD ((j - q1.length * 4) / 4) e0 := by
      rw [List.getD_eq_getElem?_getD, List.getD_eq_getElem?_getD, List.getElem?_append_right (by omega), show j / 4 - q1.length = (j - q1.length * 4) / 4 by omega]
    rw [if_neg h]
    unfold enL
    rw [this, show (j - q1.length * 4) % 4 = j % 4 by omega]
theorem enL_one (q : List En) (j : Nat) : (enL q j).oneCell' = true := by
  unfold enL
  have h : j % 4 < 1 * 4 := by omega
  generalize q.getD (j / 4) e0 = r
  generalize j % 4 = i at h
  rcases i with _ | _ | _ | _ | i
  · rfl
  · rfl
  · rfl
  · rfl
  · omega
/-- append of a row of entries to another. -/
theorem append_l (ty : TypeId) (h : Apt W w (l ++ m)) (hj : m[j]? = some (obE p c q1)) (xp : Option Addr) (cx : Nat) {n1 n2 n : Nat} (h1 : q1.length = n1) (h2 : q2.length = n2) (hn : n1 + n2 = n) (hb : n ≤ 2000000) (hx : 0 < n2 → ∃ ad, xp = some ad ∧ ∀ j, j < n2 * 4 → w.cell? (ad.add j) = some (enL q2 j)) :
    ∃ p' c' w', (Builtin.append_ #[41, 41] ty #[.slice p n1 c, .slice xp n2 cx]).run Try.prog w = .ok (.slice p' n c') w' ∧ Hid (Apt W w' (l ++ m.set j (obE p' c' (q1 ++ q2)))) := by
  have hi : (l ++ m)[l.length + j]? = some (obE p c q1) := by rw [at_n]; exact hj
  have hv : Vec w 30 4 p q1.length c (enL q1) := h.all _ _ hi
  subst h1 h2 hn
  by_cases hm : 0 < q2.length
  · obtain ⟨ad, rfl, hc⟩ := hx hm
    obtain ⟨p', c', w', hr, hv', ho, hp⟩ := run_append_vec (P := Try.prog) ty Try.underlying41 infoEn rfl hv (cx := cx) hm hc (fun j _ => enL_one q2 j) (by omega) (by omega)
    refine ⟨p', c', w', hr, ?_⟩
    have hv2 : Vec w' 30 4 p' (q1 ++ q2).length c' (enL (q1 ++ q2)) := by
      rw [List.length_append]
      exact hv'.congr (enL_app q1 q2)
    have := h.upd hi (o' := obE p' c' (q1 ++ q2)) hv2 ⟨ho, fun k hk => by
      rcases hp with rfl | rfl
      · exact .inl hk
      · have hk : In (some ⟨w.heap.size, 0, none⟩) k := hk
        rw [hk.eq]; exact .inr (Nat.le_refl _)⟩
    rw [set_n] at this
    exact this
  · obtain rfl : q2 = [] := List.eq_nil_of_length_eq_zero (by omega)
    have hnc : q1.length ≤ c := by
      rcases hv with ⟨_, h1, h2⟩ | ⟨_, _, _, _, h3, _⟩
      · omega
      · exact h3
    refine ⟨_, _, _, run_append_nothing ty Try.underlying41 infoEn hnc, ?_⟩
    have e : m.set j (obE p c (q1 ++ [])) = m := by
      rw [List.append_nil]
      refine List.ext_getElem? fun i => ?_
      rw [List.getElem?_set]
      by_cases e : j = i
      · subst e
        rw [if_pos rfl, if_pos (List.getElem?_eq_some_iff.1 hj).1, hj]
      · rw [if_neg e]
    show Apt W w (l ++ m.set j (obE p c (q1 ++ [])))
    rw [e]
    exact h
theorem mk_none (h : Apt W w (l ++ m)) : Hid (Apt W (w.alloc (.cells #[] 30)) (l ++ (m ++ [obE (some ⟨w.heap.size, 0, none⟩) 0 []]))) := by
  show Apt _ _ _
  rw [← List.append_assoc]
  refine h.add ((Grown.refl _).alloc _ _) (Vec.laid w _ #[] 0 4 (by unfold maxLen; omega) (by simp) _ (fun j hj => by omega)) fun k hk => ?_
  have hk : In (some ⟨w.heap.size, 0, none⟩) k := hk
  rw [hk.eq]; exact Nat.le_refl _
theorem enL_single (e : En) : ∀ j, j < 1 * 4 → (#[.int .i64 e.k, .int .i64 e.a, .int .i64 e.x, .int .i64 e.n] : Array Value)[j]? = some (enL [e] j) := fun j hj => by
  rcases j with _ | _ | _ | _ | j
  · rfl
  · rfl
  · rfl
  · rfl
  · omega
theorem mk_one (h : Apt W w (l ++ m)) (e : En) : Hid (Apt W (w.alloc (.cells #[.int .i64 e.k, .int .i64 e.a, .int .i64 e.x, .int .i64 e.n] 30)) (l ++ (m ++ [obE (some ⟨w.heap.size, 0, none⟩) 1 [e]]))) := by
  show Apt _ _ _
  rw [← List.append_assoc]
  refine h.add ((Grown.refl _).alloc _ _) (Vec.laid w _ _ 1 4 (by unfold maxLen; omega) rfl _ (enL_single e)) fun k hk => ?_
  have hk : In (some ⟨w.heap.size, 0, none⟩) k := hk
  rw [hk.eq]; exact Nat.le_refl _
/-- The cells of a row, from its start; behind its first k entries. -/
theorem cells_take {B k : Nat} (hv : Vec w 30 4 (some ⟨B, 0, none⟩) q.length c (enL q)) (hk : k ≤ q.length) : ∀ j, j < k * 4 → w.cell? ((⟨B, 0, none⟩ : Addr).add j) = some (enL (q.take k) j) := fun j hj => by
  obtain ⟨_, hB, _, ci, _, _⟩ := hv.opens (by omega)
  cases hB
  rw [add0, Nat.zero_add, ci j (by omega)]
  congr 1
  unfold enL
  rw [show (q.take k).getD (j / 4) e0 = q.getD (j / 4) e0 by rw [List.getD_eq_getElem?_getD, List.getD_eq_getElem?_getD, List.getElem?_take_of_lt (by omega)]]
theorem cells_drop {B k : Nat} (hv : Vec w 30 4 (some ⟨B, 0, none⟩) q.length c (enL q)) (hk : k < q.length) : ∀ j, j < (q.length - k) * 4 → w.cell? ((⟨B, k * 4, none⟩ : Addr).add j) = some (enL (q.drop k) j) := fun j hj => by
  obtain ⟨_, hB, _, ci, _, _⟩ := hv.opens (by omega)
  cases hB
  rw [add0, ci (k * 4 + j) (by omega)]
  congr 1
  unfold enL
  rw [show (q.drop k).getD (j / 4) e0 = q.getD ((k * 4 + j) / 4) e0 by rw [List.getD_eq_getElem?_getD, List.getD_eq_getElem?_getD, List.getElem?_drop, show k + j / 4 = (k * 4 + j) / 4 by omega], show (k * 4 + j) % 4 = j % 4 by omega]
def ins (k : Nat) (e : En) (q : List En) : List En := q.take k ++ [e] ++ q.drop k
theorem ins_perm (k : Nat) (e : En) (q : List En) : (ins k e q).Perm (e :: q) := by
  unfold ins
  rw [List.append_assoc]
  have := List.perm_middle (a := e) (l₁ := q.take k) (l₂ := q.drop k)
  rw [List.take_append_drop] at this
  exact this
theorem ins_sorted {k : Nat} (h : q.Pairwise fun a b => a.k ≤ b.k) (h1 : ∀ r ∈ q.take k, r.k < e.k) (h2 : ∀ r, q[k]? = some r → e.k ≤ r.k) : (ins k e q).Pairwise fun a b => a.k ≤ b.k := by
  have h0 := h
  rw [← List.take_append_drop k q, List.pairwise_append] at h
  obtain ⟨a, b, d⟩ := h
  have hd : ∀ y ∈ q.drop k, e.k ≤ y.k := fun y hy => by
    obtain ⟨i, hi, rfl⟩ := List.getElem_of_mem hy
    rw [List.length_drop] at hi
    rw [List.getElem_drop]
    have h3 := h2 q[k] (List.getElem?_eq_getElem (by omega))
    rcases Nat.eq_or_lt_of_le (Nat.zero_le i) with c | c
    · subst c; simpa using h3
    · have := List.pairwise_iff_getElem.1 h0 k (k + i) (by omega) (by omega) (by omega)
      omega
  unfold ins
  rw [List.append_assoc, List.pairwise_append]
  refine ⟨a, List.pairwise_cons.2 ⟨hd, b⟩, fun x hx y hy => ?_⟩
  have := h1 x hx
  rcases List.mem_cons.1 hy with rfl | hy
  · omega
  · have := hd y hy; omega
theorem take_snoc' {α : Type} {q : List α} {j : Nat} {r : α} (hr : q[j]? = some r) : q.take (j + 1) = q.take j ++ [r] := by
  rw [List.take_add_one, hr]; rfl
set_option maxRecDepth 8000 in
set_option maxHeartbeats 4000000 in
theorem put_r (h : Apt W w (l ++ [obE p c q])) (hm : q.length ≤ 1000000) (e : En) : Calls Try.prog 42 #[.slice p q.length c, .agg #[.int .i64 e.k, .int .i64 e.a, .int .i64 e.x, .int .i64 e.n]] w fun o w' => ∃ p' c' k, o = .returned (.slice p' (q.length + 1) c') ∧ Apt W w' (l ++ [obE p' c' (ins k e q)]) ∧ (∀ r ∈ q.take k, r.k < e.k) ∧ ∀ r, q[k]? = some r → e.k ≤ r.k := by
  have h0 : Hid (Apt W (w.alloc (.cells #[.int .i64 e.k, .int .i64 e.a, .int .i64 e.x, .int .i64 e.n] 30)) (l ++ [obE p c q, obBlk w.heap.size 30 #[.int .i64 e.k, .int .i64 e.a, .int .i64 e.x, .int .i64 e.n]])) := by
    have := en_block h #[.int .i64 e.k, .int .i64 e.a, .int .i64 e.x, .int .i64 e.n] 30
    rw [List.append_assoc] at this
    exact this
  obtain ⟨N, hN⟩ : ∃ N, Hid (N = q.length) := ⟨_, rfl⟩
  rw [← hN.out] at hm ⊢
  clear h
  go_enter Try.func42, Try.ntmps42
  go_wp2
  obtain ⟨b0, hb0⟩ : ∃ b0, Hid (w.heap.size = b0) := ⟨_, rfl⟩
  rw [hb0.out] at h0 ⊢
  generalize w.alloc (.cells #[.int .i64 e.k, .int .i64 e.a, .int .i64 e.x, .int .i64 e.n] 30) = W0 at h0 ⊢
  clear hb0
  go_loopw [5] (fun kv wr => ∃ k : Nat, k ≤ N ∧ kv = .int .i64 (k : Int) ∧ Hid (∀ r ∈ q.take k, r.k < e.k) ∧ Hid (Apt W wr (l ++ [obE p c q, obBlk b0 30 #[.int .i64 e.k, .int .i64 e.a, .int .i64 e.x, .int .i64 e.n]]))) (fun kv _ => N - (intOf kv).toNat)
  case atStart => exact ⟨0, Nat.zero_le _, rfl, fun r hr => (by simp at hr), h0⟩
  case round =>
    clear h0
    obtain ⟨k, hk, rfl, hlow, hx⟩ := hrel
    have hE : wr.heap[b0]? = some (.cells #[.int .i64 e.k, .int .i64 e.a, .int .i64 e.x, .int .i64 e.n] 30 (0, 0)) := hx.out.all (l.length + 1) _ (at_n _ _ 1)
    have k0 := cell_of (k := 0) hE rfl
    have lE := lt_of hE
    by_cases hkn : k < N
    · have hd3 : decide ((k : Int) < (N : Int)) = true := by rw [decide_eq_true_eq]; omega
      have hkI : (k : Int) < (N : Int) := by omega
      obtain ⟨r, hr0⟩ : ∃ r, q[k]? = some r := ⟨_, List.getElem?_eq_getElem (by rw [← hN.out]; exact hkn)⟩
      have hr : Hid (q[k]? = some r) := hr0
      have vE : Vec wr 30 4 p N c (enL q) := by
        have : Vec wr 30 4 p q.length c (enL q) := hx.out.all (l.length + 0) _ (at_n _ _ 0)
        rw [← hN.out] at this
        exact this
      obtain ⟨B, rfl, lB, hcA, hfz, hcn⟩ := vE.opens (by omega)
      have k1 := (en_cell vE hkn hr0).1
      have hcN : ¬ (c < k) := by omega
      clear hr0 hcA hfz hE
      by_cases hlt : r.k < e.k
      · have hd4 : decide (r.k < e.k) = true := decide_eq_true hlt
        change Hid (r.k < e.k) at hlt
        clear vE hcn
        go_wp2
        go_quiet (fail)
        go_wp2
        go_roundw
        case rel =>
          refine ⟨k + 1, by omega, by go_num, fun r' hr' => ?_, hx.out.drewN _⟩
          rw [take_snoc' hr.out] at hr'
          rcases List.mem_append.1 hr' with g | g
          · exact hlow.out r' g
          · rw [List.mem_singleton.1 g]; exact hlt.out
        case measure => simp [intOf]; omega
      · have hd4 : decide (r.k < e.k) = false := decide_eq_false hlt
        have hhigh : Hid (∀ r, q[k]? = some r → e.k ≤ r.k) := fun r' hr' => by
          rw [hr.out] at hr'
          cases hr'
          omega
        clear hlt
        clear vE
        go_wp2
        go_quiet (fail)
        go_wp2
        clear k0 k1 lE lB hd4 hr
        have hx : Hid (Apt W _ (l ++ [obE (some ⟨B, 0, none⟩) c q, obBlk b0 30 #[.int .i64 e.k, .int .i64 e.a, .int .i64 e.x, .int .i64 e.n]])) := hx.out.drewN nq
        generalize World.drewN _ _ = W0 at hx ⊢
        have h1 : Hid (Apt W W0.drew (l ++ [obE (some ⟨B, 0, none⟩) c q, obBlk b0 30 #[.int .i64 e.k, .int .i64 e.a, .int .i64 e.x, .int .i64 e.n]])) := hx.out.drew
        clear hx
        obtain ⟨ad, had, HAD⟩ : ∃ ad : Addr, ((if c = k then some ⟨B, 0, none⟩ else some ⟨B, k * 4, none⟩) : Option Addr) = some ad ∧ Hid (k < N → ad = ⟨B, k * 4, none⟩) := by
          by_cases g : c = k
          · exact ⟨_, if_pos g, fun x => by omega⟩
          · exact ⟨_, if_neg g, fun _ => rfl⟩
        refine region_flowG [(0, []), (4, []), (6, []), (7, []), (11, []), (12, [])] 12 [(23, .slice (some ⟨B, 0, none⟩) N c), (24, .int .i64 (k : Int)), (25, .slice (some ⟨B, 0, none⟩) k c), (27, .agg #[.int .i64 e.k, .int .i64 e.a, .int .i64 e.x, .int .i64 e.n]), (30, .slice (some ⟨B, 0, none⟩) N c), (31, .int .i64 (k : Int)), (32, .slice (some ad) (N - k) (c - k))] hmx (by kernel_rfl) (by decide) (by kernel_rfl) ?_
        simp only [fills, Act.put, List.setIfInBounds_toArray, List.set_cons_zero, List.set_cons_succ]
        generalize W0.drew = W1 at h1 ⊢
        have hE : W1.heap[b0]? = some (.cells #[.int .i64 e.k, .int .i64 e.a, .int .i64 e.x, .int .i64 e.n] 30 (0, 0)) := h1.out.all (l.length + 1) _ (at_n _ _ 1)
        have lE := lt_of hE
        refine flowG_either (0, []) (6, []) [(4, []), (6, []), (7, []), (11, []), (12, [])] [(0, []), (4, []), (7, []), (11, []), (12, [])] (by kernel_rfl) rfl rfl ?run (stepG_val _ (some 22) (.slice (some ⟨W1.heap.size, 0, none⟩) 0 0) (W1.alloc (.cells #[] 30)) [] rfl rfl (wanted_none rfl) (by go_simp) rfl ?_) (stepG_val _ (some 28) (.slice (some ⟨W1.heap.size, 0, none⟩) 1 1) (W1.alloc (.cells #[.int .i64 e.k, .int .i64 e.a, .int .i64 e.x, .int .i64 e.n] 30)) [] rfl rfl (wanted_none rfl) (by go_simp) rfl ?_)
        case run =>
          intro i o ho h1 h2
          iterate 13 (rcases i with _ | i; · first | (exact absurd h1 (by decide)) | (cases ho; exact Or.inl ⟨wanted_none rfl, exec_load_row 30 _ rfl b0 rfl 30 _ (0, 0) _ hE Try.underlying30 rfl sizeEn⟩) | (cases ho; exact Or.inl ⟨wanted_none rfl, by go_simp⟩))
          cases ho
        clear hE lE
        · simp only [fills, Act.put, List.setIfInBounds_toArray, List.set_cons_zero, List.set_cons_succ]
          have h2 : Hid (Apt W (W1.alloc (.cells #[] 30)) (l ++ [obE (some ⟨B, 0, none⟩) c q, obBlk b0 30 #[.int .i64 e.k, .int .i64 e.a, .int .i64 e.x, .int .i64 e.n], obE (some ⟨W1.heap.size, 0, none⟩) 0 []])) := mk_none h1.out
          generalize W1.heap.size = a0 at h2 ⊢
          generalize W1.alloc (.cells #[] 30) = W2 at h2 ⊢
          clear h1
          have hE : W2.heap[b0]? = some (.cells #[.int .i64 e.k, .int .i64 e.a, .int .i64 e.x, .int .i64 e.n] 30 (0, 0)) := h2.out.all (l.length + 1) _ (at_n _ _ 1)
          have lE := lt_of hE
          obtain ⟨p26, c26, W3, r26, h3⟩ := append_l 41 h2.out (j := 2) rfl (some ⟨B, 0, none⟩) c (q1 := []) (q2 := (q.take k)) (n1 := 0) (n2 := k) (n := k) rfl (by rw [List.length_take, ← hN.out]; omega) (Nat.zero_add _) (by omega) (fun _ => ⟨_, rfl, by have hv := (h2.out.all (l.length + 0) _ (at_n _ _ 0) : Vec W2 30 4 (some ⟨B, 0, none⟩) q.length c (enL q)); exact cells_take hv (by rw [← hN.out]; exact hk)⟩)
          have h3 : Hid (Apt W W3 (l ++ [obE (some ⟨B, 0, none⟩) c q, obBlk b0 30 #[.int .i64 e.k, .int .i64 e.a, .int .i64 e.x, .int .i64 e.n], obE p26 c26 ([] ++ (q.take k))])) := h3
          refine flowG_either (4, []) (6, []) [(6, []), (7, []), (11, []), (12, [])] [(4, []), (7, []), (11, []), (12, [])] (by kernel_rfl) rfl rfl ?run (stepG_val _ (some 26) (.slice p26 k c26) W3 [] rfl rfl (wanted_none rfl) (exec_append rfl rfl rfl r26) rfl ?_) (stepG_val _ (some 28) (.slice (some ⟨W2.heap.size, 0, none⟩) 1 1) (W2.alloc (.cells #[.int .i64 e.k, .int .i64 e.a, .int .i64 e.x, .int .i64 e.n] 30)) [] rfl rfl (wanted_none rfl) (by go_simp) rfl ?_)
          case run =>
            clear r26
            intro i o ho h1 h2
            iterate 13 (rcases i with _ | i; · first | (exact absurd h1 (by decide)) | (cases ho; exact Or.inl ⟨wanted_none rfl, exec_load_row 30 _ rfl b0 rfl 30 _ (0, 0) _ hE Try.underlying30 rfl sizeEn⟩) | (cases ho; exact Or.inl ⟨wanted_none rfl, by go_simp⟩))
            cases ho
          clear hE lE
          · simp only [fills, Act.put, List.setIfInBounds_toArray, List.set_cons_zero, List.set_cons_succ]
            clear r26 h2
            have hE : W3.heap[b0]? = some (.cells #[.int .i64 e.k, .int .i64 e.a, .int .i64 e.x, .int .i64 e.n] 30 (0, 0)) := h3.out.all (l.length + 1) _ (at_n _ _ 1)
            have lE := lt_of hE
            refine flowG_only (6, []) [(7, []), (11, []), (12, [])] (by kernel_rfl) rfl ?run (stepG_val _ (some 28) (.slice (some ⟨W3.heap.size, 0, none⟩) 1 1) (W3.alloc (.cells #[.int .i64 e.k, .int .i64 e.a, .int .i64 e.x, .int .i64 e.n] 30)) [] rfl rfl (wanted_none rfl) (by go_simp) rfl ?_)
            case run =>
              intro i o ho h1 h2
              iterate 13 (rcases i with _ | i; · first | (exact absurd h1 (by decide)) | (cases ho; exact Or.inl ⟨wanted_none rfl, exec_load_row 30 _ rfl b0 rfl 30 _ (0, 0) _ hE Try.underlying30 rfl sizeEn⟩) | (cases ho; exact Or.inl ⟨wanted_none rfl, by go_simp⟩))
              cases ho
            clear hE lE
            simp only [fills, Act.put, List.setIfInBounds_toArray, List.set_cons_zero, List.set_cons_succ]
            have h4 : Hid (Apt W (W3.alloc (.cells #[.int .i64 e.k, .int .i64 e.a, .int .i64 e.x, .int .i64 e.n] 30)) (l ++ [obE (some ⟨B, 0, none⟩) c q, obBlk b0 30 #[.int .i64 e.k, .int .i64 e.a, .int .i64 e.x, .int .i64 e.n], obE p26 c26 ([] ++ (q.take k)), obE (some ⟨W3.heap.size, 0, none⟩) 1 [e]])) := mk_one h3.out e
            generalize W3.heap.size = a1 at h4 ⊢
            generalize W3.alloc (.cells #[.int .i64 e.k, .int .i64 e.a, .int .i64 e.x, .int .i64 e.n] 30) = W4 at h4 ⊢
            clear h3
            have hE : W4.heap[b0]? = some (.cells #[.int .i64 e.k, .int .i64 e.a, .int .i64 e.x, .int .i64 e.n] 30 (0, 0)) := h4.out.all (l.length + 1) _ (at_n _ _ 1)
            have lE := lt_of hE
            obtain ⟨p29, c29, W7, r29, h7⟩ := append_l 41 h4.out (j := 2) rfl (some ⟨a1, 0, none⟩) 1 (q1 := [] ++ (q.take k)) (q2 := [e]) (n1 := k) (n2 := 1) (n := k + 1) (by rw [List.nil_append, List.length_take, ← hN.out]; omega) rfl rfl (by omega) (fun _ => ⟨_, rfl, by have hv : Vec W4 30 4 (some ⟨a1, 0, none⟩) 1 1 (enL [e]) := h4.out.all (l.length + 3) _ (at_n _ _ 3); exact cells_take (q := [e]) (k := 1) hv (Nat.le_refl _)⟩)
            have h7 : Hid (Apt W W7 (l ++ [obE (some ⟨B, 0, none⟩) c q, obBlk b0 30 #[.int .i64 e.k, .int .i64 e.a, .int .i64 e.x, .int .i64 e.n], obE p29 c29 ([] ++ (q.take k) ++ [e]), obE (some ⟨a1, 0, none⟩) 1 [e]])) := h7
            refine flowG_only (7, []) [(11, []), (12, [])] (by kernel_rfl) rfl ?run (stepG_val _ (some 29) (.slice p29 (k + 1) c29) W7 [] rfl rfl (wanted_none rfl) (exec_append rfl rfl rfl r29) rfl ?_)
            case run =>
              clear r29
              intro i o ho h1 h2
              iterate 13 (rcases i with _ | i; · first | (exact absurd h1 (by decide)) | (cases ho; exact Or.inl ⟨wanted_none rfl, exec_load_row 30 _ rfl b0 rfl 30 _ (0, 0) _ hE Try.underlying30 rfl sizeEn⟩) | (cases ho; exact Or.inl ⟨wanted_none rfl, by go_simp⟩))
              cases ho
            clear hE lE
            simp only [fills, Act.put, List.setIfInBounds_toArray, List.set_cons_zero, List.set_cons_succ]
            clear r29 h4
            have hE : W7.heap[b0]? = some (.cells #[.int .i64 e.k, .int .i64 e.a, .int .i64 e.x, .int .i64 e.n] 30 (0, 0)) := h7.out.all (l.length + 1) _ (at_n _ _ 1)
            have lE := lt_of hE
            obtain ⟨p33, c33, W8, r33, h8⟩ := append_l 41 h7.out (j := 2) rfl (some ad) (c - k) (q1 := [] ++ (q.take k) ++ [e]) (q2 := (q.drop k)) (n1 := k + 1) (n2 := (N - k)) (n := N + 1) (by rw [List.nil_append, List.length_append, List.length_take, ← hN.out, Nat.min_eq_left hk]; rfl) (by rw [List.length_drop, ← hN.out]) (by omega) (by omega) (fun x => ⟨_, rfl, by have hv := (h7.out.all (l.length + 0) _ (at_n _ _ 0) : Vec W7 30 4 (some ⟨B, 0, none⟩) q.length c (enL q)); rw [HAD.out (by omega)]; have := cells_drop hv (k := k) (by rw [← hN.out]; omega); rw [← hN.out] at this; exact this⟩)
            have h8 : Hid (Apt W W8 (l ++ [obE (some ⟨B, 0, none⟩) c q, obBlk b0 30 #[.int .i64 e.k, .int .i64 e.a, .int .i64 e.x, .int .i64 e.n], obE p33 c33 ([] ++ (q.take k) ++ [e] ++ (q.drop k)), obE (some ⟨a1, 0, none⟩) 1 [e]])) := h8
            refine flowG_only (11, []) [(12, [])] (by kernel_rfl) rfl ?run (stepG_val _ (some 33) (.slice p33 (N + 1) c33) W8 [] rfl rfl (wanted_none rfl) (exec_append rfl rfl rfl r33) rfl ?_)
            case run =>
              clear r33
              intro i o ho h1 h2
              iterate 13 (rcases i with _ | i; · first | (exact absurd h1 (by decide)) | (cases ho; exact Or.inl ⟨wanted_none rfl, exec_load_row 30 _ rfl b0 rfl 30 _ (0, 0) _ hE Try.underlying30 rfl sizeEn⟩) | (cases ho; exact Or.inl ⟨wanted_none rfl, by go_simp⟩))
              cases ho
            clear hE lE
            simp only [fills, Act.put, List.setIfInBounds_toArray, List.set_cons_zero, List.set_cons_succ]
            clear r33 h7
            have hE : W8.heap[b0]? = some (.cells #[.int .i64 e.k, .int .i64 e.a, .int .i64 e.x, .int .i64 e.n] 30 (0, 0)) := h8.out.all (l.length + 1) _ (at_n _ _ 1)
            have lE := lt_of hE
            refine flowG_only (12, []) [] (by kernel_rfl) rfl ?run (stepG_val _ (some 4) (.slice p33 (N + 1) c33) W8 [] rfl rfl (wanted_none rfl) (by go_simp) rfl ?_)
            case run =>
              intro i o ho h1 h2
              iterate 13 (rcases i with _ | i; · first | (exact absurd h1 (by decide)) | (cases ho; exact Or.inl ⟨wanted_none rfl, exec_load_row 30 _ rfl b0 rfl 30 _ (0, 0) _ hE Try.underlying30 rfl sizeEn⟩) | (cases ho; exact Or.inl ⟨wanted_none rfl, by go_simp⟩))
              cases ho
            clear hE lE
            simp only [fills, Act.put, List.setIfInBounds_toArray, List.set_cons_zero, List.set_cons_succ]
            refine flowG_done ?_
            show Exit.then _ _ Exit.normal _ _
            go_wp2
            go_ret
            exact ⟨p33, c33, k, rfl, h8.out.pick (j := 2) rfl, hlow.out, hhigh.out⟩
          · clear r26 h3
            simp only [fills, Act.put, List.setIfInBounds_toArray, List.set_cons_zero, List.set_cons_succ]
            have h3b : Hid (Apt W (W2.alloc (.cells #[.int .i64 e.k, .int .i64 e.a, .int .i64 e.x, .int .i64 e.n] 30)) (l ++ [obE (some ⟨B, 0, none⟩) c q, obBlk b0 30 #[.int .i64 e.k, .int .i64 e.a, .int .i64 e.x, .int .i64 e.n], obE (some ⟨a0, 0, none⟩) 0 [], obE (some ⟨W2.heap.size, 0, none⟩) 1 [e]])) := mk_one h2.out e
            generalize W2.heap.size = a1 at h3b ⊢
            generalize W2.alloc (.cells #[.int .i64 e.k, .int .i64 e.a, .int .i64 e.x, .int .i64 e.n] 30) = W3b at h3b ⊢
            clear h2
            have hE : W3b.heap[b0]? = some (.cells #[.int .i64 e.k, .int .i64 e.a, .int .i64 e.x, .int .i64 e.n] 30 (0, 0)) := h3b.out.all (l.length + 1) _ (at_n _ _ 1)
            have lE := lt_of hE
            obtain ⟨p26, c26, W4, r26, h4⟩ := append_l 41 h3b.out (j := 2) rfl (some ⟨B, 0, none⟩) c (q1 := []) (q2 := (q.take k)) (n1 := 0) (n2 := k) (n := k) rfl (by rw [List.length_take, ← hN.out]; omega) (Nat.zero_add _) (by omega) (fun _ => ⟨_, rfl, by have hv := (h3b.out.all (l.length + 0) _ (at_n _ _ 0) : Vec W3b 30 4 (some ⟨B, 0, none⟩) q.length c (enL q)); exact cells_take hv (by rw [← hN.out]; exact hk)⟩)
            have h4 : Hid (Apt W W4 (l ++ [obE (some ⟨B, 0, none⟩) c q, obBlk b0 30 #[.int .i64 e.k, .int .i64 e.a, .int .i64 e.x, .int .i64 e.n], obE p26 c26 ([] ++ (q.take k)), obE (some ⟨a1, 0, none⟩) 1 [e]])) := h4
            refine flowG_only (4, []) [(7, []), (11, []), (12, [])] (by kernel_rfl) rfl ?run (stepG_val _ (some 26) (.slice p26 k c26) W4 [] rfl rfl (wanted_none rfl) (exec_append rfl rfl rfl r26) rfl ?_)
            case run =>
              clear r26
              intro i o ho h1 h2
              iterate 13 (rcases i with _ | i; · first | (exact absurd h1 (by decide)) | (cases ho; exact Or.inl ⟨wanted_none rfl, exec_load_row 30 _ rfl b0 rfl 30 _ (0, 0) _ hE Try.underlying30 rfl sizeEn⟩) | (cases ho; exact Or.inl ⟨wanted_none rfl, by go_simp⟩))
              cases ho
            clear hE lE
            simp only [fills, Act.put, List.setIfInBounds_toArray, List.set_cons_zero, List.set_cons_succ]
            clear r26 h3b
            have hE : W4.heap[b0]? = some (.cells #[.int .i64 e.k, .int .i64 e.a, .int .i64 e.x, .int .i64 e.n] 30 (0, 0)) := h4.out.all (l.length + 1) _ (at_n _ _ 1)
            have lE := lt_of hE
            obtain ⟨p29, c29, W7, r29, h7⟩ := append_l 41 h4.out (j := 2) rfl (some ⟨a1, 0, none⟩) 1 (q1 := [] ++ (q.take k)) (q2 := [e]) (n1 := k) (n2 := 1) (n := k + 1) (by rw [List.nil_append, List.length_take, ← hN.out]; omega) rfl rfl (by omega) (fun _ => ⟨_, rfl, by have hv : Vec W4 30 4 (some ⟨a1, 0, none⟩) 1 1 (enL [e]) := h4.out.all (l.length + 3) _ (at_n _ _ 3); exact cells_take (q := [e]) (k := 1) hv (Nat.le_refl _)⟩)
            have h7 : Hid (Apt W W7 (l ++ [obE (some ⟨B, 0, none⟩) c q, obBlk b0 30 #[.int .i64 e.k, .int .i64 e.a, .int .i64 e.x, .int .i64 e.n], obE p29 c29 ([] ++ (q.take k) ++ [e]), obE (some ⟨a1, 0, none⟩) 1 [e]])) := h7
            refine flowG_only (7, []) [(11, []), (12, [])] (by kernel_rfl) rfl ?run (stepG_val _ (some 29) (.slice p29 (k + 1) c29) W7 [] rfl rfl (wanted_none rfl) (exec_append rfl rfl rfl r29) rfl ?_)
            case run =>
              clear r29
              intro i o ho h1 h2
              iterate 13 (rcases i with _ | i; · first | (exact absurd h1 (by decide)) | (cases ho; exact Or.inl ⟨wanted_none rfl, exec_load_row 30 _ rfl b0 rfl 30 _ (0, 0) _ hE Try.underlying30 rfl sizeEn⟩) | (cases ho; exact Or.inl ⟨wanted_none rfl, by go_simp⟩))
              cases ho
            clear hE lE
            simp only [fills, Act.put, List.setIfInBounds_toArray, List.set_cons_zero, List.set_cons_succ]
            clear r29 h4
            have hE : W7.heap[b0]? = some (.cells #[.int .i64 e.k, .int .i64 e.a, .int .i64 e.x, .int .i64 e.n] 30 (0, 0)) := h7.out.all (l.length + 1) _ (at_n _ _ 1)
            have lE := lt_of hE
            obtain ⟨p33, c33, W8, r33, h8⟩ := append_l 41 h7.out (j := 2) rfl (some ad) (c - k) (q1 := [] ++ (q.take k) ++ [e]) (q2 := (q.drop k)) (n1 := k + 1) (n2 := (N - k)) (n := N + 1) (by rw [List.nil_append, List.length_append, List.length_take, ← hN.out, Nat.min_eq_left hk]; rfl) (by rw [List.length_drop, ← hN.out]) (by omega) (by omega) (fun x => ⟨_, rfl, by have hv := (h7.out.all (l.length + 0) _ (at_n _ _ 0) : Vec W7 30 4 (some ⟨B, 0, none⟩) q.length c (enL q)); rw [HAD.out (by omega)]; have := cells_drop hv (k := k) (by rw [← hN.out]; omega); rw [← hN.out] at this; exact this⟩)
            have h8 : Hid (Apt W W8 (l ++ [obE (some ⟨B, 0, none⟩) c q, obBlk b0 30 #[.int .i64 e.k, .int .i64 e.a, .int .i64 e.x, .int .i64 e.n], obE p33 c33 ([] ++ (q.take k) ++ [e] ++ (q.drop k)), obE (some ⟨a1, 0, none⟩) 1 [e]])) := h8
            refine flowG_only (11, []) [(12, [])] (by kernel_rfl) rfl ?run (stepG_val _ (some 33) (.slice p33 (N + 1) c33) W8 [] rfl rfl (wanted_none rfl) (exec_append rfl rfl rfl r33) rfl ?_)
            case run =>
              clear r33
              intro i o ho h1 h2
              iterate 13 (rcases i with _ | i; · first | (exact absurd h1 (by decide)) | (cases ho; exact Or.inl ⟨wanted_none rfl, exec_load_row 30 _ rfl b0 rfl 30 _ (0, 0) _ hE Try.underlying30 rfl sizeEn⟩) | (cases ho; exact Or.inl ⟨wanted_none rfl, by go_simp⟩))
              cases ho
            clear hE lE
            simp only [fills, Act.put, List.setIfInBounds_toArray, List.set_cons_zero, List.set_cons_succ]
            clear r33 h7
            have hE : W8.heap[b0]? = some (.cells #[.int .i64 e.k, .int .i64 e.a, .int .i64 e.x, .int .i64 e.n] 30 (0, 0)) := h8.out.all (l.length + 1) _ (at_n _ _ 1)
            have lE := lt_of hE
            refine flowG_only (12, []) [] (by kernel_rfl) rfl ?run (stepG_val _ (some 4) (.slice p33 (N + 1) c33) W8 [] rfl rfl (wanted_none rfl) (by go_simp) rfl ?_)
            case run =>
              intro i o ho h1 h2
              iterate 13 (rcases i with _ | i; · first | (exact absurd h1 (by decide)) | (cases ho; exact Or.inl ⟨wanted_none rfl, exec_load_row 30 _ rfl b0 rfl 30 _ (0, 0) _ hE Try.underlying30 rfl sizeEn⟩) | (cases ho; exact Or.inl ⟨wanted_none rfl, by go_simp⟩))
              cases ho
            clear hE lE
            simp only [fills, Act.put, List.setIfInBounds_toArray, List.set_cons_zero, List.set_cons_succ]
            refine flowG_done ?_
            show Exit.then _ _ Exit.normal _ _
            go_wp2
            go_ret
            exact ⟨p33, c33, k, rfl, h8.out.pick (j := 2) rfl, hlow.out, hhigh.out⟩
        · simp only [fills, Act.put, List.setIfInBounds_toArray, List.set_cons_zero, List.set_cons_succ]
          have h2 : Hid (Apt W (W1.alloc (.cells #[.int .i64 e.k, .int .i64 e.a, .int .i64 e.x, .int .i64 e.n] 30)) (l ++ [obE (some ⟨B, 0, none⟩) c q, obBlk b0 30 #[.int .i64 e.k, .int .i64 e.a, .int .i64 e.x, .int .i64 e.n], obE (some ⟨W1.heap.size, 0, none⟩) 1 [e]])) := mk_one h1.out e
          generalize W1.heap.size = a1 at h2 ⊢
          generalize W1.alloc (.cells #[.int .i64 e.k, .int .i64 e.a, .int .i64 e.x, .int .i64 e.n] 30) = W2 at h2 ⊢
          clear h1
          have hE : W2.heap[b0]? = some (.cells #[.int .i64 e.k, .int .i64 e.a, .int .i64 e.x, .int .i64 e.n] 30 (0, 0)) := h2.out.all (l.length + 1) _ (at_n _ _ 1)
          have lE := lt_of hE
          refine flowG_only (0, []) [(4, []), (7, []), (11, []), (12, [])] (by kernel_rfl) rfl ?run (stepG_val _ (some 22) (.slice (some ⟨W2.heap.size, 0, none⟩) 0 0) (W2.alloc (.cells #[] 30)) [] rfl rfl (wanted_none rfl) (by go_simp) rfl ?_)
          case run =>
            intro i o ho h1 h2
            iterate 13 (rcases i with _ | i; · first | (exact absurd h1 (by decide)) | (cases ho; exact Or.inl ⟨wanted_none rfl, exec_load_row 30 _ rfl b0 rfl 30 _ (0, 0) _ hE Try.underlying30 rfl sizeEn⟩) | (cases ho; exact Or.inl ⟨wanted_none rfl, by go_simp⟩))
            cases ho
          clear hE lE
          simp only [fills, Act.put, List.setIfInBounds_toArray, List.set_cons_zero, List.set_cons_succ]
          have h3 : Hid (Apt W (W2.alloc (.cells #[] 30)) (l ++ [obE (some ⟨B, 0, none⟩) c q, obBlk b0 30 #[.int .i64 e.k, .int .i64 e.a, .int .i64 e.x, .int .i64 e.n], obE (some ⟨a1, 0, none⟩) 1 [e], obE (some ⟨W2.heap.size, 0, none⟩) 0 []])) := mk_none h2.out
          generalize W2.heap.size = a0 at h3 ⊢
          generalize W2.alloc (.cells #[] 30) = W3 at h3 ⊢
          clear h2
          have hE : W3.heap[b0]? = some (.cells #[.int .i64 e.k, .int .i64 e.a, .int .i64 e.x, .int .i64 e.n] 30 (0, 0)) := h3.out.all (l.length + 1) _ (at_n _ _ 1)
          have lE := lt_of hE
          obtain ⟨p26, c26, W4, r26, h4⟩ := append_l 41 h3.out (j := 3) rfl (some ⟨B, 0, none⟩) c (q1 := []) (q2 := (q.take k)) (n1 := 0) (n2 := k) (n := k) rfl (by rw [List.length_take, ← hN.out]; omega) (Nat.zero_add _) (by omega) (fun _ => ⟨_, rfl, by have hv := (h3.out.all (l.length + 0) _ (at_n _ _ 0) : Vec W3 30 4 (some ⟨B, 0, none⟩) q.length c (enL q)); exact cells_take hv (by rw [← hN.out]; exact hk)⟩)
          have h4 : Hid (Apt W W4 (l ++ [obE (some ⟨B, 0, none⟩) c q, obBlk b0 30 #[.int .i64 e.k, .int .i64 e.a, .int .i64 e.x, .int .i64 e.n], obE (some ⟨a1, 0, none⟩) 1 [e], obE p26 c26 ([] ++ (q.take k))])) := h4
          refine flowG_only (4, []) [(7, []), (11, []), (12, [])] (by kernel_rfl) rfl ?run (stepG_val _ (some 26) (.slice p26 k c26) W4 [] rfl rfl (wanted_none rfl) (exec_append rfl rfl rfl r26) rfl ?_)
          case run =>
            clear r26
            intro i o ho h1 h2
            iterate 13 (rcases i with _ | i; · first | (exact absurd h1 (by decide)) | (cases ho; exact Or.inl ⟨wanted_none rfl, exec_load_row 30 _ rfl b0 rfl 30 _ (0, 0) _ hE Try.underlying30 rfl sizeEn⟩) | (cases ho; exact Or.inl ⟨wanted_none rfl, by go_simp⟩))
            cases ho
          clear hE lE
          simp only [fills, Act.put, List.setIfInBounds_toArray, List.set_cons_zero, List.set_cons_succ]
          clear r26 h3
          have hE : W4.heap[b0]? = some (.cells #[.int .i64 e.k, .int .i64 e.a, .int .i64 e.x, .int .i64 e.n] 30 (0, 0)) := h4.out.all (l.length + 1) _ (at_n _ _ 1)
          have lE := lt_of hE
          obtain ⟨p29, c29, W7, r29, h7⟩ := append_l 41 h4.out (j := 3) rfl (some ⟨a1, 0, none⟩) 1 (q1 := [] ++ (q.take k)) (q2 := [e]) (n1 := k) (n2 := 1) (n := k + 1) (by rw [List.nil_append, List.length_take, ← hN.out]; omega) rfl rfl (by omega) (fun _ => ⟨_, rfl, by have hv : Vec W4 30 4 (some ⟨a1, 0, none⟩) 1 1 (enL [e]) := h4.out.all (l.length + 2) _ (at_n _ _ 2); exact cells_take (q := [e]) (k := 1) hv (Nat.le_refl _)⟩)
          have h7 : Hid (Apt W W7 (l ++ [obE (some ⟨B, 0, none⟩) c q, obBlk b0 30 #[.int .i64 e.k, .int .i64 e.a, .int .i64 e.x, .int .i64 e.n], obE (some ⟨a1, 0, none⟩) 1 [e], obE p29 c29 ([] ++ (q.take k) ++ [e])])) := h7
          refine flowG_only (7, []) [(11, []), (12, [])] (by kernel_rfl) rfl ?run (stepG_val _ (some 29) (.slice p29 (k + 1) c29) W7 [] rfl rfl (wanted_none rfl) (exec_append rfl rfl rfl r29) rfl ?_)
          case run =>
            clear r29
            intro i o ho h1 h2
            iterate 13 (rcases i with _ | i; · first | (exact absurd h1 (by decide)) | (cases ho; exact Or.inl ⟨wanted_none rfl, exec_load_row 30 _ rfl b0 rfl 30 _ (0, 0) _ hE Try.underlying30 rfl sizeEn⟩) | (cases ho; exact Or.inl ⟨wanted_none rfl, by go_simp⟩))
            cases ho
          clear hE lE
          simp only [fills, Act.put, List.setIfInBounds_toArray, List.set_cons_zero, List.set_cons_succ]
          clear r29 h4
          have hE : W7.heap[b0]? = some (.cells #[.int .i64 e.k, .int .i64 e.a, .int .i64 e.x, .int .i64 e.n] 30 (0, 0)) := h7.out.all (l.length + 1) _ (at_n _ _ 1)
          have lE := lt_of hE
          obtain ⟨p33, c33, W8, r33, h8⟩ := append_l 41 h7.out (j := 3) rfl (some ad) (c - k) (q1 := [] ++ (q.take k) ++ [e]) (q2 := (q.drop k)) (n1 := k + 1) (n2 := (N - k)) (n := N + 1) (by rw [List.nil_append, List.length_append, List.length_take, ← hN.out, Nat.min_eq_left hk]; rfl) (by rw [List.length_drop, ← hN.out]) (by omega) (by omega) (fun x => ⟨_, rfl, by have hv := (h7.out.all (l.length + 0) _ (at_n _ _ 0) : Vec W7 30 4 (some ⟨B, 0, none⟩) q.length c (enL q)); rw [HAD.out (by omega)]; have := cells_drop hv (k := k) (by rw [← hN.out]; omega); rw [← hN.out] at this; exact this⟩)
          have h8 : Hid (Apt W W8 (l ++ [obE (some ⟨B, 0, none⟩) c q, obBlk b0 30 #[.int .i64 e.k, .int .i64 e.a, .int .i64 e.x, .int .i64 e.n], obE (some ⟨a1, 0, none⟩) 1 [e], obE p33 c33 ([] ++ (q.take k) ++ [e] ++ (q.drop k))])) := h8
          refine flowG_only (11, []) [(12, [])] (by kernel_rfl) rfl ?run (stepG_val _ (some 33) (.slice p33 (N + 1) c33) W8 [] rfl rfl (wanted_none rfl) (exec_append rfl rfl rfl r33) rfl ?_)
          case run =>
            clear r33
            intro i o ho h1 h2
            iterate 13 (rcases i with _ | i; · first | (exact absurd h1 (by decide)) | (cases ho; exact Or.inl ⟨wanted_none rfl, exec_load_row 30 _ rfl b0 rfl 30 _ (0, 0) _ hE Try.underlying30 rfl sizeEn⟩) | (cases ho; exact Or.inl ⟨wanted_none rfl, by go_simp⟩))
            cases ho
          clear hE lE
          simp only [fills, Act.put, List.setIfInBounds_toArray, List.set_cons_zero, List.set_cons_succ]
          clear r33 h7
          have hE : W8.heap[b0]? = some (.cells #[.int .i64 e.k, .int .i64 e.a, .int .i64 e.x, .int .i64 e.n] 30 (0, 0)) := h8.out.all (l.length + 1) _ (at_n _ _ 1)
          have lE := lt_of hE
          refine flowG_only (12, []) [] (by kernel_rfl) rfl ?run (stepG_val _ (some 4) (.slice p33 (N + 1) c33) W8 [] rfl rfl (wanted_none rfl) (by go_simp) rfl ?_)
          case run =>
            intro i o ho h1 h2
            iterate 13 (rcases i with _ | i; · first | (exact absurd h1 (by decide)) | (cases ho; exact Or.inl ⟨wanted_none rfl, exec_load_row 30 _ rfl b0 rfl 30 _ (0, 0) _ hE Try.underlying30 rfl sizeEn⟩) | (cases ho; exact Or.inl ⟨wanted_none rfl, by go_simp⟩))
            cases ho
          clear hE lE
          simp only [fills, Act.put, List.setIfInBounds_toArray, List.set_cons_zero, List.set_cons_succ]
          refine flowG_done ?_
          show Exit.then _ _ Exit.normal _ _
          go_wp2
          go_ret
          exact ⟨p33, c33, k, rfl, h8.out.pick (j := 3) rfl, hlow.out, hhigh.out⟩
    · obtain rfl : k = N := by omega
      have hd3 : decide ((k : Int) < (k : Int)) = false := by rw [decide_eq_false_iff_not]; omega
      have hhigh : Hid (∀ r, q[k]? = some r → e.k ≤ r.k) := fun r' hr' => by
        rw [List.getElem?_eq_none (by rw [← hN.out]; exact Nat.le_refl _)] at hr'
        cases hr'
      have vE : Vec wr 30 4 p k c (enL q) := by
        have : Vec wr 30 4 p q.length c (enL q) := hx.out.all (l.length + 0) _ (at_n _ _ 0)
        rw [← hN.out] at this
        exact this
      clear hE
      rcases vE with ⟨rfl, rfl, rfl⟩ | ⟨B, cur, rfl, hcur, hcn, _, _, _⟩
      · have hq0 : q = [] := List.eq_nil_of_length_eq_zero hN.out.symm
        subst hq0
        go_wp2
        go_quiet (fail)
        go_wp2
        clear k0 lE
        have hx : Hid (Apt W _ (l ++ [obE none 0 [], obBlk b0 30 #[.int .i64 e.k, .int .i64 e.a, .int .i64 e.x, .int .i64 e.n]])) := hx.out.drewN nq
        generalize World.drewN _ _ = W0 at hx ⊢
        have h1 : Hid (Apt W W0.drew (l ++ [obE none 0 [], obBlk b0 30 #[.int .i64 e.k, .int .i64 e.a, .int .i64 e.x, .int .i64 e.n]])) := hx.out.drew
        clear hx
        refine region_flowG [(0, []), (4, []), (6, []), (7, []), (11, []), (12, [])] 12 [(23, .slice none 0 0), (24, .int .i64 0), (25, .slice none 0 0), (27, .agg #[.int .i64 e.k, .int .i64 e.a, .int .i64 e.x, .int .i64 e.n]), (30, .slice none 0 0), (31, .int .i64 0), (32, .slice none 0 0)] hmx (by kernel_rfl) (by decide) (by kernel_rfl) ?_
        simp only [fills, Act.put, List.setIfInBounds_toArray, List.set_cons_zero, List.set_cons_succ]
        generalize W0.drew = W1 at h1 ⊢
        have hE : W1.heap[b0]? = some (.cells #[.int .i64 e.k, .int .i64 e.a, .int .i64 e.x, .int .i64 e.n] 30 (0, 0)) := h1.out.all (l.length + 1) _ (at_n _ _ 1)
        have lE := lt_of hE
        refine flowG_either (0, []) (6, []) [(4, []), (6, []), (7, []), (11, []), (12, [])] [(0, []), (4, []), (7, []), (11, []), (12, [])] (by kernel_rfl) rfl rfl ?run (stepG_val _ (some 22) (.slice (some ⟨W1.heap.size, 0, none⟩) 0 0) (W1.alloc (.cells #[] 30)) [] rfl rfl (wanted_none rfl) (by go_simp) rfl ?_) (stepG_val _ (some 28) (.slice (some ⟨W1.heap.size, 0, none⟩) 1 1) (W1.alloc (.cells #[.int .i64 e.k, .int .i64 e.a, .int .i64 e.x, .int .i64 e.n] 30)) [] rfl rfl (wanted_none rfl) (by go_simp) rfl ?_)
        case run =>
          intro i o ho h1 h2
          iterate 13 (rcases i with _ | i; · first | (exact absurd h1 (by decide)) | (cases ho; exact Or.inl ⟨wanted_none rfl, exec_load_row 30 _ rfl b0 rfl 30 _ (0, 0) _ hE Try.underlying30 rfl sizeEn⟩) | (cases ho; exact Or.inl ⟨wanted_none rfl, by go_simp⟩))
          cases ho
        clear hE lE
        · simp only [fills, Act.put, List.setIfInBounds_toArray, List.set_cons_zero, List.set_cons_succ]
          have h2 : Hid (Apt W (W1.alloc (.cells #[] 30)) (l ++ [obE none 0 ([] : List En), obBlk b0 30 #[.int .i64 e.k, .int .i64 e.a, .int .i64 e.x, .int .i64 e.n], obE (some ⟨W1.heap.size, 0, none⟩) 0 []])) := mk_none h1.out
          generalize W1.heap.size = a0 at h2 ⊢
          generalize W1.alloc (.cells #[] 30) = W2 at h2 ⊢
          clear h1
          have hE : W2.heap[b0]? = some (.cells #[.int .i64 e.k, .int .i64 e.a, .int .i64 e.x, .int .i64 e.n] 30 (0, 0)) := h2.out.all (l.length + 1) _ (at_n _ _ 1)
          have lE := lt_of hE
          obtain ⟨p26, c26, W3, r26, h3⟩ := append_l 41 h2.out (j := 2) rfl none 0 (q1 := []) (q2 := ([] : List En)) (n1 := 0) (n2 := 0) (n := 0) rfl (rfl) (Nat.zero_add _) (by omega) (fun x => absurd x (Nat.lt_irrefl 0))
          have h3 : Hid (Apt W W3 (l ++ [obE none 0 ([] : List En), obBlk b0 30 #[.int .i64 e.k, .int .i64 e.a, .int .i64 e.x, .int .i64 e.n], obE p26 c26 ([] ++ ([] : List En))])) := h3
          refine flowG_either (4, []) (6, []) [(6, []), (7, []), (11, []), (12, [])] [(4, []), (7, []), (11, []), (12, [])] (by kernel_rfl) rfl rfl ?run (stepG_val _ (some 26) (.slice p26 0 c26) W3 [] rfl rfl (wanted_none rfl) (exec_append rfl rfl rfl r26) rfl ?_) (stepG_val _ (some 28) (.slice (some ⟨W2.heap.size, 0, none⟩) 1 1) (W2.alloc (.cells #[.int .i64 e.k, .int .i64 e.a, .int .i64 e.x, .int .i64 e.n] 30)) [] rfl rfl (wanted_none rfl) (by go_simp) rfl ?_)
          case run =>
            clear r26
            intro i o ho h1 h2
            iterate 13 (rcases i with _ | i; · first | (exact absurd h1 (by decide)) | (cases ho; exact Or.inl ⟨wanted_none rfl, exec_load_row 30 _ rfl b0 rfl 30 _ (0, 0) _ hE Try.underlying30 rfl sizeEn⟩) | (cases ho; exact Or.inl ⟨wanted_none rfl, by go_simp⟩))
            cases ho
          clear hE lE
          · simp only [fills, Act.put, List.setIfInBounds_toArray, List.set_cons_zero, List.set_cons_succ]
            clear r26 h2
            have hE : W3.heap[b0]? = some (.cells #[.int .i64 e.k, .int .i64 e.a, .int .i64 e.x, .int .i64 e.n] 30 (0, 0)) := h3.out.all (l.length + 1) _ (at_n _ _ 1)
            have lE := lt_of hE
            refine flowG_only (6, []) [(7, []), (11, []), (12, [])] (by kernel_rfl) rfl ?run (stepG_val _ (some 28) (.slice (some ⟨W3.heap.size, 0, none⟩) 1 1) (W3.alloc (.cells #[.int .i64 e.k, .int .i64 e.a, .int .i64 e.x, .int .i64 e.n] 30)) [] rfl rfl (wanted_none rfl) (by go_simp) rfl ?_)
            case run =>
              intro i o ho h1 h2
              iterate 13 (rcases i with _ | i; · first | (exact absurd h1 (by decide)) | (cases ho; exact Or.inl ⟨wanted_none rfl, exec_load_row 30 _ rfl b0 rfl 30 _ (0, 0) _ hE Try.underlying30 rfl sizeEn⟩) | (cases ho; exact Or.inl ⟨wanted_none rfl, by go_simp⟩))
              cases ho
            clear hE lE
            simp only [fills, Act.put, List.setIfInBounds_toArray, List.set_cons_zero, List.set_cons_succ]
            have h4 : Hid (Apt W (W3.alloc (.cells #[.int .i64 e.k, .int .i64 e.a, .int .i64 e.x, .int .i64 e.n] 30)) (l ++ [obE none 0 ([] : List En), obBlk b0 30 #[.int .i64 e.k, .int .i64 e.a, .int .i64 e.x, .int .i64 e.n], obE p26 c26 ([] ++ ([] : List En)), obE (some ⟨W3.heap.size, 0, none⟩) 1 [e]])) := mk_one h3.out e
            generalize W3.heap.size = a1 at h4 ⊢
            generalize W3.alloc (.cells #[.int .i64 e.k, .int .i64 e.a, .int .i64 e.x, .int .i64 e.n] 30) = W4 at h4 ⊢
            clear h3
            have hE : W4.heap[b0]? = some (.cells #[.int .i64 e.k, .int .i64 e.a, .int .i64 e.x, .int .i64 e.n] 30 (0, 0)) := h4.out.all (l.length + 1) _ (at_n _ _ 1)
            have lE := lt_of hE
            obtain ⟨p29, c29, W7, r29, h7⟩ := append_l 41 h4.out (j := 2) rfl (some ⟨a1, 0, none⟩) 1 (q1 := [] ++ ([] : List En)) (q2 := [e]) (n1 := 0) (n2 := 1) (n := 0 + 1) (rfl) rfl rfl (by omega) (fun _ => ⟨_, rfl, by have hv : Vec W4 30 4 (some ⟨a1, 0, none⟩) 1 1 (enL [e]) := h4.out.all (l.length + 3) _ (at_n _ _ 3); exact cells_take (q := [e]) (k := 1) hv (Nat.le_refl _)⟩)
            have h7 : Hid (Apt W W7 (l ++ [obE none 0 ([] : List En), obBlk b0 30 #[.int .i64 e.k, .int .i64 e.a, .int .i64 e.x, .int .i64 e.n], obE p29 c29 ([] ++ ([] : List En) ++ [e]), obE (some ⟨a1, 0, none⟩) 1 [e]])) := h7
            refine flowG_only (7, []) [(11, []), (12, [])] (by kernel_rfl) rfl ?run (stepG_val _ (some 29) (.slice p29 (0 + 1) c29) W7 [] rfl rfl (wanted_none rfl) (exec_append rfl rfl rfl r29) rfl ?_)
            case run =>
              clear r29
              intro i o ho h1 h2
              iterate 13 (rcases i with _ | i; · first | (exact absurd h1 (by decide)) | (cases ho; exact Or.inl ⟨wanted_none rfl, exec_load_row 30 _ rfl b0 rfl 30 _ (0, 0) _ hE Try.underlying30 rfl sizeEn⟩) | (cases ho; exact Or.inl ⟨wanted_none rfl, by go_simp⟩))
              cases ho
            clear hE lE
            simp only [fills, Act.put, List.setIfInBounds_toArray, List.set_cons_zero, List.set_cons_succ]
            clear r29 h4
            have hE : W7.heap[b0]? = some (.cells #[.int .i64 e.k, .int .i64 e.a, .int .i64 e.x, .int .i64 e.n] 30 (0, 0)) := h7.out.all (l.length + 1) _ (at_n _ _ 1)
            have lE := lt_of hE
            obtain ⟨p33, c33, W8, r33, h8⟩ := append_l 41 h7.out (j := 2) rfl none 0 (q1 := [] ++ ([] : List En) ++ [e]) (q2 := ([] : List En)) (n1 := 0 + 1) (n2 := 0) (n := 1) (rfl) (rfl) (by omega) (by omega) (fun x => absurd x (Nat.lt_irrefl 0))
            have h8 : Hid (Apt W W8 (l ++ [obE none 0 ([] : List En), obBlk b0 30 #[.int .i64 e.k, .int .i64 e.a, .int .i64 e.x, .int .i64 e.n], obE p33 c33 ([] ++ ([] : List En) ++ [e] ++ ([] : List En)), obE (some ⟨a1, 0, none⟩) 1 [e]])) := h8
            refine flowG_only (11, []) [(12, [])] (by kernel_rfl) rfl ?run (stepG_val _ (some 33) (.slice p33 (1) c33) W8 [] rfl rfl (wanted_none rfl) (exec_append rfl rfl rfl r33) rfl ?_)
            case run =>
              clear r33
              intro i o ho h1 h2
              iterate 13 (rcases i with _ | i; · first | (exact absurd h1 (by decide)) | (cases ho; exact Or.inl ⟨wanted_none rfl, exec_load_row 30 _ rfl b0 rfl 30 _ (0, 0) _ hE Try.underlying30 rfl sizeEn⟩) | (cases ho; exact Or.inl ⟨wanted_none rfl, by go_simp⟩))
              cases ho
            clear hE lE
            simp only [fills, Act.put, List.setIfInBounds_toArray, List.set_cons_zero, List.set_cons_succ]
            clear r33 h7
            have hE : W8.heap[b0]? = some (.cells #[.int .i64 e.k, .int .i64 e.a, .int .i64 e.x, .int .i64 e.n] 30 (0, 0)) := h8.out.all (l.length + 1) _ (at_n _ _ 1)
            have lE := lt_of hE
            refine flowG_only (12, []) [] (by kernel_rfl) rfl ?run (stepG_val _ (some 4) (.slice p33 (1) c33) W8 [] rfl rfl (wanted_none rfl) (by go_simp) rfl ?_)
            case run =>
              intro i o ho h1 h2
              iterate 13 (rcases i with _ | i; · first | (exact absurd h1 (by decide)) | (cases ho; exact Or.inl ⟨wanted_none rfl, exec_load_row 30 _ rfl b0 rfl 30 _ (0, 0) _ hE Try.underlying30 rfl sizeEn⟩) | (cases ho; exact Or.inl ⟨wanted_none rfl, by go_simp⟩))
              cases ho
            clear hE lE
            simp only [fills, Act.put, List.setIfInBounds_toArray, List.set_cons_zero, List.set_cons_succ]
            refine flowG_done ?_
            show Exit.then _ _ Exit.normal _ _
            go_wp2
            go_ret
            exact ⟨p33, c33, 0, rfl, h8.out.pick (j := 2) rfl, hlow.out, hhigh.out⟩
          · clear r26 h3
            simp only [fills, Act.put, List.setIfInBounds_toArray, List.set_cons_zero, List.set_cons_succ]
            have h3b : Hid (Apt W (W2.alloc (.cells #[.int .i64 e.k, .int .i64 e.a, .int .i64 e.x, .int .i64 e.n] 30)) (l ++ [obE none 0 ([] : List En), obBlk b0 30 #[.int .i64 e.k, .int .i64 e.a, .int .i64 e.x, .int .i64 e.n], obE (some ⟨a0, 0, none⟩) 0 [], obE (some ⟨W2.heap.size, 0, none⟩) 1 [e]])) := mk_one h2.out e
            generalize W2.heap.size = a1 at h3b ⊢
            generalize W2.alloc (.cells #[.int .i64 e.k, .int .i64 e.a, .int .i64 e.x, .int .i64 e.n] 30) = W3b at h3b ⊢
            clear h2
            have hE : W3b.heap[b0]? = some (.cells #[.int .i64 e.k, .int .i64 e.a, .int .i64 e.x, .int .i64 e.n] 30 (0, 0)) := h3b.out.all (l.length + 1) _ (at_n _ _ 1)
            have lE := lt_of hE
            obtain ⟨p26, c26, W4, r26, h4⟩ := append_l 41 h3b.out (j := 2) rfl none 0 (q1 := []) (q2 := ([] : List En)) (n1 := 0) (n2 := 0) (n := 0) rfl (rfl) (Nat.zero_add _) (by omega) (fun x => absurd x (Nat.lt_irrefl 0))
            have h4 : Hid (Apt W W4 (l ++ [obE none 0 ([] : List En), obBlk b0 30 #[.int .i64 e.k, .int .i64 e.a, .int .i64 e.x, .int .i64 e.n], obE p26 c26 ([] ++ ([] : List En)), obE (some ⟨a1, 0, none⟩) 1 [e]])) := h4
            refine flowG_only (4, []) [(7, []), (11, []), (12, [])] (by kernel_rfl) rfl ?run (stepG_val _ (some 26) (.slice p26 0 c26) W4 [] rfl rfl (wanted_none rfl) (exec_append rfl rfl rfl r26) rfl ?_)
            case run =>
              clear r26
              intro i o ho h1 h2
              iterate 13 (rcases i with _ | i; · first | (exact absurd h1 (by decide)) | (cases ho; exact Or.inl ⟨wanted_none rfl, exec_load_row 30 _ rfl b0 rfl 30 _ (0, 0) _ hE Try.underlying30 rfl sizeEn⟩) | (cases ho; exact Or.inl ⟨wanted_none rfl, by go_simp⟩))
              cases ho
            clear hE lE
            simp only [fills, Act.put, List.setIfInBounds_toArray, List.set_cons_zero, List.set_cons_succ]
            clear r26 h3b
            have hE : W4.heap[b0]? = some (.cells #[.int .i64 e.k, .int .i64 e.a, .int .i64 e.x, .int .i64 e.n] 30 (0, 0)) := h4.out.all (l.length + 1) _ (at_n _ _ 1)
            have lE := lt_of hE
            obtain ⟨p29, c29, W7, r29, h7⟩ := append_l 41 h4.out (j := 2) rfl (some ⟨a1, 0, none⟩) 1 (q1 := [] ++ ([] : List En)) (q2 := [e]) (n1 := 0) (n2 := 1) (n := 0 + 1) (rfl) rfl rfl (by omega) (fun _ => ⟨_, rfl, by have hv : Vec W4 30 4 (some ⟨a1, 0, none⟩) 1 1 (enL [e]) := h4.out.all (l.length + 3) _ (at_n _ _ 3); exact cells_take (q := [e]) (k := 1) hv (Nat.le_refl _)⟩)
            have h7 : Hid (Apt W W7 (l ++ [obE none 0 ([] : List En), obBlk b0 30 #[.int .i64 e.k, .int .i64 e.a, .int .i64 e.x, .int .i64 e.n], obE p29 c29 ([] ++ ([] : List En) ++ [e]), obE (some ⟨a1, 0, none⟩) 1 [e]])) := h7
            refine flowG_only (7, []) [(11, []), (12, [])] (by kernel_rfl) rfl ?run (stepG_val _ (some 29) (.slice p29 (0 + 1) c29) W7 [] rfl rfl (wanted_none rfl) (exec_append rfl rfl rfl r29) rfl ?_)
            case run =>
              clear r29
              intro i o ho h1 h2
              iterate 13 (rcases i with _ | i; · first | (exact absurd h1 (by decide)) | (cases ho; exact Or.inl ⟨wanted_none rfl, exec_load_row 30 _ rfl b0 rfl 30 _ (0, 0) _ hE Try.underlying30 rfl sizeEn⟩) | (cases ho; exact Or.inl ⟨wanted_none rfl, by go_simp⟩))
              cases ho
            clear hE lE
            simp only [fills, Act.put, List.setIfInBounds_toArray, List.set_cons_zero, List.set_cons_succ]
            clear r29 h4
            have hE : W7.heap[b0]? = some (.cells #[.int .i64 e.k, .int .i64 e.a, .int .i64 e.x, .int .i64 e.n] 30 (0, 0)) := h7.out.all (l.length + 1) _ (at_n _ _ 1)
            have lE := lt_of hE
            obtain ⟨p33, c33, W8, r33, h8⟩ := append_l 41 h7.out (j := 2) rfl none 0 (q1 := [] ++ ([] : List En) ++ [e]) (q2 := ([] : List En)) (n1 := 0 + 1) (n2 := 0) (n := 1) (rfl) (rfl) (by omega) (by omega) (fun x => absurd x (Nat.lt_irrefl 0))
            have h8 : Hid (Apt W W8 (l ++ [obE none 0 ([] : List En), obBlk b0 30 #[.int .i64 e.k, .int .i64 e.a, .int .i64 e.x, .int .i64 e.n], obE p33 c33 ([] ++ ([] : List En) ++ [e] ++ ([] : List En)), obE (some ⟨a1, 0, none⟩) 1 [e]])) := h8
            refine flowG_only (11, []) [(12, [])] (by kernel_rfl) rfl ?run (stepG_val _ (some 33) (.slice p33 (1) c33) W8 [] rfl rfl (wanted_none rfl) (exec_append rfl rfl rfl r33) rfl ?_)
            case run =>
              clear r33
              intro i o ho h1 h2
              iterate 13 (rcases i with _ | i; · first | (exact absurd h1 (by decide)) | (cases ho; exact Or.inl ⟨wanted_none rfl, exec_load_row 30 _ rfl b0 rfl 30 _ (0, 0) _ hE Try.underlying30 rfl sizeEn⟩) | (cases ho; exact Or.inl ⟨wanted_none rfl, by go_simp⟩))
              cases ho
            clear hE lE
            simp only [fills, Act.put, List.setIfInBounds_toArray, List.set_cons_zero, List.set_cons_succ]
            clear r33 h7
            have hE : W8.heap[b0]? = some (.cells #[.int .i64 e.k, .int .i64 e.a, .int .i64 e.x, .int .i64 e.n] 30 (0, 0)) := h8.out.all (l.length + 1) _ (at_n _ _ 1)
            have lE := lt_of hE
            refine flowG_only (12, []) [] (by kernel_rfl) rfl ?run (stepG_val _ (some 4) (.slice p33 (1) c33) W8 [] rfl rfl (wanted_none rfl) (by go_simp) rfl ?_)
            case run =>
              intro i o ho h1 h2
              iterate 13 (rcases i with _ | i; · first | (exact absurd h1 (by decide)) | (cases ho; exact Or.inl ⟨wanted_none rfl, exec_load_row 30 _ rfl b0 rfl 30 _ (0, 0) _ hE Try.underlying30 rfl sizeEn⟩) | (cases ho; exact Or.inl ⟨wanted_none rfl, by go_simp⟩))
              cases ho
            clear hE lE
            simp only [fills, Act.put, List.setIfInBounds_toArray, List.set_cons_zero, List.set_cons_succ]
            refine flowG_done ?_
            show Exit.then _ _ Exit.normal _ _
            go_wp2
            go_ret
            exact ⟨p33, c33, 0, rfl, h8.out.pick (j := 2) rfl, hlow.out, hhigh.out⟩
        · simp only [fills, Act.put, List.setIfInBounds_toArray, List.set_cons_zero, List.set_cons_succ]
          have h2 : Hid (Apt W (W1.alloc (.cells #[.int .i64 e.k, .int .i64 e.a, .int .i64 e.x, .int .i64 e.n] 30)) (l ++ [obE none 0 ([] : List En), obBlk b0 30 #[.int .i64 e.k, .int .i64 e.a, .int .i64 e.x, .int .i64 e.n], obE (some ⟨W1.heap.size, 0, none⟩) 1 [e]])) := mk_one h1.out e
          generalize W1.heap.size = a1 at h2 ⊢
          generalize W1.alloc (.cells #[.int .i64 e.k, .int .i64 e.a, .int .i64 e.x, .int .i64 e.n] 30) = W2 at h2 ⊢
          clear h1
          have hE : W2.heap[b0]? = some (.cells #[.int .i64 e.k, .int .i64 e.a, .int .i64 e.x, .int .i64 e.n] 30 (0, 0)) := h2.out.all (l.length + 1) _ (at_n _ _ 1)
          have lE := lt_of hE
          refine flowG_only (0, []) [(4, []), (7, []), (11, []), (12, [])] (by kernel_rfl) rfl ?run (stepG_val _ (some 22) (.slice (some ⟨W2.heap.size, 0, none⟩) 0 0) (W2.alloc (.cells #[] 30)) [] rfl rfl (wanted_none rfl) (by go_simp) rfl ?_)
          case run =>
            intro i o ho h1 h2
            iterate 13 (rcases i with _ | i; · first | (exact absurd h1 (by decide)) | (cases ho; exact Or.inl ⟨wanted_none rfl, exec_load_row 30 _ rfl b0 rfl 30 _ (0, 0) _ hE Try.underlying30 rfl sizeEn⟩) | (cases ho; exact Or.inl ⟨wanted_none rfl, by go_simp⟩))
            cases ho
          clear hE lE
          simp only [fills, Act.put, List.setIfInBounds_toArray, List.set_cons_zero, List.set_cons_succ]
          have h3 : Hid (Apt W (W2.alloc (.cells #[] 30)) (l ++ [obE none 0 ([] : List En), obBlk b0 30 #[.int .i64 e.k, .int .i64 e.a, .int .i64 e.x, .int .i64 e.n], obE (some ⟨a1, 0, none⟩) 1 [e], obE (some ⟨W2.heap.size, 0, none⟩) 0 []])) := mk_none h2.out
          generalize W2.heap.size = a0 at h3 ⊢
          generalize W2.alloc (.cells #[] 30) = W3 at h3 ⊢
          clear h2
          have hE : W3.heap[b0]? = some (.cells #[.int .i64 e.k, .int .i64 e.a, .int .i64 e.x, .int .i64 e.n] 30 (0, 0)) := h3.out.all (l.length + 1) _ (at_n _ _ 1)
          have lE := lt_of hE
          obtain ⟨p26, c26, W4, r26, h4⟩ := append_l 41 h3.out (j := 3) rfl none 0 (q1 := []) (q2 := ([] : List En)) (n1 := 0) (n2 := 0) (n := 0) rfl (rfl) (Nat.zero_add _) (by omega) (fun x => absurd x (Nat.lt_irrefl 0))
          have h4 : Hid (Apt W W4 (l ++ [obE none 0 ([] : List En), obBlk b0 30 #[.int .i64 e.k, .int .i64 e.a, .int .i64 e.x, .int .i64 e.n], obE (some ⟨a1, 0, none⟩) 1 [e], obE p26 c26 ([] ++ ([] : List En))])) := h4
          refine flowG_only (4, []) [(7, []), (11, []), (12, [])] (by kernel_rfl) rfl ?run (stepG_val _ (some 26) (.slice p26 0 c26) W4 [] rfl rfl (wanted_none rfl) (exec_append rfl rfl rfl r26) rfl ?_)
          case run =>
            clear r26
            intro i o ho h1 h2
            iterate 13 (rcases i with _ | i; · first | (exact absurd h1 (by decide)) | (cases ho; exact Or.inl ⟨wanted_none rfl, exec_load_row 30 _ rfl b0 rfl 30 _ (0, 0) _ hE Try.underlying30 rfl sizeEn⟩) | (cases ho; exact Or.inl ⟨wanted_none rfl, by go_simp⟩))
            cases ho
          clear hE lE
          simp only [fills, Act.put, List.setIfInBounds_toArray, List.set_cons_zero, List.set_cons_succ]
          clear r26 h3
          have hE : W4.heap[b0]? = some (.cells #[.int .i64 e.k, .int .i64 e.a, .int .i64 e.x, .int .i64 e.n] 30 (0, 0)) := h4.out.all (l.length + 1) _ (at_n _ _ 1)
          have lE := lt_of hE
          obtain ⟨p29, c29, W7, r29, h7⟩ := append_l 41 h4.out (j := 3) rfl (some ⟨a1, 0, none⟩) 1 (q1 := [] ++ ([] : List En)) (q2 := [e]) (n1 := 0) (n2 := 1) (n := 0 + 1) (rfl) rfl rfl (by omega) (fun _ => ⟨_, rfl, by have hv : Vec W4 30 4 (some ⟨a1, 0, none⟩) 1 1 (enL [e]) := h4.out.all (l.length + 2) _ (at_n _ _ 2); exact cells_take (q := [e]) (k := 1) hv (Nat.le_refl _)⟩)
          have h7 : Hid (Apt W W7 (l ++ [obE none 0 ([] : List En), obBlk b0 30 #[.int .i64 e.k, .int .i64 e.a, .int .i64 e.x, .int .i64 e.n], obE (some ⟨a1, 0, none⟩) 1 [e], obE p29 c29 ([] ++ ([] : List En) ++ [e])])) := h7
          refine flowG_only (7, []) [(11, []), (12, [])] (by kernel_rfl) rfl ?run (stepG_val _ (some 29) (.slice p29 (0 + 1) c29) W7 [] rfl rfl (wanted_none rfl) (exec_append rfl rfl rfl r29) rfl ?_)
          case run =>
            clear r29
            intro i o ho h1 h2
            iterate 13 (rcases i with _ | i; · first | (exact absurd h1 (by decide)) | (cases ho; exact Or.inl ⟨wanted_none rfl, exec_load_row 30 _ rfl b0 rfl 30 _ (0, 0) _ hE Try.underlying30 rfl sizeEn⟩) | (cases ho; exact Or.inl ⟨wanted_none rfl, by go_simp⟩))
            cases ho
          clear hE lE
          simp only [fills, Act.put, List.setIfInBounds_toArray, List.set_cons_zero, List.set_cons_succ]
          clear r29 h4
          have hE : W7.heap[b0]? = some (.cells #[.int .i64 e.k, .int .i64 e.a, .int .i64 e.x, .int .i64 e.n] 30 (0, 0)) := h7.out.all (l.length + 1) _ (at_n _ _ 1)
          have lE := lt_of hE
          obtain ⟨p33, c33, W8, r33, h8⟩ := append_l 41 h7.out (j := 3) rfl none 0 (q1 := [] ++ ([] : List En) ++ [e]) (q2 := ([] : List En)) (n1 := 0 + 1) (n2 := 0) (n := 1) (rfl) (rfl) (by omega) (by omega) (fun x => absurd x (Nat.lt_irrefl 0))
          have h8 : Hid (Apt W W8 (l ++ [obE none 0 ([] : List En), obBlk b0 30 #[.int .i64 e.k, .int .i64 e.a, .int .i64 e.x, .int .i64 e.n], obE (some ⟨a1, 0, none⟩) 1 [e], obE p33 c33 ([] ++ ([] : List En) ++ [e] ++ ([] : List En))])) := h8
          refine flowG_only (11, []) [(12, [])] (by kernel_rfl) rfl ?run (stepG_val _ (some 33) (.slice p33 (1) c33) W8 [] rfl rfl (wanted_none rfl) (exec_append rfl rfl rfl r33) rfl ?_)
          case run =>
            clear r33
            intro i o ho h1 h2
            iterate 13 (rcases i with _ | i; · first | (exact absurd h1 (by decide)) | (cases ho; exact Or.inl ⟨wanted_none rfl, exec_load_row 30 _ rfl b0 rfl 30 _ (0, 0) _ hE Try.underlying30 rfl sizeEn⟩) | (cases ho; exact Or.inl ⟨wanted_none rfl, by go_simp⟩))
            cases ho
          clear hE lE
          simp only [fills, Act.put, List.setIfInBounds_toArray, List.set_cons_zero, List.set_cons_succ]
          clear r33 h7
          have hE : W8.heap[b0]? = some (.cells #[.int .i64 e.k, .int .i64 e.a, .int .i64 e.x, .int .i64 e.n] 30 (0, 0)) := h8.out.all (l.length + 1) _ (at_n _ _ 1)
          have lE := lt_of hE
          refine flowG_only (12, []) [] (by kernel_rfl) rfl ?run (stepG_val _ (some 4) (.slice p33 (1) c33) W8 [] rfl rfl (wanted_none rfl) (by go_simp) rfl ?_)
          case run =>
            intro i o ho h1 h2
            iterate 13 (rcases i with _ | i; · first | (exact absurd h1 (by decide)) | (cases ho; exact Or.inl ⟨wanted_none rfl, exec_load_row 30 _ rfl b0 rfl 30 _ (0, 0) _ hE Try.underlying30 rfl sizeEn⟩) | (cases ho; exact Or.inl ⟨wanted_none rfl, by go_simp⟩))
            cases ho
          clear hE lE
          simp only [fills, Act.put, List.setIfInBounds_toArray, List.set_cons_zero, List.set_cons_succ]
          refine flowG_done ?_
          show Exit.then _ _ Exit.normal _ _
          go_wp2
          go_ret
          exact ⟨p33, c33, 0, rfl, h8.out.pick (j := 3) rfl, hlow.out, hhigh.out⟩
      · have hcN : ¬ (c < k) := by omega
        clear hcur
        go_wp2
        go_quiet (fail)
        go_wp2
        clear k0 lE
        have hx : Hid (Apt W _ (l ++ [obE (some ⟨B, 0, none⟩) c q, obBlk b0 30 #[.int .i64 e.k, .int .i64 e.a, .int .i64 e.x, .int .i64 e.n]])) := hx.out.drewN nq
        generalize World.drewN _ _ = W0 at hx ⊢
        have h1 : Hid (Apt W W0.drew (l ++ [obE (some ⟨B, 0, none⟩) c q, obBlk b0 30 #[.int .i64 e.k, .int .i64 e.a, .int .i64 e.x, .int .i64 e.n]])) := hx.out.drew
        clear hx
        obtain ⟨ad, had, HAD⟩ : ∃ ad : Addr, ((if c = k then some ⟨B, 0, none⟩ else some ⟨B, k * 4, none⟩) : Option Addr) = some ad ∧ Hid (k < k → ad = ⟨B, k * 4, none⟩) := by
          by_cases g : c = k
          · exact ⟨_, if_pos g, fun x => by omega⟩
          · exact ⟨_, if_neg g, fun _ => rfl⟩
        refine region_flowG [(0, []), (4, []), (6, []), (7, []), (11, []), (12, [])] 12 [(23, .slice (some ⟨B, 0, none⟩) k c), (24, .int .i64 (k : Int)), (25, .slice (some ⟨B, 0, none⟩) k c), (27, .agg #[.int .i64 e.k, .int .i64 e.a, .int .i64 e.x, .int .i64 e.n]), (30, .slice (some ⟨B, 0, none⟩) k c), (31, .int .i64 (k : Int)), (32, .slice (some ad) (k - k) (c - k))] hmx (by kernel_rfl) (by decide) (by kernel_rfl) ?_
        simp only [fills, Act.put, List.setIfInBounds_toArray, List.set_cons_zero, List.set_cons_succ]
        generalize W0.drew = W1 at h1 ⊢
        have hE : W1.heap[b0]? = some (.cells #[.int .i64 e.k, .int .i64 e.a, .int .i64 e.x, .int .i64 e.n] 30 (0, 0)) := h1.out.all (l.length + 1) _ (at_n _ _ 1)
        have lE := lt_of hE
        refine flowG_either (0, []) (6, []) [(4, []), (6, []), (7, []), (11, []), (12, [])] [(0, []), (4, []), (7, []), (11, []), (12, [])] (by kernel_rfl) rfl rfl ?run (stepG_val _ (some 22) (.slice (some ⟨W1.heap.size, 0, none⟩) 0 0) (W1.alloc (.cells #[] 30)) [] rfl rfl (wanted_none rfl) (by go_simp) rfl ?_) (stepG_val _ (some 28) (.slice (some ⟨W1.heap.size, 0, none⟩) 1 1) (W1.alloc (.cells #[.int .i64 e.k, .int .i64 e.a, .int .i64 e.x, .int .i64 e.n] 30)) [] rfl rfl (wanted_none rfl) (by go_simp) rfl ?_)
        case run =>
          intro i o ho h1 h2
          iterate 13 (rcases i with _ | i; · first | (exact absurd h1 (by decide)) | (cases ho; exact Or.inl ⟨wanted_none rfl, exec_load_row 30 _ rfl b0 rfl 30 _ (0, 0) _ hE Try.underlying30 rfl sizeEn⟩) | (cases ho; exact Or.inl ⟨wanted_none rfl, by go_simp⟩))
          cases ho
        clear hE lE
        · simp only [fills, Act.put, List.setIfInBounds_toArray, List.set_cons_zero, List.set_cons_succ]
          have h2 : Hid (Apt W (W1.alloc (.cells #[] 30)) (l ++ [obE (some ⟨B, 0, none⟩) c q, obBlk b0 30 #[.int .i64 e.k, .int .i64 e.a, .int .i64 e.x, .int .i64 e.n], obE (some ⟨W1.heap.size, 0, none⟩) 0 []])) := mk_none h1.out
          generalize W1.heap.size = a0 at h2 ⊢
          generalize W1.alloc (.cells #[] 30) = W2 at h2 ⊢
          clear h1
          have hE : W2.heap[b0]? = some (.cells #[.int .i64 e.k, .int .i64 e.a, .int .i64 e.x, .int .i64 e.n] 30 (0, 0)) := h2.out.all (l.length + 1) _ (at_n _ _ 1)
          have lE := lt_of hE
          obtain ⟨p26, c26, W3, r26, h3⟩ := append_l 41 h2.out (j := 2) rfl (some ⟨B, 0, none⟩) c (q1 := []) (q2 := (q.take k)) (n1 := 0) (n2 := k) (n := k) rfl (by rw [List.length_take, ← hN.out]; omega) (Nat.zero_add _) (by omega) (fun _ => ⟨_, rfl, by have hv := (h2.out.all (l.length + 0) _ (at_n _ _ 0) : Vec W2 30 4 (some ⟨B, 0, none⟩) q.length c (enL q)); exact cells_take hv (by rw [← hN.out]; exact hk)⟩)
          have h3 : Hid (Apt W W3 (l ++ [obE (some ⟨B, 0, none⟩) c q, obBlk b0 30 #[.int .i64 e.k, .int .i64 e.a, .int .i64 e.x, .int .i64 e.n], obE p26 c26 ([] ++ (q.take k))])) := h3
          refine flowG_either (4, []) (6, []) [(6, []), (7, []), (11, []), (12, [])] [(4, []), (7, []), (11, []), (12, [])] (by kernel_rfl) rfl rfl ?run (stepG_val _ (some 26) (.slice p26 k c26) W3 [] rfl rfl (wanted_none rfl) (exec_append rfl rfl rfl r26) rfl ?_) (stepG_val _ (some 28) (.slice (some ⟨W2.heap.size, 0, none⟩) 1 1) (W2.alloc (.cells #[.int .i64 e.k, .int .i64 e.a, .int .i64 e.x, .int .i64 e.n] 30)) [] rfl rfl (wanted_none rfl) (by go_simp) rfl ?_)
          case run =>
            clear r26
            intro i o ho h1 h2
            iterate 13 (rcases i with _ | i; · first | (exact absurd h1 (by decide)) | (cases ho; exact Or.inl ⟨wanted_none rfl, exec_load_row 30 _ rfl b0 rfl 30 _ (0, 0) _ hE Try.underlying30 rfl sizeEn⟩) | (cases ho; exact Or.inl ⟨wanted_none rfl, by go_simp⟩))
            cases ho
          clear hE lE
          · simp only [fills, Act.put, List.setIfInBounds_toArray, List.set_cons_zero, List.set_cons_succ]
            clear r26 h2
            have hE : W3.heap[b0]? = some (.cells #[.int .i64 e.k, .int .i64 e.a, .int .i64 e.x, .int .i64 e.n] 30 (0, 0)) := h3.out.all (l.length + 1) _ (at_n _ _ 1)
            have lE := lt_of hE
            refine flowG_only (6, []) [(7, []), (11, []), (12, [])] (by kernel_rfl) rfl ?run (stepG_val _ (some 28) (.slice (some ⟨W3.heap.size, 0, none⟩) 1 1) (W3.alloc (.cells #[.int .i64 e.k, .int .i64 e.a, .int .i64 e.x, .int .i64 e.n] 30)) [] rfl rfl (wanted_none rfl) (by go_simp) rfl ?_)
            case run =>
              intro i o ho h1 h2
              iterate 13 (rcases i with _ | i; · first | (exact absurd h1 (by decide)) | (cases ho; exact Or.inl ⟨wanted_none rfl, exec_load_row 30 _ rfl b0 rfl 30 _ (0, 0) _ hE Try.underlying30 rfl sizeEn⟩) | (cases ho; exact Or.inl ⟨wanted_none rfl, by go_simp⟩))
              cases ho
            clear hE lE
            simp only [fills, Act.put, List.setIfInBounds_toArray, List.set_cons_zero, List.set_cons_succ]
            have h4 : Hid (Apt W (W3.alloc (.cells #[.int .i64 e.k, .int .i64 e.a, .int .i64 e.x, .int .i64 e.n] 30)) (l ++ [obE (some ⟨B, 0, none⟩) c q, obBlk b0 30 #[.int .i64 e.k, .int .i64 e.a, .int .i64 e.x, .int .i64 e.n], obE p26 c26 ([] ++ (q.take k)), obE (some ⟨W3.heap.size, 0, none⟩) 1 [e]])) := mk_one h3.out e
            generalize W3.heap.size = a1 at h4 ⊢
            generalize W3.alloc (.cells #[.int .i64 e.k, .int .i64 e.a, .int .i64 e.x, .int .i64 e.n] 30) = W4 at h4 ⊢
            clear h3
            have hE : W4.heap[b0]? = some (.cells #[.int .i64 e.k, .int .i64 e.a, .int .i64 e.x, .int .i64 e.n] 30 (0, 0)) := h4.out.all (l.length + 1) _ (at_n _ _ 1)
            have lE := lt_of hE
            obtain ⟨p29, c29, W7, r29, h7⟩ := append_l 41 h4.out (j := 2) rfl (some ⟨a1, 0, none⟩) 1 (q1 := [] ++ (q.take k)) (q2 := [e]) (n1 := k) (n2 := 1) (n := k + 1) (by rw [List.nil_append, List.length_take, ← hN.out]; omega) rfl rfl (by omega) (fun _ => ⟨_, rfl, by have hv : Vec W4 30 4 (some ⟨a1, 0, none⟩) 1 1 (enL [e]) := h4.out.all (l.length + 3) _ (at_n _ _ 3); exact cells_take (q := [e]) (k := 1) hv (Nat.le_refl _)⟩)
            have h7 : Hid (Apt W W7 (l ++ [obE (some ⟨B, 0, none⟩) c q, obBlk b0 30 #[.int .i64 e.k, .int .i64 e.a, .int .i64 e.x, .int .i64 e.n], obE p29 c29 ([] ++ (q.take k) ++ [e]), obE (some ⟨a1, 0, none⟩) 1 [e]])) := h7
            refine flowG_only (7, []) [(11, []), (12, [])] (by kernel_rfl) rfl ?run (stepG_val _ (some 29) (.slice p29 (k + 1) c29) W7 [] rfl rfl (wanted_none rfl) (exec_append rfl rfl rfl r29) rfl ?_)
            case run =>
              clear r29
              intro i o ho h1 h2
              iterate 13 (rcases i with _ | i; · first | (exact absurd h1 (by decide)) | (cases ho; exact Or.inl ⟨wanted_none rfl, exec_load_row 30 _ rfl b0 rfl 30 _ (0, 0) _ hE Try.underlying30 rfl sizeEn⟩) | (cases ho; exact Or.inl ⟨wanted_none rfl, by go_simp⟩))
              cases ho
            clear hE lE
            simp only [fills, Act.put, List.setIfInBounds_toArray, List.set_cons_zero, List.set_cons_succ]
            clear r29 h4
            have hE : W7.heap[b0]? = some (.cells #[.int .i64 e.k, .int .i64 e.a, .int .i64 e.x, .int .i64 e.n] 30 (0, 0)) := h7.out.all (l.length + 1) _ (at_n _ _ 1)
            have lE := lt_of hE
            obtain ⟨p33, c33, W8, r33, h8⟩ := append_l 41 h7.out (j := 2) rfl (some ad) (c - k) (q1 := [] ++ (q.take k) ++ [e]) (q2 := (q.drop k)) (n1 := k + 1) (n2 := (k - k)) (n := k + 1) (by rw [List.nil_append, List.length_append, List.length_take, ← hN.out, Nat.min_eq_left hk]; rfl) (by rw [List.length_drop, ← hN.out]) (by omega) (by omega) (fun x => ⟨_, rfl, by have hv := (h7.out.all (l.length + 0) _ (at_n _ _ 0) : Vec W7 30 4 (some ⟨B, 0, none⟩) q.length c (enL q)); rw [HAD.out (by omega)]; have := cells_drop hv (k := k) (by rw [← hN.out]; omega); rw [← hN.out] at this; exact this⟩)
            have h8 : Hid (Apt W W8 (l ++ [obE (some ⟨B, 0, none⟩) c q, obBlk b0 30 #[.int .i64 e.k, .int .i64 e.a, .int .i64 e.x, .int .i64 e.n], obE p33 c33 ([] ++ (q.take k) ++ [e] ++ (q.drop k)), obE (some ⟨a1, 0, none⟩) 1 [e]])) := h8
            refine flowG_only (11, []) [(12, [])] (by kernel_rfl) rfl ?run (stepG_val _ (some 33) (.slice p33 (k + 1) c33) W8 [] rfl rfl (wanted_none rfl) (exec_append rfl rfl rfl r33) rfl ?_)
            case run =>
              clear r33
              intro i o ho h1 h2
              iterate 13 (rcases i with _ | i; · first | (exact absurd h1 (by decide)) | (cases ho; exact Or.inl ⟨wanted_none rfl, exec_load_row 30 _ rfl b0 rfl 30 _ (0, 0) _ hE Try.underlying30 rfl sizeEn⟩) | (cases ho; exact Or.inl ⟨wanted_none rfl, by go_simp⟩))
              cases ho
            clear hE lE
            simp only [fills, Act.put, List.setIfInBounds_toArray, List.set_cons_zero, List.set_cons_succ]
            clear r33 h7
            have hE : W8.heap[b0]? = some (.cells #[.int .i64 e.k, .int .i64 e.a, .int .i64 e.x, .int .i64 e.n] 30 (0, 0)) := h8.out.all (l.length + 1) _ (at_n _ _ 1)
            have lE := lt_of hE
            refine flowG_only (12, []) [] (by kernel_rfl) rfl ?run (stepG_val _ (some 4) (.slice p33 (k + 1) c33) W8 [] rfl rfl (wanted_none rfl) (by go_simp) rfl ?_)
            case run =>
              intro i o ho h1 h2
              iterate 13 (rcases i with _ | i; · first | (exact absurd h1 (by decide)) | (cases ho; exact Or.inl ⟨wanted_none rfl, exec_load_row 30 _ rfl b0 rfl 30 _ (0, 0) _ hE Try.underlying30 rfl sizeEn⟩) | (cases ho; exact Or.inl ⟨wanted_none rfl, by go_simp⟩))
              cases ho
            clear hE lE
            simp only [fills, Act.put, List.setIfInBounds_toArray, List.set_cons_zero, List.set_cons_succ]
            refine flowG_done ?_
            show Exit.then _ _ Exit.normal _ _
            go_wp2
            go_ret
            exact ⟨p33, c33, k, rfl, h8.out.pick (j := 2) rfl, hlow.out, hhigh.out⟩
          · clear r26 h3
            simp only [fills, Act.put, List.setIfInBounds_toArray, List.set_cons_zero, List.set_cons_succ]
            have h3b : Hid (Apt W (W2.alloc (.cells #[.int .i64 e.k, .int .i64 e.a, .int .i64 e.x, .int .i64 e.n] 30)) (l ++ [obE (some ⟨B, 0, none⟩) c q, obBlk b0 30 #[.int .i64 e.k, .int .i64 e.a, .int .i64 e.x, .int .i64 e.n], obE (some ⟨a0, 0, none⟩) 0 [], obE (some ⟨W2.heap.size, 0, none⟩) 1 [e]])) := mk_one h2.out e
            generalize W2.heap.size = a1 at h3b ⊢
            generalize W2.alloc (.cells #[.int .i64 e.k, .int .i64 e.a, .int .i64 e.x, .int .i64 e.n] 30) = W3b at h3b ⊢
            clear h2
            have hE : W3b.heap[b0]? = some (.cells #[.int .i64 e.k, .int .i64 e.a, .int .i64 e.x, .int .i64 e.n] 30 (0, 0)) := h3b.out.all (l.length + 1) _ (at_n _ _ 1)
            have lE := lt_of hE
            obtain ⟨p26, c26, W4, r26, h4⟩ := append_l 41 h3b.out (j := 2) rfl (some ⟨B, 0, none⟩) c (q1 := []) (q2 := (q.take k)) (n1 := 0) (n2 := k) (n := k) rfl (by rw [List.length_take, ← hN.out]; omega) (Nat.zero_add _) (by omega) (fun _ => ⟨_, rfl, by have hv := (h3b.out.all (l.length + 0) _ (at_n _ _ 0) : Vec W3b 30 4 (some ⟨B, 0, none⟩) q.length c (enL q)); exact cells_take hv (by rw [← hN.out]; exact hk)⟩)
            have h4 : Hid (Apt W W4 (l ++ [obE (some ⟨B, 0, none⟩) c q, obBlk b0 30 #[.int .i64 e.k, .int .i64 e.a, .int .i64 e.x, .int .i64 e.n], obE p26 c26 ([] ++ (q.take k)), obE (some ⟨a1, 0, none⟩) 1 [e]])) := h4
            refine flowG_only (4, []) [(7, []), (11, []), (12, [])] (by kernel_rfl) rfl ?run (stepG_val _ (some 26) (.slice p26 k c26) W4 [] rfl rfl (wanted_none rfl) (exec_append rfl rfl rfl r26) rfl ?_)
            case run =>
              clear r26
              intro i o ho h1 h2
              iterate 13 (rcases i with _ | i; · first | (exact absurd h1 (by decide)) | (cases ho; exact Or.inl ⟨wanted_none rfl, exec_load_row 30 _ rfl b0 rfl 30 _ (0, 0) _ hE Try.underlying30 rfl sizeEn⟩) | (cases ho; exact Or.inl ⟨wanted_none rfl, by go_simp⟩))
              cases ho
            clear hE lE
            simp only [fills, Act.put, List.setIfInBounds_toArray, List.set_cons_zero, List.set_cons_succ]
            clear r26 h3b
            have hE : W4.heap[b0]? = some (.cells #[.int .i64 e.k, .int .i64 e.a, .int .i64 e.x, .int .i64 e.n] 30 (0, 0)) := h4.out.all (l.length + 1) _ (at_n _ _ 1)
            have lE := lt_of hE
            obtain ⟨p29, c29, W7, r29, h7⟩ := append_l 41 h4.out (j := 2) rfl (some ⟨a1, 0, none⟩) 1 (q1 := [] ++ (q.take k)) (q2 := [e]) (n1 := k) (n2 := 1) (n := k + 1) (by rw [List.nil_append, List.length_take, ← hN.out]; omega) rfl rfl (by omega) (fun _ => ⟨_, rfl, by have hv : Vec W4 30 4 (some ⟨a1, 0, none⟩) 1 1 (enL [e]) := h4.out.all (l.length + 3) _ (at_n _ _ 3); exact cells_take (q := [e]) (k := 1) hv (Nat.le_refl _)⟩)
            have h7 : Hid (Apt W W7 (l ++ [obE (some ⟨B, 0, none⟩) c q, obBlk b0 30 #[.int .i64 e.k, .int .i64 e.a, .int .i64 e.x, .int .i64 e.n], obE p29 c29 ([] ++ (q.take k) ++ [e]), obE (some ⟨a1, 0, none⟩) 1 [e]])) := h7
            refine flowG_only (7, []) [(11, []), (12, [])] (by kernel_rfl) rfl ?run (stepG_val _ (some 29) (.slice p29 (k + 1) c29) W7 [] rfl rfl (wanted_none rfl) (exec_append rfl rfl rfl r29) rfl ?_)
            case run =>
              clear r29
              intro i o ho h1 h2
              iterate 13 (rcases i with _ | i; · first | (exact absurd h1 (by decide)) | (cases ho; exact Or.inl ⟨wanted_none rfl, exec_load_row 30 _ rfl b0 rfl 30 _ (0, 0) _ hE Try.underlying30 rfl sizeEn⟩) | (cases ho; exact Or.inl ⟨wanted_none rfl, by go_simp⟩))
              cases ho
            clear hE lE
            simp only [fills, Act.put, List.setIfInBounds_toArray, List.set_cons_zero, List.set_cons_succ]
            clear r29 h4
            have hE : W7.heap[b0]? = some (.cells #[.int .i64 e.k, .int .i64 e.a, .int .i64 e.x, .int .i64 e.n] 30 (0, 0)) := h7.out.all (l.length + 1) _ (at_n _ _ 1)
            have lE := lt_of hE
            obtain ⟨p33, c33, W8, r33, h8⟩ := append_l 41 h7.out (j := 2) rfl (some ad) (c - k) (q1 := [] ++ (q.take k) ++ [e]) (q2 := (q.drop k)) (n1 := k + 1) (n2 := (k - k)) (n := k + 1) (by rw [List.nil_append, List.length_append, List.length_take, ← hN.out, Nat.min_eq_left hk]; rfl) (by rw [List.length_drop, ← hN.out]) (by omega) (by omega) (fun x => ⟨_, rfl, by have hv := (h7.out.all (l.length + 0) _ (at_n _ _ 0) : Vec W7 30 4 (some ⟨B, 0, none⟩) q.length c (enL q)); rw [HAD.out (by omega)]; have := cells_drop hv (k := k) (by rw [← hN.out]; omega); rw [← hN.out] at this; exact this⟩)
            have h8 : Hid (Apt W W8 (l ++ [obE (some ⟨B, 0, none⟩) c q, obBlk b0 30 #[.int .i64 e.k, .int .i64 e.a, .int .i64 e.x, .int .i64 e.n], obE p33 c33 ([] ++ (q.take k) ++ [e] ++ (q.drop k)), obE (some ⟨a1, 0, none⟩) 1 [e]])) := h8
            refine flowG_only (11, []) [(12, [])] (by kernel_rfl) rfl ?run (stepG_val _ (some 33) (.slice p33 (k + 1) c33) W8 [] rfl rfl (wanted_none rfl) (exec_append rfl rfl rfl r33) rfl ?_)
            case run =>
              clear r33
              intro i o ho h1 h2
              iterate 13 (rcases i with _ | i; · first | (exact absurd h1 (by decide)) | (cases ho; exact Or.inl ⟨wanted_none rfl, exec_load_row 30 _ rfl b0 rfl 30 _ (0, 0) _ hE Try.underlying30 rfl sizeEn⟩) | (cases ho; exact Or.inl ⟨wanted_none rfl, by go_simp⟩))
              cases ho
            clear hE lE
            simp only [fills, Act.put, List.setIfInBounds_toArray, List.set_cons_zero, List.set_cons_succ]
            clear r33 h7
            have hE : W8.heap[b0]? = some (.cells #[.int .i64 e.k, .int .i64 e.a, .int .i64 e.x, .int .i64 e.n] 30 (0, 0)) := h8.out.all (l.length + 1) _ (at_n _ _ 1)
            have lE := lt_of hE
            refine flowG_only (12, []) [] (by kernel_rfl) rfl ?run (stepG_val _ (some 4) (.slice p33 (k + 1) c33) W8 [] rfl rfl (wanted_none rfl) (by go_simp) rfl ?_)
            case run =>
              intro i o ho h1 h2
              iterate 13 (rcases i with _ | i; · first | (exact absurd h1 (by decide)) | (cases ho; exact Or.inl ⟨wanted_none rfl, exec_load_row 30 _ rfl b0 rfl 30 _ (0, 0) _ hE Try.underlying30 rfl sizeEn⟩) | (cases ho; exact Or.inl ⟨wanted_none rfl, by go_simp⟩))
              cases ho
            clear hE lE
            simp only [fills, Act.put, List.setIfInBounds_toArray, List.set_cons_zero, List.set_cons_succ]
            refine flowG_done ?_
            show Exit.then _ _ Exit.normal _ _
            go_wp2
            go_ret
            exact ⟨p33, c33, k, rfl, h8.out.pick (j := 2) rfl, hlow.out, hhigh.out⟩
        · simp only [fills, Act.put, List.setIfInBounds_toArray, List.set_cons_zero, List.set_cons_succ]
          have h2 : Hid (Apt W (W1.alloc (.cells #[.int .i64 e.k, .int .i64 e.a, .int .i64 e.x, .int .i64 e.n] 30)) (l ++ [obE (some ⟨B, 0, none⟩) c q, obBlk b0 30 #[.int .i64 e.k, .int .i64 e.a, .int .i64 e.x, .int .i64 e.n], obE (some ⟨W1.heap.size, 0, none⟩) 1 [e]])) := mk_one h1.out e
          generalize W1.heap.size = a1 at h2 ⊢
          generalize W1.alloc (.cells #[.int .i64 e.k, .int .i64 e.a, .int .i64 e.x, .int .i64 e.n] 30) = W2 at h2 ⊢
          clear h1
          have hE : W2.heap[b0]? = some (.cells #[.int .i64 e.k, .int .i64 e.a, .int .i64 e.x, .int .i64 e.n] 30 (0, 0)) := h2.out.all (l.length + 1) _ (at_n _ _ 1)
          have lE := lt_of hE
          refine flowG_only (0, []) [(4, []), (7, []), (11, []), (12, [])] (by kernel_rfl) rfl ?run (stepG_val _ (some 22) (.slice (some ⟨W2.heap.size, 0, none⟩) 0 0) (W2.alloc (.cells #[] 30)) [] rfl rfl (wanted_none rfl) (by go_simp) rfl ?_)
          case run =>
            intro i o ho h1 h2
            iterate 13 (rcases i with _ | i; · first | (exact absurd h1 (by decide)) | (cases ho; exact Or.inl ⟨wanted_none rfl, exec_load_row 30 _ rfl b0 rfl 30 _ (0, 0) _ hE Try.underlying30 rfl sizeEn⟩) | (cases ho; exact Or.inl ⟨wanted_none rfl, by go_simp⟩))
            cases ho
          clear hE lE
          simp only [fills, Act.put, List.setIfInBounds_toArray, List.set_cons_zero, List.set_cons_succ]
          have h3 : Hid (Apt W (W2.alloc (.cells #[] 30)) (l ++ [obE (some ⟨B, 0, none⟩) c q, obBlk b0 30 #[.int .i64 e.k, .int .i64 e.a, .int .i64 e.x, .int .i64 e.n], obE (some ⟨a1, 0, none⟩) 1 [e], obE (some ⟨W2.heap.size, 0, none⟩) 0 []])) := mk_none h2.out
          generalize W2.heap.size = a0 at h3 ⊢
          generalize W2.alloc (.cells #[] 30) = W3 at h3 ⊢
          clear h2
          have hE : W3.heap[b0]? = some (.cells #[.int .i64 e.k, .int .i64 e.a, .int .i64 e.x, .int .i64 e.n] 30 (0, 0)) := h3.out.all (l.length + 1) _ (at_n _ _ 1)
          have lE := lt_of hE
          obtain ⟨p26, c26, W4, r26, h4⟩ := append_l 41 h3.out (j := 3) rfl (some ⟨B, 0, none⟩) c (q1 := []) (q2 := (q.take k)) (n1 := 0) (n2 := k) (n := k) rfl (by rw [List.length_take, ← hN.out]; omega) (Nat.zero_add _) (by omega) (fun _ => ⟨_, rfl, by have hv := (h3.out.all (l.length + 0) _ (at_n _ _ 0) : Vec W3 30 4 (some ⟨B, 0, none⟩) q.length c (enL q)); exact cells_take hv (by rw [← hN.out]; exact hk)⟩)
          have h4 : Hid (Apt W W4 (l ++ [obE (some ⟨B, 0, none⟩) c q, obBlk b0 30 #[.int .i64 e.k, .int .i64 e.a, .int .i64 e.x, .int .i64 e.n], obE (some ⟨a1, 0, none⟩) 1 [e], obE p26 c26 ([] ++ (q.take k))])) := h4
          refine flowG_only (4, []) [(7, []), (11, []), (12, [])] (by kernel_rfl) rfl ?run (stepG_val _ (some 26) (.slice p26 k c26) W4 [] rfl rfl (wanted_none rfl) (exec_append rfl rfl rfl r26) rfl ?_)
          case run =>
            clear r26
            intro i o ho h1 h2
            iterate 13 (rcases i with _ | i; · first | (exact absurd h1 (by decide)) | (cases ho; exact Or.inl ⟨wanted_none rfl, exec_load_row 30 _ rfl b0 rfl 30 _ (0, 0) _ hE Try.underlying30 rfl sizeEn⟩) | (cases ho; exact Or.inl ⟨wanted_none rfl, by go_simp⟩))
            cases ho
          clear hE lE
          simp only [fills, Act.put, List.setIfInBounds_toArray, List.set_cons_zero, List.set_cons_succ]
          clear r26 h3
          have hE : W4.heap[b0]? = some (.cells #[.int .i64 e.k, .int .i64 e.a, .int .i64 e.x, .int .i64 e.n] 30 (0, 0)) := h4.out.all (l.length + 1) _ (at_n _ _ 1)
          have lE := lt_of hE
          obtain ⟨p29, c29, W7, r29, h7⟩ := append_l 41 h4.out (j := 3) rfl (some ⟨a1, 0, none⟩) 1 (q1 := [] ++ (q.take k)) (q2 := [e]) (n1 := k) (n2 := 1) (n := k + 1) (by rw [List.nil_append, List.length_take, ← hN.out]; omega) rfl rfl (by omega) (fun _ => ⟨_, rfl, by have hv : Vec W4 30 4 (some ⟨a1, 0, none⟩) 1 1 (enL [e]) := h4.out.all (l.length + 2) _ (at_n _ _ 2); exact cells_take (q := [e]) (k := 1) hv (Nat.le_refl _)⟩)
          have h7 : Hid (Apt W W7 (l ++ [obE (some ⟨B, 0, none⟩) c q, obBlk b0 30 #[.int .i64 e.k, .int .i64 e.a, .int .i64 e.x, .int .i64 e.n], obE (some ⟨a1, 0, none⟩) 1 [e], obE p29 c29 ([] ++ (q.take k) ++ [e])])) := h7
          refine flowG_only (7, []) [(11, []), (12, [])] (by kernel_rfl) rfl ?run (stepG_val _ (some 29) (.slice p29 (k + 1) c29) W7 [] rfl rfl (wanted_none rfl) (exec_append rfl rfl rfl r29) rfl ?_)
          case run =>
            clear r29
            intro i o ho h1 h2
            iterate 13 (rcases i with _ | i; · first | (exact absurd h1 (by decide)) | (cases ho; exact Or.inl ⟨wanted_none rfl, exec_load_row 30 _ rfl b0 rfl 30 _ (0, 0) _ hE Try.underlying30 rfl sizeEn⟩) | (cases ho; exact Or.inl ⟨wanted_none rfl, by go_simp⟩))
            cases ho
          clear hE lE
          simp only [fills, Act.put, List.setIfInBounds_toArray, List.set_cons_zero, List.set_cons_succ]
          clear r29 h4
          have hE : W7.heap[b0]? = some (.cells #[.int .i64 e.k, .int .i64 e.a, .int .i64 e.x, .int .i64 e.n] 30 (0, 0)) := h7.out.all (l.length + 1) _ (at_n _ _ 1)
          have lE := lt_of hE
          obtain ⟨p33, c33, W8, r33, h8⟩ := append_l 41 h7.out (j := 3) rfl (some ad) (c - k) (q1 := [] ++ (q.take k) ++ [e]) (q2 := (q.drop k)) (n1 := k + 1) (n2 := (k - k)) (n := k + 1) (by rw [List.nil_append, List.length_append, List.length_take, ← hN.out, Nat.min_eq_left hk]; rfl) (by rw [List.length_drop, ← hN.out]) (by omega) (by omega) (fun x => ⟨_, rfl, by have hv := (h7.out.all (l.length + 0) _ (at_n _ _ 0) : Vec W7 30 4 (some ⟨B, 0, none⟩) q.length c (enL q)); rw [HAD.out (by omega)]; have := cells_drop hv (k := k) (by rw [← hN.out]; omega); rw [← hN.out] at this; exact this⟩)
          have h8 : Hid (Apt W W8 (l ++ [obE (some ⟨B, 0, none⟩) c q, obBlk b0 30 #[.int .i64 e.k, .int .i64 e.a, .int .i64 e.x, .int .i64 e.n], obE (some ⟨a1, 0, none⟩) 1 [e], obE p33 c33 ([] ++ (q.take k) ++ [e] ++ (q.drop k))])) := h8
          refine flowG_only (11, []) [(12, [])] (by kernel_rfl) rfl ?run (stepG_val _ (some 33) (.slice p33 (k + 1) c33) W8 [] rfl rfl (wanted_none rfl) (exec_append rfl rfl rfl r33) rfl ?_)
          case run =>
            clear r33
            intro i o ho h1 h2
            iterate 13 (rcases i with _ | i; · first | (exact absurd h1 (by decide)) | (cases ho; exact Or.inl ⟨wanted_none rfl, exec_load_row 30 _ rfl b0 rfl 30 _ (0, 0) _ hE Try.underlying30 rfl sizeEn⟩) | (cases ho; exact Or.inl ⟨wanted_none rfl, by go_simp⟩))
            cases ho
          clear hE lE
          simp only [fills, Act.put, List.setIfInBounds_toArray, List.set_cons_zero, List.set_cons_succ]
          clear r33 h7
          have hE : W8.heap[b0]? = some (.cells #[.int .i64 e.k, .int .i64 e.a, .int .i64 e.x, .int .i64 e.n] 30 (0, 0)) := h8.out.all (l.length + 1) _ (at_n _ _ 1)
          have lE := lt_of hE
          refine flowG_only (12, []) [] (by kernel_rfl) rfl ?run (stepG_val _ (some 4) (.slice p33 (k + 1) c33) W8 [] rfl rfl (wanted_none rfl) (by go_simp) rfl ?_)
          case run =>
            intro i o ho h1 h2
            iterate 13 (rcases i with _ | i; · first | (exact absurd h1 (by decide)) | (cases ho; exact Or.inl ⟨wanted_none rfl, exec_load_row 30 _ rfl b0 rfl 30 _ (0, 0) _ hE Try.underlying30 rfl sizeEn⟩) | (cases ho; exact Or.inl ⟨wanted_none rfl, by go_simp⟩))
            cases ho
          clear hE lE
          simp only [fills, Act.put, List.setIfInBounds_toArray, List.set_cons_zero, List.set_cons_succ]
          refine flowG_done ?_
          show Exit.then _ _ Exit.normal _ _
          go_wp2
          go_ret
          exact ⟨p33, c33, k, rfl, h8.out.pick (j := 3) rfl, hlow.out, hhigh.out⟩
end Go.Proofs.Ythjcdloaclailaa.Tb
