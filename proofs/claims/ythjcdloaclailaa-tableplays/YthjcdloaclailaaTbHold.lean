/-
  A plain row of keys beside a table: where a key stands in it, what is put over and taken out; what a slice of numbers comes to then. No condition but those told at each sentence.
-/
import Derived.Test.YthjcdloaclailaaTbRows
namespace Go.Proofs.Ythjcdloaclailaa.Tb
open Go.RowKit Go.Deep Us
variable {W w w' : World} {key : Int} {e r : En} {q : List En} {J : Nat} {l : List Ob} {i j c : Nat} {p : Option Addr}

/-- The key stands at J, or nowhere, J being as many as there are. -/
def KAt (q : List En) (key : Int) (J : Nat) : Prop := J ≤ q.length ∧ ∀ i r, q[i]? = some r → (r.k = key ↔ i = J)
theorem at_ex (key : Int) : ∀ {q : List En}, (q.map (·.k)).Nodup → ∃ J, KAt q key J
  | [], _ => ⟨0, Nat.le_refl _, fun i r h => by simp at h⟩
  | y :: q, hn => by
    rw [List.map_cons] at hn
    obtain ⟨h1, h2⟩ := List.nodup_cons.1 hn
    by_cases e : y.k = key
    · refine ⟨0, Nat.zero_le _, fun i r h => ?_⟩
      cases i with
      | zero => simp at h; subst h; simp [e]
      | succ i =>
        refine ⟨fun hr => absurd ?_ h1, fun q => by omega⟩
        have hm : r ∈ q := List.mem_of_getElem? (by simpa using h)
        exact List.mem_map.2 ⟨r, hm, hr.trans e.symm⟩
    · obtain ⟨J, hJ, hA⟩ := at_ex key (q := q) h2
      refine ⟨J + 1, by simpa using hJ, fun i r h => ?_⟩
      cases i with
      | zero => simp at h; subst h; simp [e]
      | succ i => rw [hA i r (by simpa using h)]; omega
theorem KAt.one (h : KAt q key J) (hj : J < q.length) : ∃ r, q[J]? = some r ∧ r ∈ q ∧ r.k = key := by
  refine ⟨q[J], List.getElem?_eq_getElem hj, List.getElem_mem hj, ?_⟩
  exact (h.2 J _ (List.getElem?_eq_getElem hj)).2 rfl
theorem KAt.no (h : KAt q key J) (hj : ¬ J < q.length) : ∀ r ∈ q, r.k ≠ key := fun r hr e => by
  obtain ⟨i, hi, rfl⟩ := List.getElem_of_mem hr
  have := (h.2 i _ (List.getElem?_eq_getElem hi)).1 e
  omega
theorem KAt.tail {y : En} (h : KAt (y :: q) key (J + 1)) : KAt q key J :=
  ⟨by simpa using h.1, fun i r hi => by rw [h.2 (i + 1) r (by simpa using hi)]; omega⟩
theorem ovr_set : ∀ {q : List En} {J : Nat}, KAt q e.k J → q.map (ovr e) = q.set J e
  | [], _, _ => rfl
  | y :: q, 0, h => by
    have h0 : y.k = e.k := (h.2 0 y rfl).2 rfl
    have hr : ∀ z ∈ q, ovr e z = z := fun z hz => by
      obtain ⟨i, hi, rfl⟩ := List.getElem_of_mem hz
      unfold ovr
      rw [if_neg fun x => by have := (h.2 (i + 1) _ (by simp [List.getElem?_eq_getElem hi])).1 x; omega]
    rw [List.map_cons, List.set_cons_zero, List.map_congr_left hr, List.map_id']
    unfold ovr
    rw [if_pos h0]
  | y :: q, J + 1, h => by
    have h0 : y.k ≠ e.k := fun x => by have := (h.2 0 y rfl).1 x; omega
    rw [List.map_cons, List.set_cons_succ, ovr_set h.tail]
    unfold ovr
    rw [if_neg h0]
theorem dlt_cut : ∀ {q : List En} {J : Nat}, KAt q key J → J < q.length → dlt key q = q.take J ++ q.drop (J + 1)
  | [], _, _, hj => by simp at hj
  | y :: q, 0, h, _ => by
    have h0 : y.k = key := (h.2 0 y rfl).2 rfl
    unfold dlt
    rw [List.filter_cons, if_neg (by simp [h0]), List.filter_eq_self.2 fun z hz => ?_]
    · simp
    · obtain ⟨i, hi, rfl⟩ := List.getElem_of_mem hz
      rw [decide_eq_true_eq]
      intro x
      have := (h.2 (i + 1) _ (by simp [List.getElem?_eq_getElem hi])).1 x
      omega
  | y :: q, J + 1, h, hj => by
    have h0 : y.k ≠ key := fun x => by have := (h.2 0 y rfl).1 x; omega
    have ih := dlt_cut h.tail (by simpa using hj)
    unfold dlt at ih ⊢
    rw [List.filter_cons, if_pos (by simp [h0]), ih]
    simp
theorem ovr_keys (q : List En) : (q.map (ovr e)).map (·.k) = q.map (·.k) := by
  rw [List.map_map]
  refine List.map_congr_left fun y _ => ?_
  show (ovr e y).k = y.k
  unfold ovr
  by_cases h : y.k = e.k
  · rw [if_pos h]; exact h.symm
  · rw [if_neg h]
theorem ovr_vals (h : KAt q e.k J) : (q.map (ovr e)).map (·.a) = (q.map (·.a)).set J e.a := by rw [ovr_set h, List.map_set]
theorem map_cut {α β : Type} (f : α → β) (q : List α) (J : Nat) : (q.take J ++ q.drop (J + 1)).map f = (q.map f).take J ++ (q.map f).drop (J + 1) := by rw [List.map_append, List.map_take, List.map_drop]
theorem get_map {f : En → Int} (hj : q[j]? = some r) : (q.map f).getD j 0 = f r := by simp [List.getD_eq_getElem?_getD, hj]
/-- A cell of a slice that tells a number of each entry. -/
theorem row_cell {f : En → Int} {n : Nat} (h : Apt W w l) (hi : l[i]? = some (obV p c (q.map f))) (hj : q[j]? = some r) (hn : n = q.length) : ∃ B, p = some ⟨B, 0, none⟩ ∧ B < w.heap.size ∧ n ≤ c ∧ w.cell? ⟨B, j, none⟩ = some (.int .i64 (f r)) := by
  have hlt := (List.getElem?_eq_some_iff.1 hj).1
  obtain ⟨B, hp, lB, cB, _, hc⟩ := Vec.opens (h.all i _ hi) (by rw [List.length_map]; omega)
  refine ⟨B, hp, lB, ?_, ?_⟩
  · rw [List.length_map] at hc; omega
  · have := cB j (by rw [List.length_map]; omega)
    rw [← get_map (f := f) hj]
    exact this
/-- One of the numbers is set. -/
theorem set_s {B : Nat} {z : List Int} (h : Apt W w l) (hi : l[i]? = some (obV (some ⟨B, 0, none⟩) c z)) (hj : j < z.length) (x : Int) : Apt W (w.setCell ⟨B, j, none⟩ (.int .i64 x)) (l.set i (obV (some ⟨B, 0, none⟩) c (z.set j x))) := by
  have hv : Vec w 3 1 (some ⟨B, 0, none⟩) z.length c (ivL z) := h.all i _ hi
  refine h.upd hi ?_ ⟨(Out.refl (In (some ⟨B, 0, none⟩)) w).setCell (a := ⟨B, j, none⟩) (In.self B) _, fun _ hk => .inl hk⟩
  show Vec _ 3 1 (some ⟨B, 0, none⟩) (z.set j x).length c (ivL (z.set j x))
  rw [List.length_set]
  rcases hv with ⟨h1, _⟩ | ⟨B', cur, hB, hb, h1, h2, h3, h4⟩
  · cases h1
  · cases hB
    refine .inr ⟨B, _, rfl, blk_set hb j _, h1, h2, by simpa using h3, fun k hk => ?_⟩
    rw [Array.getElem?_setIfInBounds]
    by_cases e : j = k
    · subst e
      rw [if_pos rfl, if_pos (by omega)]
      simp [ivL, hj]
    · rw [if_neg e, h4 k hk]
      simp [ivL, List.getD_eq_getElem?_getD, List.getElem?_set_ne e]
/-- append of none or more to a slice that has a block. -/
theorem run_append_more {P : Program} {w : World} {t e : TypeId} (ty : TypeId) {z : Value} {s bytes : Nat} (ht : P.underlying t = some (.slice e)) (hinfo : (P.info? e).map (fun i => (i.zero, i.size, i.bytes)) = some (some z, s, bytes)) (hzs : z.cells.size = s)
    {B : Nat} {n c : Nat} {f : Nat → Value} (h : Vec w e s (some ⟨B, 0, none⟩) n c f)
    {ad : Addr} {m cx : Nat} {g : Nat → Value} (hc : ∀ j, j < m * s → w.cell? (ad.add j) = some (g j)) (h1 : ∀ j, j < m * s → (g j).oneCell' = true) (hb : (n + m) * bytes ≤ 140737488355328) (h63 : n + m ≤ 9223372036854775807) :
    ∃ p' c' w', (Builtin.append_ #[t, t] ty #[.slice (some ⟨B, 0, none⟩) n c, .slice (some ad) m cx]).run P w = .ok (.slice p' (n + m) c') w' ∧ Vec w' e s p' (n + m) c' (fun j => if j < n * s then f j else g (j - n * s)) ∧ Out (In (some ⟨B, 0, none⟩)) w w' ∧ (p' = some ⟨B, 0, none⟩ ∨ p' = some ⟨w.heap.size, 0, none⟩) := by
  by_cases hm : 0 < m
  · exact run_append_vec ty ht hinfo hzs h hm hc h1 hb h63
  · obtain rfl : m = 0 := by omega
    have hnc : n ≤ c := by
      rcases h with ⟨h, _⟩ | ⟨_, _, _, _, h, _⟩
      · cases h
      · exact h
    exact ⟨_, _, _, run_append_nothing ty ht hinfo hnc, h.congr fun j hj => by rw [if_pos hj], Out.refl _ _, .inl rfl⟩
theorem add0 (B o j : Nat) : (⟨B, o, none⟩ : Addr).add j = ⟨B, o + j, none⟩ := by unfold Addr.add; split <;> simp_all
/-- append(append([]T{}, x[:k]..), x[k+1:]..): what its two appends come to. -/
theorem cut_vec {P : Program} {w : World} {t e : TypeId} (ty ty2 : TypeId) {z : Value} {s bytes : Nat} (ht : P.underlying t = some (.slice e)) (hinfo : (P.info? e).map (fun i => (i.zero, i.size, i.bytes)) = some (some z, s, bytes)) (hzs : z.cells.size = s)
    {B : Nat} {n c k : Nat} {f : Nat → Value} (h : Vec w e s (some ⟨B, 0, none⟩) n c f) (hk : k < n) (h1 : ∀ j, j < n * s → (f j).oneCell' = true) (hb : n * bytes ≤ 140737488355328) (h63 : n ≤ 9223372036854775807) {ad : Addr} (had : k + 1 < n → ad = ⟨B, (k + 1) * s, none⟩) :
    ∃ b1 c1 w1 p2 c2 w2, (Builtin.append_ #[t, t] ty #[.slice (some ⟨w.heap.size, 0, none⟩) 0 0, .slice (some ⟨B, 0, none⟩) k c]).run P (w.alloc (.cells #[] e)) = .ok (.slice (some ⟨b1, 0, none⟩) k c1) w1 ∧
      (Builtin.append_ #[t, t] ty2 #[.slice (some ⟨b1, 0, none⟩) k c1, .slice (some ad) (n - (k + 1)) (c - (k + 1))]).run P w1 = .ok (.slice p2 (n - 1) c2) w2 ∧ Grown w w2 ∧ Vec w2 e s p2 (n - 1) c2 (fun j => if j < k * s then f j else f (s + j)) ∧ ∀ x, In p2 x → w.heap.size ≤ x := by
  have g1 : Grown w (w.alloc (.cells #[] e)) := (Grown.refl w).alloc _ _
  have v0 : Vec (w.alloc (.cells #[] e)) e s (some ⟨w.heap.size, 0, none⟩) 0 0 (fun _ => undef) := Vec.laid w _ #[] 0 s (by unfold maxLen; omega) (by simp) _ (fun j hj => by omega)
  have lB := h.lt (In.self B)
  have hks : k * s ≤ n * s := Nat.mul_le_mul_right _ (Nat.le_of_lt hk)
  have hbk : k * bytes ≤ n * bytes := Nat.mul_le_mul_right _ (Nat.le_of_lt hk)
  have hn1 : k + (n - (k + 1)) = n - 1 := by omega
  have hb1 : (n - 1) * bytes ≤ n * bytes := Nat.mul_le_mul_right _ (by omega)
  have hsum : (k + 1) * s + (n - (k + 1)) * s = n * s := by rw [← Nat.add_mul]; congr 1; omega
  obtain ⟨_, hBi, _, ci, _, _⟩ := (h.grown g1).opens (by omega)
  cases hBi
  obtain ⟨p1, c1, w1, hr1, hv1, ho1, hp1⟩ := run_append_more (P := P) ty ht hinfo hzs v0 (ad := ⟨B, 0, none⟩) (m := k) (cx := c) (g := f) (fun j hj => by rw [add0, Nat.zero_add]; exact ci j (by omega)) (fun j hj => h1 j (by omega)) (by rw [Nat.zero_add]; omega) (by omega)
  have o1 : Out (fun k => w.heap.size ≤ k) w w1 := (Out.of_grown g1 _).trans ho1 (fun x hx => Or.inl (by have := hx.eq; omega))
  obtain ⟨b1, rfl, hb1'⟩ : ∃ b1, p1 = some ⟨b1, 0, none⟩ ∧ w.heap.size ≤ b1 := by
    rcases hp1 with e | e
    · exact ⟨_, e, Nat.le_refl _⟩
    · exact ⟨_, e, by rw [nblk_alloc]; omega⟩
  obtain ⟨_, hBi, _, ci1, _, _⟩ := (h.out o1 fun x hx => by have := hx.eq; omega).opens (by omega)
  cases hBi
  rw [Nat.zero_add] at hr1 hv1
  obtain ⟨p2, c2, w2, hr2, hv2, ho2, hp2⟩ := run_append_more (P := P) ty2 ht hinfo hzs hv1 (ad := ad) (m := n - (k + 1)) (cx := c - (k + 1)) (g := fun j => f ((k + 1) * s + j)) (fun j hj => by
    have hlt : k + 1 < n := by
      rcases Nat.lt_or_ge (k + 1) n with q | q
      · exact q
      · rw [show n - (k + 1) = 0 by omega] at hj; omega
    rw [had hlt, add0]
    exact ci1 _ (by omega)) (fun j hj => h1 _ (by omega)) (by rw [hn1]; omega) (by omega)
  have o2 : Out (fun k => w.heap.size ≤ k) w w2 := o1.trans ho2 (fun x hx => Or.inl (by have := hx.eq; omega))
  rw [hn1] at hr2 hv2
  refine ⟨b1, c1, w1, p2, c2, w2, hr1, hr2, o2.grown (Grown.refl w) fun _ h => h, hv2.congr fun j hj => ?_, fun x hx => ?_⟩
  · simp only [Nat.zero_mul, Nat.not_lt_zero, if_false, Nat.sub_zero]
    by_cases q : j < k * s
    · rw [if_pos q, if_pos q]
    · rw [if_neg q, if_neg q]
      congr 1
      rw [Nat.add_mul]
      omega
  · rcases hp2 with e | e
    · rw [e] at hx; have := hx.eq; omega
    · rw [e] at hx; have := hx.eq; have := o1.size; omega
theorem cut_len {α : Type} {z : List α} {k : Nat} (hk : k < z.length) : (z.take k ++ z.drop (k + 1)).length = z.length - 1 := by
  rw [List.length_append, List.length_take, List.length_drop]; omega
set_option maxRecDepth 4000 in
theorem cut_s {B k : Nat} {z : List Int} (ty ty2 : TypeId) (h : Apt W w l) (hi : l[i]? = some (obV (some ⟨B, 0, none⟩) c z)) (hk : k < z.length) (hz : z.length ≤ 1000000) {ad : Addr} (had : k + 1 < z.length → ad = ⟨B, k + 1, none⟩) :
    ∃ b1 c1 w1 p2 c2 w2, (Builtin.append_ #[39, 39] ty #[.slice (some ⟨w.heap.size, 0, none⟩) 0 0, .slice (some ⟨B, 0, none⟩) k c]).run Try.prog (w.alloc (.cells #[] 3)) = .ok (.slice (some ⟨b1, 0, none⟩) k c1) w1 ∧
      (Builtin.append_ #[39, 39] ty2 #[.slice (some ⟨b1, 0, none⟩) k c1, .slice (some ad) (z.length - (k + 1)) (c - (k + 1))]).run Try.prog w1 = .ok (.slice p2 (z.length - 1) c2) w2 ∧ Hid (Apt W w2 (l.set i (obV p2 c2 (z.take k ++ z.drop (k + 1))))) := by
  have hv : Vec w 3 1 (some ⟨B, 0, none⟩) z.length c (ivL z) := h.all i _ hi
  obtain ⟨b1, c1, w1, p2, c2, w2, r1, r2, g, v, hp⟩ := cut_vec (P := Try.prog) ty ty2 Try.underlying39 infoN rfl hv hk (fun _ _ => rfl) (by omega) (by omega) (ad := ad) (fun q => by rw [had q, Nat.mul_one])
  refine ⟨b1, c1, w1, p2, c2, w2, r1, r2, h.upd hi ?_ ⟨Out.of_grown g _, fun x hx => .inr (hp x hx)⟩⟩
  show Vec w2 3 1 p2 (z.take k ++ z.drop (k + 1)).length c2 (ivL (z.take k ++ z.drop (k + 1)))
  rw [cut_len hk]
  refine v.congr fun j hj => ?_
  rw [Nat.mul_one]
  by_cases q : j < k
  · rw [if_pos q]
    show Value.int .i64 (z.getD j 0) = Value.int .i64 ((z.take k ++ z.drop (k + 1)).getD j 0)
    rw [List.getD_eq_getElem?_getD, List.getD_eq_getElem?_getD, List.getElem?_append_left (by rw [List.length_take]; omega), List.getElem?_take_of_lt q]
  · rw [if_neg q]
    show Value.int .i64 (z.getD (1 + j) 0) = Value.int .i64 ((z.take k ++ z.drop (k + 1)).getD j 0)
    rw [List.getD_eq_getElem?_getD, List.getD_eq_getElem?_getD, List.getElem?_append_right (by rw [List.length_take]; omega), List.length_take, List.getElem?_drop, show k + 1 + (j - min k z.length) = 1 + j by omega]
/-- What a walk over the first j has found. -/
def aj (J j : Nat) : Int := if j ≤ J then -1 else (J : Int)
theorem aj_0 (J : Nat) : aj J 0 = -1 := by unfold aj; rw [if_pos (Nat.zero_le _)]
theorem aj_ne {J j : Nat} (h : j ≠ J) : aj J (j + 1) = aj J j := by
  unfold aj
  by_cases q : j ≤ J
  · rw [if_pos q, if_pos (by omega)]
  · rw [if_neg q, if_neg (by omega)]
theorem aj_eq (J : Nat) : aj J (J + 1) = (J : Int) := by unfold aj; rw [if_neg (by omega)]
theorem aj_in {J n : Nat} (h : J < n) : aj J n = (J : Int) := by unfold aj; rw [if_neg (by omega)]
theorem aj_out {J n : Nat} (h : ¬ J < n) : aj J n = -1 := by unfold aj; rw [if_pos (by omega)]
/-- The cells of an entry in a row of entries. -/
theorem en_cell {B n : Nat} (hv : Vec w 30 4 (some ⟨B, 0, none⟩) n c (enL q)) (hn : j < n) (hj : q[j]? = some r) : w.cell? ⟨B, j * 4, none⟩ = some (.int .i64 r.k) ∧ w.cell? ⟨B, j * 4 + 1, none⟩ = some (.int .i64 r.a) ∧ w.cell? ⟨B, j * 4 + 2, none⟩ = some (.int .i64 r.x) ∧ w.cell? ⟨B, j * 4 + 3, none⟩ = some (.int .i64 r.n) := by
  obtain ⟨_, e, _, hA, _, _⟩ := hv.opens (by omega)
  cases e
  have at4 : ∀ i, i < 4 → enL q (j * 4 + i) = (cs r).getD i undef := fun i hi => by
    unfold enL
    rw [show (j * 4 + i) / 4 = j by omega, show (j * 4 + i) % 4 = i by omega, show q.getD j e0 = r by simp [List.getD_eq_getElem?_getD, hj]]
  exact ⟨(hA (j * 4) (by omega)).trans (congrArg some (at4 0 (by omega))), (hA (j * 4 + 1) (by omega)).trans (congrArg some (at4 1 (by omega))), (hA (j * 4 + 2) (by omega)).trans (congrArg some (at4 2 (by omega))), (hA (j * 4 + 3) (by omega)).trans (congrArg some (at4 3 (by omega)))⟩
theorem en_cells {a b : En} (h : Apt W w l) (hi : l[i]? = some (obE p c q)) (ha : q[j]? = some a) (hb : q[j + 1]? = some b) : ∃ B, p = some ⟨B, 0, none⟩ ∧ B < w.heap.size ∧ w.cell? ⟨B, j * 4, none⟩ = some (.int .i64 a.k) ∧ w.cell? ⟨B, (j + 1) * 4, none⟩ = some (.int .i64 b.k) := by
  have h1 := (List.getElem?_eq_some_iff.1 hb).1
  have hv : Vec w 30 4 p q.length c (enL q) := h.all i _ hi
  obtain ⟨B, rfl, lB, _, _, _⟩ := hv.opens (by omega)
  exact ⟨B, rfl, lB, (en_cell hv (by omega) ha).1, (en_cell hv h1 hb).1⟩
theorem up_w (J : Nat) (h : J ≤ 1000000) : wrap64 ((J : Int) + 1) = ((J + 1 : Nat) : Int) := by
  rw [IntWalk.wrap64_in _ ⟨by omega, by omega⟩]
  omega
theorem up_i (J : Nat) (h : J ≤ 1000000) : IntKind.i64.wrap ((J : Int) + 1) = ((J + 1 : Nat) : Int) := by
  simp [IntKind.wrap, IntKind.signed, IntKind.bits]
  omega
end Go.Proofs.Ythjcdloaclailaa.Tb
