/-
  What becomes of a table: an entry laid over another, an entry that comes, one that goes, twice as many buckets. No condition but those told at each sentence.
-/
import Derived.Test.YthjcdloaclailaaTbMove
namespace Go.Proofs.Ythjcdloaclailaa.Tb
open Go.RowKit Go.Deep Us
variable {w w' : World} {t : Tab} {key : Int} {l : List Lk} {x : Lk} {r : List Lk} {X B : Nat} {s : Int} {n m : Nat} {D : List Lk} {val : Addr → Value} {a : Addr} {e : En}

def rep (L : Nat) (e : En) (y : Lk) : Lk := if y.1 = L then (y.1, e) else y
theorem rep_fst (L : Nat) (e : En) (y : Lk) : (rep L e y).1 = y.1 := by unfold rep; split <;> rfl
theorem linked_map {f : Lk → Lk} (hf : ∀ y, (f y).1 = y.1) : ∀ (l : List Lk) (p : Addr), Linked val p (l.map f) ↔ Linked val p l
  | [], _ => Iff.rfl
  | y :: r, p => by simp only [List.map_cons, Linked, hf, linked_map hf r]
theorem map_fst {f : Lk → Lk} (hf : ∀ y, (f y).1 = y.1) (l : List Lk) : (l.map f).map (·.1) = l.map (·.1) := by
  rw [List.map_map]; exact List.map_congr_left fun y _ => hf y
def Tab.rep (t : Tab) (L : Nat) (e : En) : Tab := { t with D := t.D.map (Tb.rep L e), c := fun j => (t.c j).map (Tb.rep L e) }
theorem rep_key (hs : (D.map (·.1)).Nodup) (hx : x ∈ D) (he : e.k = x.2.k) : ∀ y ∈ D, (rep x.1 e y).2.k = y.2.k := fun y hy => by
  unfold rep
  split
  · rename_i h
    rw [nodup_same hs hy hx h]; exact he
  · rfl
theorem Shape.rep (h : Shape t) (hn : (t.D.map (·.1)).Nodup) (hx : x ∈ t.D) (he : e.k = x.2.k) : Shape (t.rep x.1 e) := by
  have hk := rep_key hn hx he
  refine ⟨fun j hj => (linked_map (rep_fst _ _) _ _).2 (h.link j hj), fun j hj y hy => ?_, fun y hy => ?_, fun j hj => ?_, ?_, h.ev, h.lo, h.hi, h.le⟩
  · obtain ⟨z, hz, rfl⟩ := List.mem_map.1 hy
    obtain ⟨h1, h2⟩ := h.mem j hj z hz
    exact ⟨List.mem_map_of_mem h1, by show Tb.pl t.s t.n t.l _ = j; rw [hk z h1]; exact h2⟩
  · obtain ⟨z, hz, rfl⟩ := List.mem_map.1 hy
    show _ ∈ (t.c (Tb.pl t.s t.n t.l _)).map _
    rw [hk z hz]
    exact List.mem_map_of_mem (h.all z hz)
  · show (((t.c j).map (Tb.rep x.1 e)).map (·.1)).Nodup
    rw [map_fst (rep_fst _ _)]
    exact h.nod j hj
  · show ((t.D.map (Tb.rep x.1 e)).map (·.2.k)).Nodup
    rw [List.map_map, show t.D.map ((fun y : Lk => y.2.k) ∘ Tb.rep x.1 e) = t.D.map (·.2.k) from List.map_congr_left fun y hy => hk y hy]
    exact h.keys
/-- One that comes. -/
def Tab.add (t : Tab) (L : Nat) (e : En) : Tab :=
  { t with D := t.D ++ [(L, e)], c := fun j => if j = t.pl e.k then t.c j ++ [(L, e)] else t.c j, val := upd (upd t.val (t.a e.k) (.pointer (some ⟨L, 0, none⟩))) ⟨L, 4, none⟩ (.pointer none) }
theorem a_cases (t : Tab) (key : Int) : t.a key = ⟨t.B, t.pl key, none⟩ ∨ ∃ y ∈ ahd key (t.ch key), t.a key = ⟨y.1, 4, none⟩ := by
  rcases endA_at (ahd key (t.ch key)) ⟨t.B, t.pl key, none⟩ with ⟨e, _⟩ | h
  · exact .inl e
  · exact .inr h
/-- Chains but a key's own have no such place. -/
theorem Shape.other (h : Shape t) (hn : (t.D.map (·.1)).Nodup) (sep : ∀ y ∈ t.D, y.1 ≠ t.B) {j : Nat} (hj : j < t.n) (hne : j ≠ t.pl key) : (⟨t.B, j, none⟩ : Addr) ≠ t.a key ∧ ∀ y ∈ t.c j, (⟨y.1, 4, none⟩ : Addr) ≠ t.a key := by
  have mD : ∀ y ∈ ahd key (t.ch key), y ∈ t.c (t.pl key) := fun y hy => by
    show y ∈ t.ch key
    rw [← ahd_rst key (t.ch key)]; simp [hy]
  constructor
  · intro e
    rcases a_cases t key with q | ⟨y, hy, q⟩
    · exact hne (congrArg Addr.off (e.trans q))
    · exact sep y (h.mem _ (h.pl_lt key) y (mD y hy)).1 (congrArg Addr.block (e.trans q)).symm
  · intro y hy e
    obtain ⟨h1, h2⟩ := h.mem j hj y hy
    rcases a_cases t key with q | ⟨z, hz, q⟩
    · exact sep y h1 (congrArg Addr.block (e.trans q))
    · obtain ⟨g1, g2⟩ := h.mem _ (h.pl_lt key) z (mD z hz)
      have := nodup_same hn h1 g1 (congrArg Addr.block (e.trans q))
      subst this
      exact hne (h2.symm.trans g2)
theorem ahd_nodup (h : Shape t) (key : Int) : ((ahd key (t.ch key)).map (·.1)).Nodup := by
  have := h.nod _ (h.pl_lt key)
  rw [show t.c (t.pl key) = t.ch key from rfl, ← ahd_rst key (t.ch key), List.map_append, List.nodup_append] at this
  exact this.1
theorem Shape.add (h : Shape t) (hn : (t.D.map (·.1)).Nodup) (sep : ∀ y ∈ t.D, y.1 ≠ t.B) {L : Nat} (hL : ∀ y ∈ t.D, y.1 ≠ L) (hB : L ≠ t.B) (he : ∀ y ∈ t.D, y.2.k ≠ e.k) : Shape (t.add L e) := by
  have hr := h.rst_nil he
  have hc : ahd e.k (t.ch e.k) = t.ch e.k := by have := ahd_rst e.k (t.ch e.k); rw [hr, List.append_nil] at this; exact this
  have hpl := h.pl_lt e.k
  have hD : ∀ j, j < t.n → ∀ y ∈ t.c j, y ∈ t.D := fun j hj y hy => (h.mem j hj y hy).1
  have aL : t.a e.k ≠ ⟨L, 4, none⟩ := fun q => by
    rcases a_cases t e.k with q2 | ⟨y, hy, q2⟩
    · exact hB (congrArg Addr.block (q2.symm.trans q)).symm
    · rw [hc] at hy
      exact hL y (hD _ hpl y hy) (congrArg Addr.block (q2.symm.trans q))
  have nL : ∀ j, j < t.n → ∀ y ∈ t.c j, (⟨y.1, 4, none⟩ : Addr) ≠ ⟨L, 4, none⟩ := fun j hj y hy q => hL y (hD j hj y hy) (congrArg Addr.block q)
  have bL : ∀ j, (⟨t.B, j, none⟩ : Addr) ≠ ⟨L, 4, none⟩ := fun j q => hB (congrArg Addr.block q).symm
  refine ⟨fun j hj => ?_, fun j hj y hy => ?_, fun y hy => ?_, fun j hj => ?_, ?_, h.ev, h.lo, h.hi, h.le⟩
  · show Linked (upd (upd t.val (t.a e.k) (.pointer (some ⟨L, 0, none⟩))) ⟨L, 4, none⟩ (.pointer none)) ⟨t.B, j, none⟩ (if j = t.pl e.k then t.c j ++ [(L, e)] else t.c j)
    by_cases ej : j = t.pl e.k
    · rw [if_pos ej, ej]
      have hl := h.link _ hpl
      have hsg : Seg t.val ⟨t.B, t.pl e.k, none⟩ (t.c (t.pl e.k)) := by
        have := (linked_app (val := t.val) (t.c (t.pl e.k)) [] ⟨t.B, t.pl e.k, none⟩).1 (by rw [List.append_nil]; exact hl)
        exact this.1
      have ha : t.a e.k = endA ⟨t.B, t.pl e.k, none⟩ (t.c (t.pl e.k)) := by
        unfold Tab.a; rw [hc]; rfl
      rw [linked_app]
      refine ⟨seg_congr _ _ (upd_ne (bL _)) (fun y hy => upd_ne (nL _ hpl y hy)) ?_, ?_⟩
      · rw [ha]
        refine seg_end _ _ _ (fun y hy q => sep y (hD _ hpl y hy) (congrArg Addr.block q).symm) (h.nod _ hpl) hsg
      · rw [← ha]
        exact ⟨by rw [upd_ne aL, upd_self], upd_self _ _ _⟩
    · rw [if_neg ej]
      obtain ⟨o1, o2⟩ := h.other hn sep hj ej
      exact linked_congr _ _ (by rw [upd_ne (bL j), upd_ne o1]) (fun y hy => by rw [upd_ne (nL j hj y hy), upd_ne (o2 y hy)]) (h.link j hj)
  · have hy : y ∈ (if j = t.pl e.k then t.c j ++ [(L, e)] else t.c j) := hy
    show y ∈ t.D ++ [(L, e)] ∧ Tb.pl t.s t.n t.l y.2.k = j
    by_cases ej : j = t.pl e.k
    · rw [if_pos ej] at hy
      rcases List.mem_append.1 hy with hy | hy
      · exact ⟨by simp [hD j hj y hy], (h.mem j hj y hy).2⟩
      · obtain rfl := List.mem_singleton.1 hy
        exact ⟨by simp, ej.symm⟩
    · rw [if_neg ej] at hy
      exact ⟨by simp [hD j hj y hy], (h.mem j hj y hy).2⟩
  · have hy : y ∈ t.D ++ [(L, e)] := hy
    show y ∈ (if Tb.pl t.s t.n t.l y.2.k = t.pl e.k then t.c (Tb.pl t.s t.n t.l y.2.k) ++ [(L, e)] else t.c (Tb.pl t.s t.n t.l y.2.k))
    rcases List.mem_append.1 hy with hy | hy
    · have := h.all y hy
      split
      · simp [this]
      · exact this
    · obtain rfl := List.mem_singleton.1 hy
      rw [if_pos (show Tb.pl t.s t.n t.l e.k = t.pl e.k from rfl)]; simp
  · show ((if j = t.pl e.k then t.c j ++ [(L, e)] else t.c j).map (·.1)).Nodup
    split
    · rw [List.map_append, List.nodup_append]
      refine ⟨h.nod j hj, by simp, fun p hp q hq => ?_⟩
      obtain ⟨y, hy, rfl⟩ := List.mem_map.1 hp
      simp at hq
      rw [hq]
      exact hL y (hD j hj y hy)
    · exact h.nod j hj
  · show ((t.D ++ [(L, e)]).map (·.2.k)).Nodup
    rw [List.map_append, List.nodup_append]
    refine ⟨h.keys, by simp, fun p hp q hq => ?_⟩
    obtain ⟨y, hy, rfl⟩ := List.mem_map.1 hp
    simp at hq
    rw [hq]
    exact he y hy
/-- One that goes. -/
def Tab.del (t : Tab) (key : Int) : Tab :=
  { t with D := t.D.filter fun y => decide (y.2.k ≠ key), c := fun j => if j = t.pl key then ahd key (t.c j) ++ (rst key (t.c j)).tail else t.c j, val := upd t.val (t.a key) (nx (rst key (t.ch key)).tail) }
theorem Shape.del (h : Shape t) (hn : (t.D.map (·.1)).Nodup) (sep : ∀ y ∈ t.D, y.1 ≠ t.B) (hr : rst key (t.ch key) = x :: r) : Shape (t.del key) := by
  have hpl := h.pl_lt key
  have hsp : t.c (t.pl key) = ahd key (t.ch key) ++ x :: r := by rw [← hr]; exact (ahd_rst key (t.ch key)).symm
  obtain ⟨xD, xk⟩ := h.rst_mem hr
  have hnd := h.nod _ hpl
  rw [hsp, List.map_append, List.nodup_append] at hnd
  obtain ⟨n1, n2, n3⟩ := hnd
  simp only [List.map_cons, List.nodup_cons] at n2
  have hD : ∀ j, j < t.n → ∀ y ∈ t.c j, y ∈ t.D := fun j hj y hy => (h.mem j hj y hy).1
  have aD : ∀ y ∈ ahd key (t.ch key), y ∈ t.D := fun y hy => hD _ hpl y (by rw [hsp]; simp [hy])
  have rD : ∀ y ∈ r, y ∈ t.D := fun y hy => hD _ hpl y (by rw [hsp]; simp [hy])
  have rk : ∀ y ∈ r, y.2.k ≠ key := fun y hy q => n2.1 (by
    rw [← h.key_one (rD y hy) xD (q.trans xk.symm)]
    exact List.mem_map_of_mem hy)
  have hch : t.c (t.pl key) = t.ch key := rfl
  refine ⟨fun j hj => ?_, fun j hj y hy => ?_, fun y hy => ?_, fun j hj => ?_, ?_, h.ev, h.lo, h.hi, h.le⟩
  · show Linked (upd t.val (t.a key) (nx (rst key (t.ch key)).tail)) ⟨t.B, j, none⟩ (if j = t.pl key then ahd key (t.c j) ++ (rst key (t.c j)).tail else t.c j)
    by_cases ej : j = t.pl key
    · rw [if_pos ej, ej, hch, hr, List.tail_cons]
      have hl := h.link _ hpl
      rw [hsp, linked_app] at hl
      obtain ⟨l1, l2, l3⟩ := hl
      rw [linked_app]
      have ha : t.a key = endA ⟨t.B, t.pl key, none⟩ (ahd key (t.ch key)) := rfl
      refine ⟨by rw [ha]; exact seg_end _ _ _ (fun y hy q => sep y (aD y hy) (congrArg Addr.block q).symm) n1 l1, ?_⟩
      rw [← ha]
      have hra : ∀ y ∈ r, (⟨y.1, 4, none⟩ : Addr) ≠ t.a key := fun y hy q => by
        rcases a_cases t key with q2 | ⟨z, hz, q2⟩
        · exact sep y (rD y hy) (congrArg Addr.block (q.trans q2))
        · exact n3 z.1 (List.mem_map_of_mem hz) y.1 (List.mem_map_of_mem (by simp [hy])) (congrArg Addr.block (q.trans q2)).symm
      cases r with
      | nil => exact upd_self _ _ _
      | cons y q => exact ⟨upd_self _ _ _, linked_congr _ _ (upd_ne (hra y (by simp))) (fun z hz => upd_ne (hra z (by simp [hz]))) l3.2⟩
    · rw [if_neg ej]
      obtain ⟨o1, o2⟩ := h.other hn sep hj ej
      exact linked_congr _ _ (upd_ne o1) (fun y hy => upd_ne (o2 y hy)) (h.link j hj)
  · have hy : y ∈ (if j = t.pl key then ahd key (t.c j) ++ (rst key (t.c j)).tail else t.c j) := hy
    show y ∈ t.D.filter (fun y => decide (y.2.k ≠ key)) ∧ Tb.pl t.s t.n t.l y.2.k = j
    rw [List.mem_filter, decide_eq_true_eq]
    by_cases ej : j = t.pl key
    · rw [if_pos ej, ej, hch, hr, List.tail_cons] at hy
      rcases List.mem_append.1 hy with hy | hy
      · exact ⟨⟨aD y hy, ahd_ne y hy⟩, by rw [ej]; exact (h.mem _ hpl y (by rw [hsp]; simp [hy])).2⟩
      · exact ⟨⟨rD y hy, rk y hy⟩, by rw [ej]; exact (h.mem _ hpl y (by rw [hsp]; simp [hy])).2⟩
    · rw [if_neg ej] at hy
      obtain ⟨g1, g2⟩ := h.mem j hj y hy
      exact ⟨⟨g1, fun q => ej (by rw [← g2, q]; rfl)⟩, g2⟩
  · have hy : y ∈ t.D.filter (fun y => decide (y.2.k ≠ key)) := hy
    rw [List.mem_filter, decide_eq_true_eq] at hy
    have h1 := h.all y hy.1
    show y ∈ (if Tb.pl t.s t.n t.l y.2.k = t.pl key then ahd key (t.c (Tb.pl t.s t.n t.l y.2.k)) ++ (rst key (t.c (Tb.pl t.s t.n t.l y.2.k))).tail else t.c (Tb.pl t.s t.n t.l y.2.k))
    by_cases ej : Tb.pl t.s t.n t.l y.2.k = t.pl key
    · rw [if_pos ej]
      rw [ej] at h1 ⊢
      rw [hch, hr, List.tail_cons]
      rw [hsp] at h1
      rcases List.mem_append.1 h1 with q | q
      · simp [q]
      · rcases List.mem_cons.1 q with q | q
        · rw [q] at hy; exact absurd xk hy.2
        · simp [q]
    · rw [if_neg ej]; exact h1
  · show ((if j = t.pl key then ahd key (t.c j) ++ (rst key (t.c j)).tail else t.c j).map (·.1)).Nodup
    split
    · rename_i ej
      rw [ej, hch, hr, List.tail_cons, List.map_append, List.nodup_append]
      exact ⟨n1, n2.2, fun p hp q hq => n3 p hp q (by simp at hq ⊢; exact .inr hq)⟩
    · exact h.nod j hj
  · exact (List.filter_sublist.map _).nodup h.keys
/-- Twice as many buckets. -/
def Tab.grw (t : Tab) (B' : Nat) : Tab :=
  { t with B := B', n := 2 * t.n, l := t.n, c := fun j => if j < t.n then t.c j else [], val := fun a => if a.block = B' then (if a.off < t.n then t.val ⟨t.B, a.off, none⟩ else .pointer none) else t.val a }
theorem pl_grow {s k : Int} {n : Nat} (h8 : 8 ≤ n) : Tb.pl s (2 * n) n k = Tb.pl s n 0 k := by
  have h3 : ub s k % (n / 2) < n / 2 := Nat.mod_lt _ (by omega)
  have e : 2 * n / 2 = n := by omega
  unfold Tb.pl
  rw [e, if_pos (by omega), if_neg (by omega)]
theorem Shape.grw (h : Shape t) (h0 : t.l = 0) (hm : t.n < 65536) {B' : Nat} (hB : ∀ y ∈ t.D, y.1 ≠ B') : Shape (t.grw B') := by
  have hp : ∀ k, Tb.pl t.s (2 * t.n) t.n k = Tb.pl t.s t.n t.l k := fun k => by rw [h0]; exact pl_grow h.lo
  have h8 := h.lo
  refine ⟨fun j hj => ?_, fun j hj y hy => ?_, fun y hy => ?_, fun j hj => ?_, h.keys, by show 2 * t.n % 2 = 0; omega, by show 8 ≤ 2 * t.n; omega, by show 2 * t.n ≤ 131072; omega, by show t.n ≤ 2 * t.n / 2; omega⟩
  · show Linked _ ⟨B', j, none⟩ (if j < t.n then t.c j else [])
    by_cases e : j < t.n
    · rw [if_pos e]
      have hl := h.link j e
      have key : ∀ (l : List Lk) (p p' : Addr), (∀ y ∈ l, y.1 ≠ B') → (t.grw B').val p' = t.val p → Linked t.val p l → Linked (t.grw B').val p' l := fun l => by
        induction l with
        | nil => intro p p' _ hp hl; exact hp.trans hl
        | cons y q ih =>
          intro p p' hy hp hl
          refine ⟨hp.trans hl.1, ih _ _ (fun z hz => hy z (by simp [hz])) ?_ hl.2⟩
          show (if y.1 = B' then _ else _) = _
          rw [if_neg (hy y (by simp))]
      refine key _ _ _ (fun y hy => hB y (h.mem j e y hy).1) ?_ hl
      show (if B' = B' then (if j < t.n then _ else _) else _) = _
      rw [if_pos rfl, if_pos e]
    · rw [if_neg e]
      show (if B' = B' then (if j < t.n then _ else _) else _) = _
      rw [if_pos rfl, if_neg e]
  · have hy : y ∈ (if j < t.n then t.c j else []) := hy
    split at hy
    · rename_i e
      obtain ⟨g1, g2⟩ := h.mem j e y hy
      exact ⟨g1, (hp _).trans g2⟩
    · cases hy
  · show y ∈ (if Tb.pl t.s (2 * t.n) t.n y.2.k < t.n then t.c (Tb.pl t.s (2 * t.n) t.n y.2.k) else [])
    rw [hp, if_pos (show Tb.pl t.s t.n t.l y.2.k < t.n from h.pl_lt _)]
    exact h.all y hy
  · show ((if j < t.n then t.c j else []).map (·.1)).Nodup
    split
    · rename_i e; exact h.nod j e
    · simp
end Go.Proofs.Ythjcdloaclailaa.Tb
