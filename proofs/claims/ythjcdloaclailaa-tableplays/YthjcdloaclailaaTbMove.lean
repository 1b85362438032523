/-
  What moveFirst of package table does when it is called: the first old bucket that is left goes to two new ones. No condition but those told at each sentence.
-/
import Derived.Test.YthjcdloaclailaaTbGet
namespace Go.Proofs.Ythjcdloaclailaa.Tb
open Go.RowKit Go.Deep Us
variable {w w' : World} {t : Tab} {key : Int} {l : List Lk} {x : Lk} {r : List Lk}

/-- The first old bucket that is left. -/
def Tab.low (t : Tab) : Nat := t.n / 2 - t.l
def Tab.lo (t : Tab) (x : Lk) : Bool := decide (Tb.pl t.s t.n (t.l - 1) x.2.k = t.low)
def Tab.hi (t : Tab) (x : Lk) : Bool := !t.lo x
/-- The chains when it is moved. -/
def Tab.mvC (t : Tab) (j : Nat) : List Lk := if j = t.low then (t.c t.low).filter t.lo else if j = t.low + t.n / 2 then (t.c t.low).filter t.hi else t.c j
/-- What stands in the middle of a move: a is through, r is yet to come. -/
structure Mv (w W : World) (t : Tab) (v : Addr → Value) (a r : List Lk) : Prop where
  mem : Mem W t.X t.B t.s t.n (t.l - 1) t.D.length t.D v
  out : Out t.F w W
  lo : Seg v ⟨t.B, t.low, none⟩ (a.filter t.lo)
  hi : Seg v ⟨t.B, t.low + t.n / 2, none⟩ (a.filter t.hi)
  rest : ∀ x r', r = x :: r' → Linked v ⟨x.1, 4, none⟩ r'
  else_ : ∀ b, b ≠ ⟨t.B, t.low, none⟩ → b ≠ ⟨t.B, t.low + t.n / 2, none⟩ → (∀ x ∈ t.c t.low, b ≠ ⟨x.1, 4, none⟩) → v b = t.val b
theorem Mv.drewN {w W : World} {t : Tab} {v : Addr → Value} {a r : List Lk} (h : Mv w W t v a r) (k : Nat) : Mv w (W.drewN k) t v a r := ⟨h.mem.drewN k, h.out.drewN k, h.lo, h.hi, h.rest, h.else_⟩
theorem filter_at {B j n : Nat} {D a : List Lk} {f : Lk → Bool} (hj : j < n) (h : ∀ x ∈ a, x ∈ D) : At B n D (endA ⟨B, j, none⟩ (a.filter f)) := end_at hj fun x hx => h x (List.mem_filter.1 hx).1
/-- One link goes to the end of one of the two. -/
theorem mv_step {w W : World} {t : Tab} {v : Addr → Value} {a : List Lk} {x : Lk} {r : List Lk} (h : Mv w W t v a (x :: r)) (hs : Shape t) (hl : 0 < t.l) (hc : t.c t.low = a ++ x :: r) {f g : Lk → Bool} {j i : Nat} (hij : i ≠ j) (hj : j < t.n) (hf : Seg v ⟨t.B, j, none⟩ (a.filter f)) (hg : Seg v ⟨t.B, i, none⟩ (a.filter g))
    (hjl : j = t.low ∨ j = t.low + t.n / 2) (hfx : f x = true) (hgx : g x = false) (hsep : ∀ y ∈ a, f y = true → g y = false) :
    let A := endA ⟨t.B, j, none⟩ (a.filter f)
    let V := upd v A (.pointer (some ⟨x.1, 0, none⟩))
    Mem (W.setCell A (.pointer (some ⟨x.1, 0, none⟩))) t.X t.B t.s t.n (t.l - 1) t.D.length t.D V ∧ Out t.F w (W.setCell A (.pointer (some ⟨x.1, 0, none⟩))) ∧ Seg V ⟨t.B, j, none⟩ ((a ++ [x]).filter f) ∧ Seg V ⟨t.B, i, none⟩ ((a ++ [x]).filter g) ∧
      (∀ y r', r = y :: r' → Linked V ⟨y.1, 4, none⟩ r') ∧ (∀ b, b ≠ ⟨t.B, t.low, none⟩ → b ≠ ⟨t.B, t.low + t.n / 2, none⟩ → (∀ y ∈ t.c t.low, b ≠ ⟨y.1, 4, none⟩) → V b = t.val b) ∧ v ⟨x.1, 4, none⟩ = nx r ∧ A.block ≠ x.1 := by
  intro A V
  have hlow : t.low < t.n := by have := hs.lo; unfold Tab.low; omega
  have hD : ∀ y ∈ t.c t.low, y ∈ t.D := fun y hy => (hs.mem _ hlow y hy).1
  have hnd := hs.nod _ hlow
  rw [hc, List.map_append, List.nodup_append] at hnd
  obtain ⟨n1, n2, n3⟩ := hnd
  have sep : ∀ y ∈ a ++ x :: r, y.1 ≠ t.B := fun y hy => (h.mem.sep y (hD y (by rw [hc]; exact hy))).2
  have haD : ∀ y ∈ a, y ∈ t.D := fun y hy => hD y (by rw [hc]; simp [hy])
  have hA : At t.B t.n t.D A := filter_at hj haD
  have hAc : (A = ⟨t.B, j, none⟩) ∨ ∃ y ∈ a, f y = true ∧ A = ⟨y.1, 4, none⟩ := by
    rcases endA_at (a.filter f) ⟨t.B, j, none⟩ with ⟨e, _⟩ | ⟨y, hy, e⟩
    · exact .inl e
    · exact .inr ⟨y, (List.mem_filter.1 hy).1, (List.mem_filter.1 hy).2, e⟩
  have hAn : ∀ y ∈ x :: r, (⟨y.1, 4, none⟩ : Addr) ≠ A := fun y hy e => by
    rcases hAc with e2 | ⟨z, hz, _, e2⟩
    · exact sep y (List.mem_append_right _ hy) (congrArg Addr.block (e.trans e2))
    · exact n3 z.1 (List.mem_map_of_mem hz) y.1 (List.mem_map_of_mem hy) (congrArg Addr.block (e.trans e2)).symm
  have hend : A.block ≠ x.1 := fun e => by
    rcases hAc with e2 | ⟨z, hz, _, e2⟩
    · exact sep x (by simp) (e.symm.trans (congrArg Addr.block e2))
    · exact n3 z.1 (List.mem_map_of_mem hz) x.1 (List.mem_map_of_mem (by simp)) (e.symm.trans (congrArg Addr.block e2)).symm
  have hrest := h.rest x r rfl
  have sf : ((a.filter f).map (·.1)).Nodup := (List.filter_sublist.map _).nodup n1
  refine ⟨h.mem.set hA _, Mem.outW h.out hA _, ?_, ?_, ?_, ?_, ?_, hend⟩
  · rw [List.filter_append, seg_app]
    refine ⟨seg_end _ _ _ (fun y hy e => sep y (by simp [(List.mem_filter.1 hy).1]) (congrArg Addr.block e).symm) sf hf, ?_⟩
    rw [List.filter_cons, if_pos hfx]
    exact ⟨upd_self _ _ _, trivial⟩
  · rw [List.filter_append, List.filter_cons, hgx, seg_app]
    refine ⟨seg_congr _ _ (upd_ne fun e => ?_) (fun y hy => upd_ne fun e => ?_) hg, trivial⟩
    · rcases hAc with e2 | ⟨z, hz, _, e2⟩
      · exact hij (congrArg Addr.off (e.trans e2))
      · exact sep z (by simp [hz]) (congrArg Addr.block (e.trans e2)).symm
    · obtain ⟨hya, hyg⟩ := List.mem_filter.1 hy
      rcases hAc with e2 | ⟨z, hz, hzf, e2⟩
      · exact sep y (by simp [hya]) (congrArg Addr.block (e.trans e2))
      · have e3 : y.1 = z.1 := congrArg Addr.block (e.trans e2)
        have := nodup_same n1 hya hz e3
        subst this
        rw [hsep y hya hzf] at hyg
        cases hyg
  · intro y r' e
    subst e
    refine linked_congr _ _ (upd_ne (hAn y (by simp))) (fun z hz => upd_ne (hAn z (by simp [hz]))) hrest.2
  · intro b b1 b2 b3
    rw [show V b = v b from upd_ne fun e => ?_]
    · exact h.else_ b b1 b2 b3
    · rcases hAc with e2 | ⟨z, hz, _, e2⟩
      · rcases hjl with rfl | rfl
        · exact b1 (e.trans e2)
        · exact b2 (e.trans e2)
      · exact b3 z (by rw [hc]; simp [hz]) (e.trans e2)
  · exact linked_first hrest
theorem pl_move {s k : Int} {n l : Nat} (he : n % 2 = 0) (h8 : 8 ≤ n) (h0 : 0 < l) (hl : l ≤ n / 2) :
    (Tb.pl s n l k = n / 2 - l ∧ (Tb.pl s n (l - 1) k = n / 2 - l ∨ Tb.pl s n (l - 1) k = n / 2 - l + n / 2)) ∨ (Tb.pl s n l k ≠ n / 2 - l ∧ Tb.pl s n l k ≠ n / 2 - l + n / 2 ∧ Tb.pl s n (l - 1) k = Tb.pl s n l k) := by
  have h1 := ub_half s k he
  have h2 : ub s k % n < n := Nat.mod_lt _ (by omega)
  have h3 : ub s k % (n / 2) < n / 2 := Nat.mod_lt _ (by omega)
  unfold Tb.pl
  generalize ub s k % n = z at *
  generalize ub s k % (n / 2) = u at *
  have h4 : z = u ∨ z = u + n / 2 := by
    by_cases e : z < n / 2
    · rw [Nat.mod_eq_of_lt e] at h1; exact .inl h1
    · rw [Nat.mod_eq_sub_mod (by omega), Nat.mod_eq_of_lt (by omega)] at h1; exact .inr (by omega)
  split <;> split <;> omega
theorem linked_seg {val : Addr → Value} {l : List Lk} {p : Addr} (h : Seg val p l) (e : val (endA p l) = .pointer none) : Linked val p l := by
  have := (linked_app (val := val) l [] p).2 ⟨h, e⟩
  rwa [List.append_nil] at this
def Tab.mv (t : Tab) (v : Addr → Value) : Tab := { t with l := t.l - 1, val := v, c := t.mvC }
theorem mv_end {w W : World} {v : Addr → Value} (h : Mv w W t v (t.c t.low) []) (hs : Shape t) (hl : 0 < t.l) :
    let A1 := endA ⟨t.B, t.low, none⟩ ((t.c t.low).filter t.lo)
    let A2 := endA ⟨t.B, t.low + t.n / 2, none⟩ ((t.c t.low).filter t.hi)
    Tb ((W.setCell A1 (.pointer none)).setCell A2 (.pointer none)) (t.mv (upd (upd v A1 (.pointer none)) A2 (.pointer none))) ∧ Out t.F w ((W.setCell A1 (.pointer none)).setCell A2 (.pointer none)) ∧ At t.B t.n t.D A1 ∧ At t.B t.n t.D A2 := by
  intro A1 A2
  have h8 := hs.lo
  have hle := hs.le
  have hlow : t.low < t.n := by unfold Tab.low; omega
  have hhi : t.low + t.n / 2 < t.n := by unfold Tab.low; omega
  have hD : ∀ y ∈ t.c t.low, y ∈ t.D := fun y hy => (hs.mem _ hlow y hy).1
  have hA1 : At t.B t.n t.D A1 := filter_at hlow hD
  have hA2 : At t.B t.n t.D A2 := filter_at hhi hD
  have n1 := hs.nod _ hlow
  have sep : ∀ y ∈ t.D, y.1 ≠ t.B := fun y hy => (h.mem.sep y hy).2
  have c1 : (A1 = ⟨t.B, t.low, none⟩) ∨ ∃ y ∈ t.c t.low, t.lo y = true ∧ A1 = ⟨y.1, 4, none⟩ := by
    rcases endA_at ((t.c t.low).filter t.lo) ⟨t.B, t.low, none⟩ with ⟨e, _⟩ | ⟨y, hy, e⟩
    · exact .inl e
    · exact .inr ⟨y, (List.mem_filter.1 hy).1, (List.mem_filter.1 hy).2, e⟩
  have c2 : (A2 = ⟨t.B, t.low + t.n / 2, none⟩) ∨ ∃ y ∈ t.c t.low, t.hi y = true ∧ A2 = ⟨y.1, 4, none⟩ := by
    rcases endA_at ((t.c t.low).filter t.hi) ⟨t.B, t.low + t.n / 2, none⟩ with ⟨e, _⟩ | ⟨y, hy, e⟩
    · exact .inl e
    · exact .inr ⟨y, (List.mem_filter.1 hy).1, (List.mem_filter.1 hy).2, e⟩
  have sf : ∀ f : Lk → Bool, (((t.c t.low).filter f).map (·.1)).Nodup := fun f => (List.filter_sublist.map _).nodup n1
  have both : ∀ y, t.lo y = true → t.hi y = true → False := fun y e1 e2 => by unfold Tab.hi at e2; rw [e1] at e2; cases e2
  have r1 : ∀ j, j ≠ t.low → (⟨t.B, j, none⟩ : Addr) ≠ A1 := fun j hj e => by
    rcases c1 with e2 | ⟨z, hz, _, e2⟩
    · exact hj (congrArg Addr.off (e.trans e2))
    · exact sep z (hD z hz) (congrArg Addr.block (e.trans e2)).symm
  have r2 : ∀ j, j ≠ t.low + t.n / 2 → (⟨t.B, j, none⟩ : Addr) ≠ A2 := fun j hj e => by
    rcases c2 with e2 | ⟨z, hz, _, e2⟩
    · exact hj (congrArg Addr.off (e.trans e2))
    · exact sep z (hD z hz) (congrArg Addr.block (e.trans e2)).symm
  have k1 : ∀ y ∈ t.D, (y ∈ t.c t.low → t.hi y = true) → (⟨y.1, 4, none⟩ : Addr) ≠ A1 := fun y hy hyf e => by
    rcases c1 with e2 | ⟨z, hz, hzf, e2⟩
    · exact sep y hy (congrArg Addr.block (e.trans e2))
    · have := nodup_same h.mem.nd hy (hD z hz) (congrArg Addr.block (e.trans e2))
      subst this
      exact both _ hzf (hyf hz)
  have k2 : ∀ y ∈ t.D, (y ∈ t.c t.low → t.lo y = true) → (⟨y.1, 4, none⟩ : Addr) ≠ A2 := fun y hy hyf e => by
    rcases c2 with e2 | ⟨z, hz, hzf, e2⟩
    · exact sep y hy (congrArg Addr.block (e.trans e2))
    · have := nodup_same h.mem.nd hy (hD z hz) (congrArg Addr.block (e.trans e2))
      subst this
      exact both _ (hyf hz) hzf
  have pm := fun k => pl_move (s := t.s) (k := k) hs.ev h8 hl hle
  refine ⟨⟨(h.mem.set hA1 _).set hA2 _, ?_⟩, Mem.outW (Mem.outW h.out hA1 _) hA2 _, hA1, hA2⟩
  refine ⟨fun j hj => ?_, fun j hj x hx => ?_, fun x hx => ?_, fun j hj => ?_, hs.keys, hs.ev, h8, hs.hi, by show t.l - 1 ≤ t.n / 2; omega⟩
  · show Linked (upd (upd v A1 (.pointer none)) A2 (.pointer none)) ⟨t.B, j, none⟩ (t.mvC j)
    unfold Tab.mvC
    by_cases e1 : j = t.low
    · subst e1
      rw [if_pos rfl]
      refine linked_seg (seg_congr _ _ (upd_ne (r2 _ (by omega))) (fun y hy => upd_ne ?_) (seg_end _ _ _ (fun y hy e => ?_) (sf _) h.lo)) ?_
      · exact k2 y (hD y (List.mem_filter.1 hy).1) fun _ => (List.mem_filter.1 hy).2
      · exact sep y (hD y (List.mem_filter.1 hy).1) (congrArg Addr.block e).symm
      · show upd (upd v A1 (.pointer none)) A2 (.pointer none) A1 = _
        unfold upd
        split
        · rfl
        · exact if_pos rfl
    · rw [if_neg e1]
      by_cases e2 : j = t.low + t.n / 2
      · rw [if_pos e2, e2]
        refine linked_seg (seg_end _ _ _ (fun y hy e => ?_) (sf _) (seg_congr _ _ (upd_ne (r1 _ (by omega))) (fun y hy => upd_ne ?_) h.hi)) (upd_self _ _ _)
        · exact sep y (hD y (List.mem_filter.1 hy).1) (congrArg Addr.block e).symm
        · exact k1 y (hD y (List.mem_filter.1 hy).1) fun _ => (List.mem_filter.1 hy).2
      · rw [if_neg e2]
        have no : ∀ y ∈ t.c j, y ∈ t.D ∧ y ∉ t.c t.low := fun y hy => ⟨(hs.mem j hj y hy).1, fun q => e1 ((hs.mem j hj y hy).2.symm.trans (hs.mem _ hlow y q).2)⟩
        refine linked_congr _ _ ?_ (fun y hy => ?_) (hs.link j hj)
        · rw [upd_ne (r2 j e2), upd_ne (r1 j e1)]
          exact h.else_ _ (fun e => e1 (congrArg Addr.off e)) (fun e => e2 (congrArg Addr.off e)) fun x hx e => sep x (hD x hx) (congrArg Addr.block e).symm
        · obtain ⟨y1, y2⟩ := no y hy
          rw [upd_ne (k2 y y1 fun q => absurd q y2), upd_ne (k1 y y1 fun q => absurd q y2)]
          refine h.else_ _ (fun e => sep y y1 (congrArg Addr.block e)) (fun e => sep y y1 (congrArg Addr.block e)) fun x hx e => y2 ?_
          rw [nodup_same h.mem.nd y1 (hD x hx) (congrArg Addr.block e)]
          exact hx
  · have hx : x ∈ t.mvC j := hx
    unfold Tab.mvC at hx
    show x ∈ t.D ∧ Tb.pl t.s t.n (t.l - 1) x.2.k = j
    by_cases e1 : j = t.low
    · subst e1
      rw [if_pos rfl] at hx
      exact ⟨hD x (List.mem_filter.1 hx).1, of_decide_eq_true (List.mem_filter.1 hx).2⟩
    · rw [if_neg e1] at hx
      by_cases e2 : j = t.low + t.n / 2
      · rw [if_pos e2] at hx
        obtain ⟨h1, h2⟩ := List.mem_filter.1 hx
        have h3 := (hs.mem _ hlow x h1).2
        refine ⟨hD x h1, ?_⟩
        rcases pm x.2.k with ⟨_, q | q⟩ | ⟨q, _⟩
        · unfold Tab.hi Tab.lo at h2
          rw [decide_eq_true (show Tb.pl t.s t.n (t.l - 1) x.2.k = t.low from q)] at h2
          cases h2
        · rw [q, e2]; rfl
        · exact absurd h3 q
      · rw [if_neg e2] at hx
        obtain ⟨h1, h2⟩ := hs.mem j hj x hx
        refine ⟨h1, ?_⟩
        rcases pm x.2.k with ⟨q, _⟩ | ⟨_, _, q⟩
        · exact absurd (h2.symm.trans q) e1
        · rw [q, h2]
  · show x ∈ t.mvC (Tb.pl t.s t.n (t.l - 1) x.2.k)
    have h1 := hs.all x hx
    unfold Tab.mvC
    rcases pm x.2.k with ⟨q, q2⟩ | ⟨q1, q2, q3⟩
    · have h1 : x ∈ t.c t.low := by have := h1; rwa [show Tb.pl t.s t.n t.l x.2.k = t.low from q] at this
      rcases q2 with q2 | q2
      · rw [if_pos (show _ = t.low from q2)]
        exact List.mem_filter.2 ⟨h1, decide_eq_true q2⟩
      · have q4 : Tb.pl t.s t.n (t.l - 1) x.2.k = t.low + t.n / 2 := q2
        have q5 : Tb.pl t.s t.n (t.l - 1) x.2.k ≠ t.low := by rw [q4]; omega
        rw [if_neg q5, if_pos q4]
        exact List.mem_filter.2 ⟨h1, by unfold Tab.hi Tab.lo; rw [decide_eq_false q5]; rfl⟩
    · rw [q3, if_neg (show _ ≠ t.low from q1), if_neg (show _ ≠ t.low + t.n / 2 from q2)]
      exact h1
  · show ((t.mvC j).map (·.1)).Nodup
    unfold Tab.mvC
    split
    · exact sf _
    · split
      · exact sf _
      · exact hs.nod j hj
end Go.Proofs.Ythjcdloaclailaa.Tb
