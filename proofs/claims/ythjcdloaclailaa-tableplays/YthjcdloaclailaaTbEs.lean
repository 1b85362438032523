/-
  What a table holds, as a row of entries: what each call makes of it. No condition but those told at each sentence.
-/
import Derived.Test.YthjcdloaclailaaTbAll
namespace Go.Proofs.Ythjcdloaclailaa.Tb
open Go.RowKit Go.Deep Us
variable {W w w' : World} {t t' : Tab} {key : Int} {e y : En} {l : List Ob} {i X : Nat}

def Tab.es (t : Tab) : List En := t.D.map (·.2)
def ovr (e y : En) : En := if y.k = e.k then e else y
def dlt (key : Int) (q : List En) : List En := q.filter fun y => decide (y.k ≠ key)
/-- How many buckets, and old ones left, behind one that came: m others were there. -/
def nN (n l m : Nat) : Nat := if l - 1 = 0 ∧ n < m + 1 ∧ n < 65536 then 2 * n else n
def lN (n l m : Nat) : Nat := if l - 1 = 0 ∧ n < m + 1 ∧ n < 65536 then n else l - 1
structure Turn (t t' : Tab) (q : List En) (n l : Nat) : Prop where
  es : t'.es = q
  n : t'.n = n
  l : t'.l = l
  s : t'.s = t.s
  X : t'.X = t.X
theorem es_len (t : Tab) : t.D.length = t.es.length := by simp [Tab.es]
theorem es_mem (h : y ∈ t.es) : ∃ x ∈ t.D, x.2 = y := List.mem_map.1 h
theorem es_no (h : ∀ y ∈ t.es, y.k ≠ key) : ∀ x ∈ t.D, x.2.k ≠ key := fun x hx => h x.2 (List.mem_map_of_mem hx)
theorem es_keys (h : Shape t) : (t.es.map (·.k)).Nodup := by
  unfold Tab.es
  rw [List.map_map]
  exact h.keys
theorem rep_es (h : Shape t) (hn : (t.D.map (·.1)).Nodup) {x : Lk} (hx : x ∈ t.D) (hk : x.2.k = e.k) (v : Addr → Value) : Turn t ((t.nxt v).rep x.1 e) (t.es.map (ovr e)) t.n (t.l - 1) := by
  refine ⟨?_, rfl, rfl, rfl, rfl⟩
  show (t.D.map (rep x.1 e)).map (·.2) = (t.D.map (·.2)).map (ovr e)
  rw [List.map_map, List.map_map]
  refine List.map_congr_left fun z hz => ?_
  show (rep x.1 e z).2 = ovr e z.2
  unfold rep ovr
  by_cases q : z.1 = x.1
  · have := nodup_same hn hz hx q
    subst this
    rw [if_pos rfl, if_pos hk]
  · rw [if_neg q, if_neg (fun q2 => q (by rw [h.key_one hz hx (q2.trans hk.symm)]))]
theorem came_es (h : Came t e t') : Turn t t' (t.es ++ [e]) (nN t.n t.l t.es.length) (lN t.n t.l t.es.length) := by
  obtain ⟨v, L, h⟩ := h
  have e1 : ((t.nxt v).add L e).l = t.l - 1 := rfl
  rw [e1, es_len] at h
  unfold nN lN
  rcases h with ⟨q1, q2, q3, B', rfl⟩ | ⟨q, rfl⟩
  · rw [if_pos ⟨q1, q2, q3⟩, if_pos ⟨q1, q2, q3⟩]
    exact ⟨by show (t.D ++ [(L, e)]).map (·.2) = _; rw [List.map_append]; rfl, rfl, rfl, rfl, rfl⟩
  · rw [if_neg q, if_neg q]
    exact ⟨by show (t.D ++ [(L, e)]).map (·.2) = _; rw [List.map_append]; rfl, rfl, rfl, rfl, rfl⟩
theorem del_es (key : Int) (v : Addr → Value) : Turn t ((t.nxt v).del key) (dlt key t.es) t.n (t.l - 1) := by
  refine ⟨?_, rfl, rfl, rfl, rfl⟩
  show (t.D.filter fun y : Lk => decide (y.2.k ≠ key)).map (·.2) = (t.D.map (·.2)).filter _
  rw [List.filter_map]
  rfl
theorem nxt_es (v : Addr → Value) : Turn t (t.nxt v) t.es t.n (t.l - 1) := ⟨rfl, rfl, rfl, rfl, rfl⟩
theorem put_y (h : Apt W w l) (hi : l[i]? = some (obT t)) (hX : t.X = X) (hy : y ∈ t.es) (hk : y.k = e.k) : Calls Try.prog 12 #[.pointer (some ⟨X, 0, none⟩), e.v] w fun o w' => ∃ t', o = .returned (.tuple #[y.v, .bool true]) ∧ Apt W w' (l.set i (obT t')) ∧ Turn t t' (t.es.map (ovr e)) t.n (t.l - 1) := by
  subst hX
  obtain ⟨x, hx, rfl⟩ := es_mem hy
  have ht : Tb w t := h.all i _ hi
  refine (put_yes_s h hi hx hk).mono ?_
  rintro o w' ⟨v, rfl, h2⟩
  exact ⟨_, rfl, h2, rep_es ht.sh ht.mem.nd hx hk v⟩
theorem put_n (h : Apt W w l) (hi : l[i]? = some (obT t)) (hX : t.X = X) (hy : ∀ y ∈ t.es, y.k ≠ e.k) (hm : t.es.length ≤ 1000000) : Calls Try.prog 12 #[.pointer (some ⟨X, 0, none⟩), e.v] w fun o w' => ∃ t', o = .returned (.tuple #[e0.v, .bool false]) ∧ Apt W w' (l.set i (obT t')) ∧ Turn t t' (t.es ++ [e]) (nN t.n t.l t.es.length) (lN t.n t.l t.es.length) := by
  subst hX
  refine (put_no_s h hi (es_no hy) (by rw [es_len]; exact hm)).mono ?_
  rintro o w' ⟨t', rfl, h2, h3⟩
  exact ⟨t', rfl, h2, came_es h3⟩
theorem rem_y (h : Apt W w l) (hi : l[i]? = some (obT t)) (hX : t.X = X) (hy : y ∈ t.es) (hk : y.k = key) (hm : t.es.length ≤ 1000000) : Calls Try.prog 14 #[.pointer (some ⟨X, 0, none⟩), .int .i64 key] w fun o w' => ∃ t', o = .returned (.tuple #[y.v, .bool true]) ∧ Apt W w' (l.set i (obT t')) ∧ Turn t t' (dlt key t.es) t.n (t.l - 1) := by
  subst hX
  obtain ⟨x, hx, rfl⟩ := es_mem hy
  refine (remove_yes_s h hi hx hk (by rw [es_len]; exact hm)).mono ?_
  rintro o w' ⟨v, rfl, h2⟩
  exact ⟨_, rfl, h2, del_es key v⟩
theorem rem_n (h : Apt W w l) (hi : l[i]? = some (obT t)) (hX : t.X = X) (hy : ∀ y ∈ t.es, y.k ≠ key) : Calls Try.prog 14 #[.pointer (some ⟨X, 0, none⟩), .int .i64 key] w fun o w' => ∃ t', o = .returned (.tuple #[e0.v, .bool false]) ∧ Apt W w' (l.set i (obT t')) ∧ Turn t t' t.es t.n (t.l - 1) := by
  subst hX
  refine (remove_no_s h hi (es_no hy)).mono ?_
  rintro o w' ⟨v, rfl, h2⟩
  exact ⟨_, rfl, h2, nxt_es v⟩
theorem get_y (h : Apt W w l) (hi : l[i]? = some (obT t)) (hX : t.X = X) (hy : y ∈ t.es) (hk : y.k = key) : Calls Try.prog 16 #[.pointer (some ⟨X, 0, none⟩), .int .i64 key] w fun o w' => o = .returned (.tuple #[y.v, .bool true]) ∧ Apt W w' l := by
  subst hX
  obtain ⟨x, hx, rfl⟩ := es_mem hy
  exact get_yes_s h hi hx hk
theorem get_n (h : Apt W w l) (hi : l[i]? = some (obT t)) (hX : t.X = X) (hy : ∀ y ∈ t.es, y.k ≠ key) : Calls Try.prog 16 #[.pointer (some ⟨X, 0, none⟩), .int .i64 key] w fun o w' => o = .returned (.tuple #[e0.v, .bool false]) ∧ Apt W w' l := by
  subst hX
  exact get_no_s h hi (es_no hy)
theorem len_e (h : Apt W w l) (hi : l[i]? = some (obT t)) (hX : t.X = X) : Calls Try.prog 18 #[.pointer (some ⟨X, 0, none⟩)] w fun e w' => e = .returned (.int .i64 (t.es.length : Int)) ∧ w' = w := by
  subst hX
  rw [← es_len]
  exact len_s h hi
theorem all_e (h : Apt W w l) (hi : l[i]? = some (obT t)) (hX : t.X = X) (hm : t.es.length ≤ 1000000) : Calls Try.prog 26 #[.pointer (some ⟨X, 0, none⟩)] w fun o w' => ∃ p c q, o = .returned (.slice p q.length c) ∧ Apt W w' (l ++ [obE p c q]) ∧ q.Perm t.es ∧ q.Pairwise (fun a b => a.k < b.k) := by
  subst hX
  refine (all_s h hi (by rw [es_len]; exact hm)).mono ?_
  rintro o w' ⟨p, c, q, rfl, h2, h3, h4⟩
  exact ⟨p, c, q, rfl, h2, h3, h4⟩
theorem new_e (s : Int) (h : Apt W w l) : Calls Try.prog 10 #[.int .i64 s] w fun e w' => ∃ t, e = .returned (ptr t.X) ∧ Apt W w' (l ++ [obT t]) ∧ t.es = [] ∧ t.n = 8 ∧ t.l = 0 ∧ t.s = s := by
  refine (new_s s h).mono ?_
  rintro e w' ⟨t, rfl, h2, h3, h4, h5, h6, h7⟩
  exact ⟨t, rfl, h2, by unfold Tab.es; rw [h6]; rfl, h4, h5, h3⟩
end Go.Proofs.Ythjcdloaclailaa.Tb
