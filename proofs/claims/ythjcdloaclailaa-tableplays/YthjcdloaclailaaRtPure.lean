/-
  The document's own table, as rows of entries: what its calls make of it, and how it stands beside the program's. No condition but those told at each sentence.
-/
import Derived.Test.YthjcdloaclailaaTbHold
import Derived.Test.YthjcdloaclailaaTbChn
namespace Go.Proofs.Ythjcdloaclailaa.Tb
open Go.RowKit Go.Deep Us
variable {t t' : Tab} {key : Int} {e y : En} {J : Nat} {q : List En}

/-- Its seed; how many buckets, old ones, of these moved; its rows: those of the old ones are told by 'true'. -/
theorem half_or {H a m : Nat} (h : a < 2 * H) (hm : a % H = m) : a = m ∨ a = m + H := by
  by_cases q : a < H
  · rw [Nat.mod_eq_of_lt q] at hm; exact .inl hm
  · rw [Nat.mod_eq_sub_mod (by omega), Nat.mod_eq_of_lt (by omega)] at hm
    exact .inr (by omega)
structure Rp where
  s : Int
  n : Nat
  k : Nat
  m : Nat
  L : Bool × Nat → List En
namespace Rp
variable {A : Rp}
def live (A : Rp) (p : Bool × Nat) : Prop := if p.1 = true then A.m ≤ p.2 ∧ p.2 < A.k else p.2 < A.n
def rp (A : Rp) (key : Int) : Bool × Nat := if A.m < A.k ∧ A.m ≤ ub A.s key % A.k then (true, ub A.s key % A.k) else (false, ub A.s key % A.n)
def st (A : Rp) (p : Bool × Nat) (q : List En) : Rp := { A with L := fun x => if x = p then q else A.L x }
def ap (A : Rp) (e : En) : Rp := A.st (false, ub A.s e.k % A.n) (A.L (false, ub A.s e.k % A.n) ++ [e])
def up (A : Rp) : Rp := { A with m := A.m + 1 }
def cl (A : Rp) : Rp := if A.m = A.k then { A with k := 0, m := 0 } else A
def mv (A : Rp) : Rp := if A.m < A.k then ((A.L (true, A.m)).foldl ap A.up).cl else A
def gr (A : Rp) : Rp := ⟨A.s, 2 * A.n, A.n, 0, fun x => if x.1 = true then A.L (false, x.2) else []⟩
structure Ok (A : Rp) : Prop where
  lo : 8 ≤ A.n
  hi : A.n ≤ 131072
  old : A.k = 0 ∧ A.m = 0 ∨ A.m < A.k ∧ 2 * A.k = A.n
theorem Ok.rp_live (h : Ok A) (key : Int) : A.live (A.rp key) := by
  have := h.lo
  unfold rp live
  by_cases c : A.m < A.k ∧ A.m ≤ ub A.s key % A.k
  · rw [if_pos c]
    exact ⟨c.2, Nat.mod_lt _ (by omega)⟩
  · rw [if_neg c]
    exact Nat.mod_lt _ (by omega)
theorem fold_ap : ∀ (q : List En) (A : Rp), (q.foldl ap A).s = A.s ∧ (q.foldl ap A).n = A.n ∧ (q.foldl ap A).k = A.k ∧ (q.foldl ap A).m = A.m ∧ ∀ p, (q.foldl ap A).L p = if p.1 = true then A.L p else A.L p ++ q.filter fun e => decide (ub A.s e.k % A.n = p.2)
  | [], A => ⟨rfl, rfl, rfl, rfl, fun p => by simp⟩
  | e :: q, A => by
    obtain ⟨h1, h2, h3, h4, h5⟩ := fold_ap q (A.ap e)
    refine ⟨h1, h2, h3, h4, fun p => ?_⟩
    rw [List.foldl_cons, h5 p]
    obtain ⟨b, j⟩ := p
    cases b with
    | true => simp [ap, st]
    | false =>
      show (if ((false, j) : Bool × Nat) = (false, ub A.s e.k % A.n) then _ else A.L (false, j)) ++ (q.filter fun e => decide (ub A.s e.k % A.n = j)) = A.L (false, j) ++ (e :: q).filter fun e => decide (ub A.s e.k % A.n = j)
      rw [List.filter_cons]
      by_cases c : ub A.s e.k % A.n = j
      · subst c
        rw [if_pos rfl, if_pos (by simp)]
        simp
      · rw [if_neg (fun x => c (congrArg Prod.snd x).symm), if_neg (by simpa using c)]
end Rp
/-- The two tables hold the same, bucket by bucket. -/
structure Ag (t : Tab) (A : Rp) : Prop where
  s : A.s = t.s
  n : A.n = t.n
  k : t.l = 0 ∧ A.k = 0 ∧ A.m = 0 ∨ 0 < t.l ∧ A.k = t.n / 2 ∧ A.m + t.l = A.k
  f : ∀ j, j < t.n → A.L (false, j) = if t.n / 2 ≤ j % (t.n / 2) + t.l then [] else (t.c j).map (·.2)
  o : ∀ j, A.m ≤ j → j < A.k → A.L (true, j) = (t.c j).map (·.2)
namespace Ag
variable {A : Rp}
theorem ok (h : Ag t A) (hs : Shape t) : A.Ok := by
  have h1 := hs.lo
  have h2 := hs.hi
  have h3 := hs.ev
  have h4 := h.n
  refine ⟨by omega, by omega, ?_⟩
  rcases h.k with ⟨_, e1, e2⟩ | ⟨e1, e2, e3⟩
  · exact .inl ⟨e1, e2⟩
  · exact .inr ⟨by omega, by omega⟩
theorem left (h : Ag t A) : A.k - A.m = t.l := by rcases h.k with ⟨a, b, c⟩ | ⟨a, b, c⟩ <;> omega
/-- Which row a key's is. -/
theorem rp_pl (h : Ag t A) (hs : Shape t) (key : Int) : (A.rp key = (true, t.pl key) ∧ t.pl key < t.n / 2 ∧ t.n / 2 ≤ t.pl key + t.l ∧ 0 < t.l) ∨ (A.rp key = (false, t.pl key) ∧ ¬ t.n / 2 ≤ t.pl key % (t.n / 2) + t.l) := by
  have h8 := hs.lo
  have hm : ub t.s key % (t.n / 2) < t.n / 2 := Nat.mod_lt _ (by omega)
  have hp : t.pl key = if t.n / 2 ≤ ub t.s key % (t.n / 2) + t.l then ub t.s key % (t.n / 2) else ub t.s key % t.n := rfl
  unfold Rp.rp
  rw [h.s, h.n]
  rcases h.k with ⟨a, b, c⟩ | ⟨a, b, c⟩
  · rw [if_neg (by omega)]
    rw [if_neg (by omega)] at hp
    refine .inr ⟨by rw [hp], ?_⟩
    rw [hp, ub_half t.s key hs.ev]
    omega
  · rw [b]
    by_cases q : t.n / 2 ≤ ub t.s key % (t.n / 2) + t.l
    · rw [if_pos q] at hp
      rw [if_pos ⟨by omega, by omega⟩]
      exact .inl ⟨by rw [hp], by omega, by omega, a⟩
    · rw [if_neg q] at hp
      rw [if_neg (by omega)]
      refine .inr ⟨by rw [hp], ?_⟩
      rw [hp, ub_half t.s key hs.ev]
      exact q
theorem row (h : Ag t A) (hs : Shape t) (key : Int) : A.L (A.rp key) = (t.ch key).map (·.2) := by
  rcases h.rp_pl hs key with ⟨e, h1, h2, h3⟩ | ⟨e, h1⟩
  · rw [e]
    exact h.o _ (by rcases h.k with ⟨a, b, c⟩ | ⟨a, b, c⟩ <;> omega) (by rcases h.k with ⟨a, b, c⟩ | ⟨a, b, c⟩ <;> omega)
  · rw [e, h.f _ (hs.pl_lt key), if_neg h1]
    rfl
/-- A key's row turns. -/
theorem set (h : Ag t A) (hs : Shape t) (key : Int) (h1 : t'.s = t.s) (h2 : t'.n = t.n) (h3 : t'.l = t.l) (h4 : ∀ j, j < t.n → (t'.c j).map (·.2) = if j = t.pl key then q else (t.c j).map (·.2)) : Ag t' (A.st (A.rp key) q) := by
  have h8 := hs.lo
  have hk := h.k
  refine ⟨h.s.trans h1.symm, h.n.trans h2.symm, by rw [h2, h3]; exact h.k, fun j hj => ?_, fun j hj hj' => ?_⟩
  · rw [h2] at hj
    rw [h2, h3, h4 j hj]
    show (if ((false, j) : Bool × Nat) = A.rp key then q else A.L (false, j)) = _
    rw [h.f j hj]
    rcases h.rp_pl hs key with ⟨e, g1, g2, g3⟩ | ⟨e, g1⟩
    · rw [e, if_neg (by simp)]
      by_cases c : j = t.pl key
      · subst c
        rw [Nat.mod_eq_of_lt g1, if_pos g2, if_pos g2]
      · rw [if_neg c]
    · rw [e]
      by_cases c : j = t.pl key
      · subst c
        rw [if_pos rfl, if_pos rfl, if_neg g1]
      · rw [if_neg c, if_neg (fun x => c (congrArg Prod.snd x))]
  · have hj : A.m ≤ j := hj
    have hj' : j < A.k := hj'
    have hjn : j < t.n := by omega
    rw [h4 j hjn]
    show (if ((true, j) : Bool × Nat) = A.rp key then q else A.L (true, j)) = _
    rw [h.o j hj hj']
    rcases h.rp_pl hs key with ⟨e, g1, g2, g3⟩ | ⟨e, g1⟩
    · rw [e]
      by_cases c : j = t.pl key
      · subst c
        rw [if_pos rfl, if_pos rfl]
      · rw [if_neg c, if_neg (fun x => c (congrArg Prod.snd x))]
    · rw [e, if_neg (by simp)]
      by_cases c : j = t.pl key
      · subst c
        rw [Nat.mod_eq_of_lt (by omega)] at g1
        have := h.left
        omega
      · rw [if_neg c]
/-- The first old bucket that is left, when it is moved. -/
theorem mv_keys (h : Ag t A) (hs : Shape t) (h0 : 0 < t.l) {x : Lk} (hx : x ∈ t.c A.m) : ub t.s x.2.k % (t.n / 2) = A.m := by
  have h8 := hs.lo
  have hle := hs.le
  obtain ⟨b, c⟩ : A.k = t.n / 2 ∧ A.m + t.l = A.k := by rcases h.k with ⟨a, b, c⟩ | ⟨a, b, c⟩ <;> omega
  have hmn : A.m < t.n := by omega
  obtain ⟨_, hp⟩ := hs.mem A.m hmn x hx
  have e := ub_half t.s x.2.k hs.ev
  unfold pl at hp
  by_cases q : t.n / 2 ≤ ub t.s x.2.k % (t.n / 2) + t.l
  · rw [if_pos q] at hp; exact hp
  · rw [if_neg q] at hp
    rw [hp, Nat.mod_eq_of_lt (by omega)] at e
    omega
theorem mv_row (h : Ag t A) (hs : Shape t) (h0 : 0 < t.l) (b : A.k = t.n / 2) (c : A.m + t.l = A.k) {j : Nat} (hj : j < t.n) : A.L (false, j) ++ (A.L (true, A.m)).filter (fun e => decide (ub A.s e.k % A.n = j)) = if t.n / 2 ≤ j % (t.n / 2) + (t.l - 1) then [] else (t.mvC j).map (·.2) := by
  have h8 := hs.lo
  have hev := hs.ev
  have hrow := h.o A.m (Nat.le_refl _) (by omega)
  have hlow : t.low = A.m := by unfold Tab.low; omega
  have hjm : j % (t.n / 2) < t.n / 2 := Nat.mod_lt _ (by omega)
  rw [h.f j hj, hrow, h.s, h.n, List.filter_map]
  by_cases q : j % (t.n / 2) = A.m
  · rw [if_pos (by omega), if_neg (by omega), List.nil_append]
    congr 1
    have plx : ∀ x ∈ t.c A.m, pl t.s t.n (t.l - 1) x.2.k = ub t.s x.2.k % t.n := fun x hx => by
      unfold pl
      rw [h.mv_keys hs h0 hx, if_neg (by omega)]
    have cj := half_or (by omega) q
    unfold Tab.mvC
    rw [hlow]
    rcases cj with e | e
    · rw [if_pos e]
      refine List.filter_congr fun x hx => ?_
      rw [Function.comp_apply]
      unfold Tab.lo
      rw [plx x hx, hlow, e]
    · rw [if_neg (by omega), if_pos e]
      refine List.filter_congr fun x hx => ?_
      rw [Function.comp_apply]
      unfold Tab.hi Tab.lo
      rw [plx x hx, hlow]
      have e2 := ub_half t.s x.2.k hev
      rw [h.mv_keys hs h0 hx] at e2
      have hu : ub t.s x.2.k % t.n < t.n := Nat.mod_lt _ (by omega)
      rcases half_or (by omega) e2 with g | g
      · rw [g, e, decide_eq_true rfl, decide_eq_false (show ¬ A.m = A.m + t.n / 2 by omega)]; rfl
      · rw [g, e, decide_eq_true rfl, decide_eq_false (show ¬ A.m + t.n / 2 = A.m by omega)]; rfl
  · have hempty : (t.c A.m).filter ((fun e => decide (ub t.s e.k % t.n = j)) ∘ (·.2)) = [] := by
      rw [List.filter_eq_nil_iff]
      intro x hx hq
      rw [Function.comp_apply, decide_eq_true_eq] at hq
      have := ub_half t.s x.2.k hev
      rw [h.mv_keys hs h0 hx, hq] at this
      exact q this
    have hmv : t.mvC j = t.c j := by
      unfold Tab.mvC
      rw [hlow, if_neg (fun x => q (by rw [x, Nat.mod_eq_of_lt (by omega)])), if_neg (fun x => q (by rw [x, Nat.add_mod_right, Nat.mod_eq_of_lt (by omega)]))]
    rw [hempty, hmv, List.map_nil, List.append_nil]
    by_cases g : t.n / 2 ≤ j % (t.n / 2) + t.l
    · rw [if_pos g, if_pos (by omega)]
    · rw [if_neg g, if_neg (by omega)]
theorem mv (h : Ag t A) (hs : Shape t) (v : Addr → Value) : Ag (t.nxt v) A.mv := by
  have hlc : (t.nxt v).l = t.l - 1 := rfl
  unfold Rp.mv
  rcases h.k with ⟨a, b, c⟩ | ⟨a, b, c⟩
  · rw [if_neg (by omega)]
    have hl : (t.nxt v).l = t.l := by rw [hlc]; omega
    have hc : (t.nxt v).c = t.c := by show (if t.l = 0 then t.c else t.mvC) = t.c; rw [if_pos a]
    exact ⟨h.s, h.n, by rw [hl]; exact h.k, fun j hj => by rw [hl, hc]; exact h.f j hj, fun j hj => by rw [hc]; exact h.o j hj⟩
  · rw [if_pos (by omega)]
    obtain ⟨f1, f2, f3, f4, f5⟩ := Rp.fold_ap (A.L (true, A.m)) A.up
    have hlow : t.low = A.m := by unfold Tab.low; omega
    have hc : (t.nxt v).c = t.mvC := by show (if t.l = 0 then t.c else t.mvC) = t.mvC; rw [if_neg (by omega)]
    have hf : ∀ j, j < t.n → ((A.L (true, A.m)).foldl Rp.ap A.up).L (false, j) = if t.n / 2 ≤ j % (t.n / 2) + (t.l - 1) then [] else (t.mvC j).map (·.2) := fun j hj => by
      rw [f5, if_neg (fun x => by cases x)]
      exact h.mv_row hs a b c hj
    have ho : ∀ j, A.m + 1 ≤ j → j < A.k → ((A.L (true, A.m)).foldl Rp.ap A.up).L (true, j) = (t.mvC j).map (·.2) := fun j hj hj' => by
      rw [f5, if_pos rfl]
      show A.L (true, j) = _
      rw [h.o j (by omega) hj']
      unfold Tab.mvC
      rw [hlow, if_neg (by omega), if_neg (by omega)]
    have f3 : ((A.L (true, A.m)).foldl Rp.ap A.up).k = A.k := f3
    have f4 : ((A.L (true, A.m)).foldl Rp.ap A.up).m = A.m + 1 := f4
    have f1 : ((A.L (true, A.m)).foldl Rp.ap A.up).s = A.s := f1
    have f2 : ((A.L (true, A.m)).foldl Rp.ap A.up).n = A.n := f2
    clear f5
    generalize (A.L (true, A.m)).foldl Rp.ap A.up = B at *
    unfold Rp.cl
    rw [f3, f4]
    by_cases g : A.m + 1 = A.k
    · rw [if_pos g]
      refine ⟨f1.trans h.s, f2.trans h.n, .inl ⟨by rw [hlc]; omega, rfl, rfl⟩, fun j hj => ?_, fun j _ hj => by cases hj⟩
      rw [hlc, hc]
      exact hf j hj
    · rw [if_neg g]
      refine ⟨f1.trans h.s, f2.trans h.n, .inr ⟨by rw [hlc]; omega, f3.trans b, by rw [f3, f4, hlc]; omega⟩, fun j hj => ?_, fun j hj hj' => ?_⟩
      · rw [hlc, hc]
        exact hf j hj
      · rw [f4] at hj
        rw [f3] at hj'
        rw [hc]
        exact ho j hj hj'
theorem grw (h : Ag t A) (hs : Shape t) (h0 : t.l = 0) (B' : Nat) : Ag (t.grw B') A.gr := by
  have h8 := hs.lo
  have hn := h.n
  refine ⟨h.s, by show 2 * A.n = 2 * t.n; omega, .inr ⟨by show 0 < t.n; omega, by show A.n = 2 * t.n / 2; omega, by show 0 + t.n = A.n; omega⟩, fun j hj => ?_, fun j _ hj => ?_⟩
  · show [] = if 2 * t.n / 2 ≤ j % (2 * t.n / 2) + t.n then [] else _
    rw [if_pos (by omega)]
  · have hj : j < A.n := hj
    show A.L (false, j) = (if j < t.n then t.c j else []).map (·.2)
    have hjm : j % (t.n / 2) < t.n / 2 := Nat.mod_lt _ (by omega)
    rw [if_pos (by omega), h.f j (by omega), if_neg (by omega)]
theorem add (h : Ag t A) (hs : Shape t) (L : Nat) (e : En) : Ag (t.add L e) (A.st (A.rp e.k) (A.L (A.rp e.k) ++ [e])) := by
  refine h.set hs e.k rfl rfl rfl fun j hj => ?_
  rw [h.row hs e.k]
  show (if j = t.pl e.k then t.c j ++ [(L, e)] else t.c j).map (·.2) = _
  by_cases c : j = t.pl e.k
  · subst c
    rw [if_pos rfl, if_pos rfl, List.map_append]
    rfl
  · rw [if_neg c, if_neg c]
/-- A key's place in its row. -/
theorem place (h : Ag t A) (hs : Shape t) (key : Int) : ((A.L (A.rp key)).map (·.k)).Nodup := by
  rw [h.row hs key, List.map_map]
  have h1 := hs.nod _ (hs.pl_lt key)
  have h2 : (t.ch key).Nodup := nodup_of_fst h1
  refine List.pairwise_map.2 (List.Pairwise.imp_of_mem (fun {x y} hx hy hne e => hne ?_) h2)
  exact hs.key_one (hs.mem _ (hs.pl_lt key) x hx).1 (hs.mem _ (hs.pl_lt key) y hy).1 e
theorem there (h : Ag t A) (hs : Shape t) {key : Int} (hJ : KAt (A.L (A.rp key)) key J) : (∃ x, x ∈ t.D ∧ x.2.k = key ∧ (A.L (A.rp key))[J]? = some x.2 ∧ J < (A.L (A.rp key)).length) ∨ ((∀ x ∈ t.D, x.2.k ≠ key) ∧ ¬ J < (A.L (A.rp key)).length) := by
  by_cases c : J < (A.L (A.rp key)).length
  · obtain ⟨r, h1, h2, h3⟩ := hJ.one c
    rw [h.row hs key] at h2
    obtain ⟨x, hx, rfl⟩ := List.mem_map.1 h2
    exact .inl ⟨x, (hs.mem _ (hs.pl_lt key) x hx).1, h3, h1, c⟩
  · refine .inr ⟨fun x hx e => ?_, c⟩
    have hx2 := hs.all x hx
    refine hJ.no c x.2 ?_ e
    rw [h.row hs key]
    refine List.mem_map_of_mem ?_
    rw [← e]
    exact hx2
theorem repl (h : Ag t A) (hs : Shape t) (hn : (t.D.map (·.1)).Nodup) {e : En} (hJ : KAt (A.L (A.rp e.k)) e.k J) {x : Lk} (hx : x ∈ t.D) (hk : x.2.k = e.k) : Ag (t.rep x.1 e) (A.st (A.rp e.k) ((A.L (A.rp e.k)).set J e)) := by
  refine h.set hs e.k rfl rfl rfl fun j hj => ?_
  show ((t.c j).map (rep x.1 e)).map (·.2) = _
  by_cases c : j = t.pl e.k
  · subst c
    rw [if_pos rfl, ← ovr_set hJ, h.row hs e.k, List.map_map, List.map_map]
    refine List.map_congr_left fun z hz => ?_
    show (rep x.1 e z).2 = ovr e z.2
    have hz := (hs.mem _ (hs.pl_lt e.k) z hz).1
    unfold rep ovr
    by_cases q : z.1 = x.1
    · have := nodup_same hn hz hx q
      subst this
      rw [if_pos rfl, if_pos hk]
    · rw [if_neg q, if_neg (fun q2 => q (by rw [hs.key_one hz hx (q2.trans hk.symm)]))]
  · rw [if_neg c, List.map_map]
    refine List.map_congr_left fun z hz => ?_
    show (rep x.1 e z).2 = z.2
    obtain ⟨h1, h2⟩ := hs.mem j hj z hz
    unfold rep
    rw [if_neg fun q => c ?_]
    have := nodup_same hn h1 hx q
    subst this
    rw [← h2, hk]
    rfl
theorem dele (h : Ag t A) (hs : Shape t) {key : Int} (hJ : KAt (A.L (A.rp key)) key J) (hj : J < (A.L (A.rp key)).length) : Ag (t.del key) (A.st (A.rp key) ((A.L (A.rp key)).take J ++ (A.L (A.rp key)).drop (J + 1))) := by
  refine h.set hs key rfl rfl rfl fun j hj' => ?_
  show (if j = t.pl key then ahd key (t.c j) ++ (rst key (t.c j)).tail else t.c j).map (·.2) = _
  by_cases c : j = t.pl key
  · subst c
    rw [if_pos rfl, if_pos rfl]
    have hr : A.L (A.rp key) = (t.c (t.pl key)).map (·.2) := h.row hs key
    rw [hr] at hJ hj ⊢
    generalize t.c (t.pl key) = l at *
    rw [List.length_map] at hj
    have sp : l = l.take J ++ l.drop J := (List.take_append_drop J l).symm
    obtain ⟨e1, e2⟩ := ahd_split (key := key) (p := l.take J) (r := l.drop J) (fun x hx q => by
      obtain ⟨i, hi, rfl⟩ := List.getElem_of_mem hx
      rw [List.length_take] at hi
      have := (hJ.2 i (l.take J)[i].2 (by simp [List.getElem?_eq_getElem (show i < l.length by omega)])).1 q
      omega) (fun x r hx => by
      have : l[J]? = some x := by
        have h0 : (l.drop J)[0]? = some x := by rw [hx]; rfl
        simpa using h0
      exact (hJ.2 J x.2 (by simp [this])).2 rfl)
    rw [← sp] at e1 e2
    rw [e1, e2, List.map_append, List.map_take, List.tail_drop, List.map_drop]
  · rw [if_neg c, if_neg c]
end Ag
end Go.Proofs.Ythjcdloaclailaa.Tb
