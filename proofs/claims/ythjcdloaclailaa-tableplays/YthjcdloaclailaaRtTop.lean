/-
  The two tables side by side: what each pair of calls answers and leaves. No condition but those told at each sentence.
-/
import Derived.Test.YthjcdloaclailaaRtRem
namespace Go.Proofs.Ythjcdloaclailaa.Tb
open Go.RowKit Go.Deep Us
variable {W w w' : World} {t t' : Tab} {u : Rt} {A : Rp} {key : Int} {e r : En} {J X Y n k : Nat} {q : List En} {l L : List Ob} {i j c : Nat} {p : Option Addr}

/-- A table that could be moved has a shape when it is. -/
theorem nxt_ex (h : Tb w t) : ∃ v, Shape (t.nxt v) := by
  obtain ⟨e, w', fr, ⟨_, v, hT, _⟩, _⟩ := move_t h []
  exact ⟨v, hT.sh⟩
theorem Ag.val {v v' : Addr → Value} (h : Ag (t.nxt v) A) : Ag (t.nxt v') A := ⟨h.s, h.n, h.k, h.f, h.o⟩
theorem Ag.val_add {v v' : Addr → Value} {L L' : Nat} (h : Ag ((t.nxt v).add L e) A) : Ag ((t.nxt v').add L' e) A := by
  have hc : ∀ j, (((t.nxt v).add L e).c j).map (·.2) = (((t.nxt v').add L' e).c j).map (·.2) := fun j => by
    show List.map _ (if j = (t.nxt v).pl e.k then (t.nxt v).c j ++ [(L, e)] else (t.nxt v).c j) = List.map _ (if j = (t.nxt v).pl e.k then (t.nxt v).c j ++ [(L', e)] else (t.nxt v).c j)
    split
    · rw [List.map_append, List.map_append]; rfl
    · rfl
  refine ⟨h.s, h.n, h.k, fun j hj => ?_, fun j hj hj' => ?_⟩
  · have := h.f j hj
    rw [hc j] at this
    exact this
  · have := h.o j hj hj'
    rw [hc j] at this
    exact this
theorem Ag.val_rep {v v' : Addr → Value} {b : Nat} (h : Ag ((t.nxt v).rep b e) A) : Ag ((t.nxt v').rep b e) A := ⟨h.s, h.n, h.k, h.f, h.o⟩
theorem Ag.val_del {v v' : Addr → Value} (h : Ag ((t.nxt v).del key) A) : Ag ((t.nxt v').del key) A := ⟨h.s, h.n, h.k, h.f, h.o⟩
theorem Ag.grow (h : Ag t A) (h8 : 8 ≤ t.n) (h0 : t.l = 0) (B' : Nat) : Ag (t.grw B') A.gr := by
  have hn := h.n
  refine ⟨h.s, by show 2 * A.n = 2 * t.n; omega, .inr ⟨by show 0 < t.n; omega, by show A.n = 2 * t.n / 2; omega, by show 0 + t.n = A.n; omega⟩, fun j hj => ?_, fun j _ hj => ?_⟩
  · show [] = if 2 * t.n / 2 ≤ j % (2 * t.n / 2) + t.n then [] else _
    rw [if_pos (by omega)]
  · have hj : j < A.n := hj
    show A.L (false, j) = (if j < t.n then t.c j else []).map (·.2)
    have hjm : j % (t.n / 2) < t.n / 2 := Nat.mod_lt _ (by omega)
    rw [if_pos (by omega), h.f j (by omega), if_neg (by omega)]
/-- Rows no longer than k. -/
def Rp.Bd (A : Rp) (k : Nat) : Prop := ∀ p, (A.L p).length ≤ k
theorem mv_bd (ag : Ag t A) (hs : Shape t) (hb : A.Bd k) (hD : t.D.length ≤ k) : A.mv.Bd k := fun p => by
  by_cases hm : A.m < A.k
  · rw [mv_yes _ hm]
    have e1 : ∀ B : Rp, B.cl.L p = B.L p := fun B => by
      unfold Rp.cl
      split <;> rfl
    rw [e1]
    obtain ⟨_, _, _, _, h5⟩ := Rp.fold_ap (A.L (true, A.m)) A.up
    rw [h5]
    obtain ⟨b, x⟩ := p
    cases b with
    | true => rw [if_pos rfl]; exact hb _
    | false =>
      rw [if_neg (fun x => by cases x)]
      by_cases hx : x < t.n
      · have hl : 0 < t.l ∧ A.k = t.n / 2 ∧ A.m + t.l = A.k := by rcases ag.k with ⟨a, b, c⟩ | h <;> omega
        have := ag.mv_row hs hl.1 hl.2.1 hl.2.2 hx
        show (A.L (false, x) ++ (A.L (true, A.m)).filter fun e => decide (ub A.s e.k % A.n = x)).length ≤ k
        rw [this]
        split
        · exact Nat.zero_le _
        · rw [List.length_map]
          have hlow : t.low < t.n := by have := hs.lo; unfold Tab.low; omega
          unfold Tab.mvC
          split
          · exact Nat.le_trans (List.length_filter_le _ _) (Nat.le_trans (chain_le hs hlow) hD)
          · split
            · exact Nat.le_trans (List.length_filter_le _ _) (Nat.le_trans (chain_le hs hlow) hD)
            · exact Nat.le_trans (chain_le hs hx) hD
      · have hf : (A.L (true, A.m)).filter (fun e => decide (ub A.s e.k % A.n = x)) = [] := by
          rw [List.filter_eq_nil_iff]
          intro y _ hq
          rw [decide_eq_true_eq] at hq
          have h8 := hs.lo
          have hn := ag.n
          have : ub A.s y.k % A.n < A.n := Nat.mod_lt _ (by omega)
          omega
        show (A.L (false, x) ++ (A.L (true, A.m)).filter fun e => decide (ub A.s e.k % A.n = x)).length ≤ k
        rw [hf, List.append_nil]
        exact hb _
  · rw [mv_no _ hm]; exact hb p
theorem st_bd {pl : Bool × Nat} (hb : A.Bd k) (hq : q.length ≤ k) : (A.st pl q).Bd k := fun p => by
  show (if p = pl then q else A.L p).length ≤ k
  split
  · exact hq
  · exact hb p
theorem gr_bd (hb : A.Bd k) : A.gr.Bd k := fun p => by
  show (if p.1 = true then A.L (false, p.2) else []).length ≤ k
  split
  · exact hb _
  · exact Nat.zero_le _
theorem Rp.Bd.more {k k' : Nat} (hb : A.Bd k) (h : k ≤ k') : A.Bd k' := fun p => Nat.le_trans (hb p) h
/-- How many entries there are when one comes. -/
theorem rowsB_st (A : Rp) (pl : Bool × Nat) (e : En) : ∀ j, ((A.st pl (A.L pl ++ [e])).rowsB j).length = (A.rowsB j).length + if pl.1 = false ∧ pl.2 < j then 1 else 0
  | 0 => by rw [if_neg (by omega)]; rfl
  | j + 1 => by
    rw [rowsB_succ, rowsB_succ, List.length_append, List.length_append, rowsB_st A pl e j]
    show _ + (if ((false, j) : Bool × Nat) = pl then A.L pl ++ [e] else A.L (false, j)).length = _
    obtain ⟨b, x⟩ := pl
    cases b with
    | true => rw [if_neg (fun x => by cases x.1), if_neg (fun x => by cases x), if_neg (fun x => by cases x.1)]; omega
    | false =>
      by_cases c : x = j
      · subst c
        rw [if_neg (fun x => Nat.lt_irrefl _ x.2), if_pos rfl, if_pos ⟨rfl, Nat.lt_succ_self _⟩, List.length_append]
        rfl
      · rw [if_neg (fun y : ((false, j) : Bool × Nat) = (false, x) => c (congrArg Prod.snd y).symm)]
        by_cases d : x < j
        · rw [if_pos ⟨rfl, d⟩, if_pos ⟨rfl, by show x < j + 1; omega⟩]; omega
        · rw [if_neg (fun y => d y.2), if_neg (fun y => d (by have : x < j + 1 := y.2; omega))]; omega
theorem rowsO_st (A : Rp) (pl : Bool × Nat) (e : En) : ∀ j, ((A.st pl (A.L pl ++ [e])).rowsO j).length = (A.rowsO j).length + if pl.1 = true ∧ A.m ≤ pl.2 ∧ pl.2 < j then 1 else 0
  | 0 => by rw [if_neg (by omega)]; rfl
  | j + 1 => by
    rw [rowsO_succ, rowsO_succ, List.length_append, List.length_append, rowsO_st A pl e j]
    show _ + (if A.m ≤ j then (if ((true, j) : Bool × Nat) = pl then A.L pl ++ [e] else A.L (true, j)) else []).length = _
    obtain ⟨b, x⟩ := pl
    by_cases hm : A.m ≤ j
    · rw [if_pos hm, if_pos hm]
      cases b with
      | false =>
        have e1 : (if ((true, j) : Bool × Nat) = (false, x) then A.L (false, x) ++ [e] else A.L (true, j)) = A.L (true, j) := if_neg (fun y => by cases y)
        rw [e1, if_neg (fun x => by cases x.1), if_neg (fun x => by cases x.1)]
        omega
      | true =>
        by_cases c : x = j
        · subst c
          rw [if_neg (fun y => Nat.lt_irrefl _ y.2.2), if_pos rfl, if_pos ⟨rfl, hm, Nat.lt_succ_self _⟩, List.length_append]
          rfl
        · have e1 : (if ((true, j) : Bool × Nat) = (true, x) then A.L (true, x) ++ [e] else A.L (true, j)) = A.L (true, j) := if_neg (fun y => c (congrArg Prod.snd y).symm)
          rw [e1]
          by_cases d : A.m ≤ x ∧ x < j
          · rw [if_pos ⟨rfl, d⟩, if_pos ⟨rfl, d.1, by show x < j + 1; omega⟩]; omega
          · rw [if_neg (fun y => d y.2), if_neg (fun y => d ⟨y.2.1, by have : x < j + 1 := y.2.2; omega⟩)]; omega
    · rw [if_neg hm, if_neg hm]
      by_cases d : b = true ∧ A.m ≤ x ∧ x < j
      · rw [if_pos d, if_pos ⟨d.1, d.2.1, by show x < j + 1; omega⟩]; omega
      · rw [if_neg d, if_neg (fun y => d ⟨y.1, y.2.1, by have h1 : x < j + 1 := y.2.2; have h2 : A.m ≤ x := y.2.1; omega⟩)]; omega
theorem rows_st {pl : Bool × Nat} (hl : A.live pl) (e : En) : (A.st pl (A.L pl ++ [e])).rows.length = A.rows.length + 1 := by
  unfold Rp.rows
  rw [List.length_append, List.length_append]
  show ((A.st pl (A.L pl ++ [e])).rowsB A.n).length + ((A.st pl (A.L pl ++ [e])).rowsO A.k).length = _
  rw [rowsB_st, rowsO_st]
  unfold Rp.live at hl
  obtain ⟨b, x⟩ := pl
  cases b with
  | true =>
    rw [if_pos rfl] at hl
    rw [if_neg (fun x => by cases x.1), if_pos ⟨rfl, hl⟩]; omega
  | false =>
    rw [if_neg (fun x => by cases x)] at hl
    rw [if_pos ⟨rfl, hl⟩, if_neg (fun x => by cases x.1)]; omega
theorem flat_congr {β : Type} {f g : Nat → List β} : ∀ {l : List Nat}, (∀ x ∈ l, f x = g x) → l.flatMap f = l.flatMap g
  | [], _ => rfl
  | x :: l, h => by
    rw [List.flatMap_cons, List.flatMap_cons, h x (by simp), flat_congr fun y hy => h y (by simp [hy])]
theorem flat_two {α β : Type} (f g : α → List β) : ∀ l : List α, (l.flatMap fun x => f x ++ g x).Perm (l.flatMap f ++ l.flatMap g)
  | [] => List.Perm.refl _
  | x :: l => by
    rw [List.flatMap_cons, List.flatMap_cons, List.flatMap_cons, List.append_assoc, List.append_assoc]
    refine List.Perm.append_left _ (((flat_two f g l).append_left _).trans ?_)
    rw [← List.append_assoc, ← List.append_assoc]
    exact List.Perm.append_right _ List.perm_append_comm
theorem flat_cut {β : Type} (f : Nat → List β) {h n : Nat} (hn : h ≤ n) (hf : ∀ j, h ≤ j → j < n → f j = []) : (List.range n).flatMap f = (List.range h).flatMap f := by
  induction hn with
  | refl => rfl
  | step hm ih =>
    rw [List.range_succ, List.flatMap_append, ih fun j h1 h2 => hf j h1 (by omega)]
    simp [hf _ hm (Nat.lt_succ_self _)]
/-- The rows hold what the table holds. -/
theorem rows_perm (ag : Ag t A) (hs : Shape t) (hn : (t.D.map (·.1)).Nodup) : A.rows.Perm t.es := by
  have h8 := hs.lo
  have hev := hs.ev
  have hle := hs.le
  have an := ag.n
  refine List.Perm.trans ?_ ((flat_perm hs hn).map (·.2))
  rw [List.map_flatMap]
  have e1 : (List.range t.n).flatMap (fun j => (t.c j).map (·.2)) = (List.range t.n).flatMap fun j => A.L (false, j) ++ if t.n / 2 ≤ j % (t.n / 2) + t.l then (t.c j).map (·.2) else [] := by
    refine flat_congr fun j hj => ?_
    have hj := List.mem_range.1 hj
    rw [ag.f j hj]
    split
    · rw [List.nil_append]
    · rw [List.append_nil]
  rw [e1]
  refine List.Perm.trans ?_ (flat_two _ _ _).symm
  unfold Rp.rows Rp.rowsB
  rw [an]
  refine List.Perm.append_left _ ?_
  have e2 : (List.range t.n).flatMap (fun j => if t.n / 2 ≤ j % (t.n / 2) + t.l then (t.c j).map (·.2) else []) = A.rowsO A.k := by
    unfold Rp.rowsO
    rcases ag.k with ⟨a, b, c⟩ | ⟨a, b, c⟩
    · rw [b]
      show _ = []
      rw [List.flatMap_eq_nil_iff]
      intro j _
      have : j % (t.n / 2) < t.n / 2 := Nat.mod_lt _ (by omega)
      rw [if_neg (by omega)]
    · rw [b, flat_cut _ (show t.n / 2 ≤ t.n by omega) fun j h1 h2 => ?_]
      · refine flat_congr fun j hj => ?_
        have hj := List.mem_range.1 hj
        rw [Nat.mod_eq_of_lt hj]
        by_cases g : A.m ≤ j
        · rw [if_pos (by omega), if_pos g, ag.o j g (by omega)]
        · rw [if_neg (by omega), if_neg g]
      · split
        · rename_i g
          have : t.c j = [] := by
            rw [List.eq_nil_iff_forall_not_mem]
            intro y hy
            obtain ⟨_, hp⟩ := hs.mem j h2 y hy
            have e := ub_half t.s y.2.k hev
            unfold pl at hp
            have hm : ub t.s y.2.k % (t.n / 2) < t.n / 2 := Nat.mod_lt _ (by omega)
            by_cases q : t.n / 2 ≤ ub t.s y.2.k % (t.n / 2) + t.l
            · rw [if_pos q] at hp; omega
            · rw [if_neg q] at hp
              rw [hp] at e
              omega
          rw [this]; rfl
        · rfl
  rw [e2]
theorem kAt_eq (ag : Ag t A) (b : Nat) : t.kAt (b : Int) = A.kAt (b : Int) := by
  unfold Tab.kAt Rp.kAt
  have e : ((b : Int)).toNat = b := Int.toNat_natCast b
  rw [e, ag.n]
  by_cases h : b < t.n
  · rw [if_pos (show 0 ≤ (b : Int) ∧ (b : Int) < (t.n : Int) by omega), ag.f b h]
    by_cases g : t.n / 2 ≤ b % (t.n / 2) + t.l
    · rw [if_neg (fun x => x.2.2 g), if_pos g]; rfl
    · rw [if_pos ⟨by omega, by omega, g⟩, if_neg g]
      unfold kz
      rw [List.map_map]; rfl
  · rw [if_neg (fun x => h (by omega)), if_neg (fun x => h (by omega))]
/-- What the pair leaves. -/
structure Pair (t : Tab) (u : Rt) (X Y k : Nat) : Prop where
  X : t.X = X
  Y : u.X = Y
  ag : Ag t u.A
  h : u.h = none
  bd : u.A.Bd k
  D : t.D.length ≤ k
theorem both_put (h : Apt W w L) (hi : L[i]? = some (obT t)) (pr : Pair t u X Y k) (hk : k + 1 ≤ 1000000) (e : En) :
    ∃ (r : En) (b : Bool), Hid (Calls Try.prog 12 #[.pointer (some ⟨X, 0, none⟩), .agg #[.int .i64 e.k, .int .i64 e.a, .int .i64 e.x, .int .i64 e.n]] w fun o w' => ∃ t', o = .returned (.tuple #[.agg #[.int .i64 r.k, .int .i64 r.a, .int .i64 r.x, .int .i64 r.n], .bool b]) ∧ Hid (Apt W w' (L.set i (obT t'))) ∧
      Hid (∀ W1 L1, Apt W W1 L1 → L1[j]? = some (obR u) → Calls Try.prog 13 #[.pointer (some ⟨Y, 0, none⟩), .agg #[.int .i64 e.k, .int .i64 e.a, .int .i64 e.x, .int .i64 e.n]] W1 fun o w' => ∃ u', o = .returned (.tuple #[.agg #[.int .i64 r.k, .int .i64 r.a, .int .i64 r.x, .int .i64 r.n], .bool b]) ∧ Hid (Apt W w' (L1.set j (obR u'))) ∧ Hid (Pair t' u' X Y (k + 1)))) := by
  have ht : Tb w t := h.all i _ hi
  obtain ⟨v0, hs1⟩ := nxt_ex ht
  have hn1 : ((t.nxt v0).D.map (·.1)).Nodup := ht.mem.nd
  have ag1 := pr.ag.mv ht.sh v0
  have bd1 := mv_bd pr.ag ht.sh pr.bd pr.D
  have fit0 : u.A.Fit := fun p => Nat.le_trans (pr.bd p) (by omega)
  have fit1 : u.A.mv.Fit := fun p => Nat.le_trans (bd1 p) (by omega)
  obtain ⟨J, hJ⟩ := at_ex e.k (ag1.place hs1 e.k)
  have hDl : t.D.length ≤ 1000000 := Nat.le_trans pr.D (by omega)
  have hX := pr.X
  subst hX
  rcases ag1.there hs1 hJ with ⟨x, hx, hxk, hr, hJl⟩ | ⟨hno, hJl⟩
  · refine ⟨x.2, true, (put_yes_s h hi hx hxk).mono ?_⟩
    rintro o w1 ⟨v, rfl, h1⟩
    refine ⟨_, rfl, h1, fun W1 L1 hL hj => (rput_y hL hj pr.Y pr.h e fit0 fit1 hJ hr).mono ?_⟩
    rintro o2 w2 ⟨rfl, u', h2, e1, e2, e3⟩
    refine ⟨u', rfl, h2, ⟨rfl, e1, ?_, e3, ?_, ?_⟩⟩
    · rw [e2]
      exact (ag1.repl hs1 hn1 hJ hx hxk).val_rep
    · rw [e2]
      exact (st_bd bd1 (by rw [List.length_set]; exact bd1 _)).more (Nat.le_succ k)
    · show (t.D.map _).length ≤ k + 1
      rw [List.length_map]
      exact Nat.le_succ_of_le pr.D
  · refine ⟨e0, false, (put_no_s h hi hno hDl).mono ?_⟩
    rintro o w1 ⟨t', rfl, h1, v, L0, hc⟩
    have hlive : u.A.mv.live (u.A.mv.rp e.k) := (ag1.ok hs1).rp_live e.k
    have hrl : (u.A.mv.st (u.A.mv.rp e.k) (u.A.mv.L (u.A.mv.rp e.k) ++ [e])).rows.length = t.D.length + 1 := by
      rw [rows_st hlive, (rows_perm ag1 hs1 hn1).length_eq]
      show (t.D.map _).length + 1 = _
      rw [List.length_map]
    refine ⟨t', rfl, h1, fun W1 L1 hL hj => (rput_n hL hj pr.Y pr.h e fit0 fit1 (by rw [hrl]; have := pr.D; omega) hJ hJl).mono ?_⟩
    rintro o2 w2 ⟨rfl, u', h2, e1, e2, e3⟩
    have agC : Ag ((t.nxt v).add L0 e) (u.A.mv.st (u.A.mv.rp e.k) (u.A.mv.L (u.A.mv.rp e.k) ++ [e])) := (ag1.add hs1 0 e).val_add
    have bdC : (u.A.mv.st (u.A.mv.rp e.k) (u.A.mv.L (u.A.mv.rp e.k) ++ [e])).Bd (k + 1) := st_bd (bd1.more (Nat.le_succ k)) (by rw [List.length_append]; have := bd1 (u.A.mv.rp e.k); simp; exact this)
    have hlC := agC.left
    have hnC : (u.A.mv.st (u.A.mv.rp e.k) (u.A.mv.L (u.A.mv.rp e.k) ++ [e])).n = t.n := agC.n
    rw [hrl, hlC, hnC] at e2
    rcases hc with ⟨c1, c2, c3, B', rfl⟩ | ⟨c1, rfl⟩
    · rw [if_pos ⟨c1, c2, c3⟩] at e2
      refine ⟨u', rfl, h2, ⟨rfl, e1, ?_, e3, ?_, ?_⟩⟩
      · rw [e2]
        exact agC.grow ht.sh.lo c1 B'
      · rw [e2]; exact gr_bd bdC
      · show (t.D ++ [(L0, e)]).length ≤ k + 1
        rw [List.length_append]
        have := pr.D
        simp; exact this
    · rw [if_neg c1] at e2
      refine ⟨u', rfl, h2, ⟨rfl, e1, ?_, e3, ?_, ?_⟩⟩
      · rw [e2]; exact agC
      · rw [e2]; exact bdC
      · show (t.D ++ [(L0, e)]).length ≤ k + 1
        rw [List.length_append]
        have := pr.D
        simp; exact this
theorem both_rem (h : Apt W w L) (hi : L[i]? = some (obT t)) (pr : Pair t u X Y k) (hk : k ≤ 1000000) (key : Int) :
    ∃ (r : En) (b : Bool), Hid (Calls Try.prog 14 #[.pointer (some ⟨X, 0, none⟩), .int .i64 key] w fun o w' => ∃ t', o = .returned (.tuple #[.agg #[.int .i64 r.k, .int .i64 r.a, .int .i64 r.x, .int .i64 r.n], .bool b]) ∧ Hid (Apt W w' (L.set i (obT t'))) ∧
      Hid (∀ W1 L1, Apt W W1 L1 → L1[j]? = some (obR u) → Calls Try.prog 15 #[.pointer (some ⟨Y, 0, none⟩), .int .i64 key] W1 fun o w' => ∃ u', o = .returned (.tuple #[.agg #[.int .i64 r.k, .int .i64 r.a, .int .i64 r.x, .int .i64 r.n], .bool b]) ∧ Hid (Apt W w' (L1.set j (obR u'))) ∧ Hid (Pair t' u' X Y k))) := by
  have ht : Tb w t := h.all i _ hi
  obtain ⟨v0, hs1⟩ := nxt_ex ht
  have hn1 : ((t.nxt v0).D.map (·.1)).Nodup := ht.mem.nd
  have ag1 := pr.ag.mv ht.sh v0
  have bd1 := mv_bd pr.ag ht.sh pr.bd pr.D
  have fit0 : u.A.Fit := fun p => Nat.le_trans (pr.bd p) hk
  have fit1 : u.A.mv.Fit := fun p => Nat.le_trans (bd1 p) hk
  obtain ⟨J, hJ⟩ := at_ex key (ag1.place hs1 key)
  have hDl : t.D.length ≤ 1000000 := Nat.le_trans pr.D hk
  have hX := pr.X
  subst hX
  rcases ag1.there hs1 hJ with ⟨x, hx, hxk, hr, hJl⟩ | ⟨hno, hJl⟩
  · refine ⟨x.2, true, (remove_yes_s h hi hx hxk hDl).mono ?_⟩
    rintro o w1 ⟨v, rfl, h1⟩
    refine ⟨_, rfl, h1, fun W1 L1 hL hj => (rrem_y hL hj pr.Y pr.h key fit0 fit1 hJ hr).mono ?_⟩
    rintro o2 w2 ⟨rfl, u', h2, e1, e2, e3⟩
    refine ⟨u', rfl, h2, ⟨rfl, e1, ?_, e3, ?_, ?_⟩⟩
    · rw [e2]
      exact (ag1.dele hs1 hJ hJl).val_del
    · rw [e2]
      refine st_bd bd1 ?_
      rw [cut_len hJl]
      have := bd1 (u.A.mv.rp key)
      omega
    · show (t.D.filter _).length ≤ k
      exact Nat.le_trans (List.length_filter_le _ _) pr.D
  · refine ⟨e0, false, (remove_no_s h hi hno).mono ?_⟩
    rintro o w1 ⟨v, rfl, h1⟩
    refine ⟨_, rfl, h1, fun W1 L1 hL hj => (rrem_n hL hj pr.Y pr.h key fit0 fit1 hJ hJl).mono ?_⟩
    rintro o2 w2 ⟨rfl, u', h2, e1, e2, e3⟩
    refine ⟨u', rfl, h2, ⟨rfl, e1, ?_, e3, ?_, pr.D⟩⟩
    · rw [e2]; exact ag1.val
    · rw [e2]; exact bd1
theorem both_get (h : Apt W w L) (hi : L[i]? = some (obT t)) (pr : Pair t u X Y k) (hk : k ≤ 1000000) (key : Int) :
    ∃ (r : En) (b : Bool), Hid (∀ W1 L1, Apt W W1 L1 → L1[i]? = some (obT t) → Calls Try.prog 16 #[.pointer (some ⟨X, 0, none⟩), .int .i64 key] W1 fun o w' => o = .returned (.tuple #[.agg #[.int .i64 r.k, .int .i64 r.a, .int .i64 r.x, .int .i64 r.n], .bool b]) ∧ Hid (Apt W w' L1)) ∧
      Hid (∀ W1 L1, Apt W W1 L1 → L1[j]? = some (obR u) → Calls Try.prog 17 #[.pointer (some ⟨Y, 0, none⟩), .int .i64 key] W1 fun o w' => o = .returned (.tuple #[.agg #[.int .i64 r.k, .int .i64 r.a, .int .i64 r.x, .int .i64 r.n], .bool b]) ∧ Hid (Apt W w' L1)) := by
  have ht : Tb w t := h.all i _ hi
  have fit0 : (u.A.L (u.A.rp key)).length ≤ 1000000 := Nat.le_trans (pr.bd _) hk
  obtain ⟨J, hJ⟩ := at_ex key (pr.ag.place ht.sh key)
  have hX := pr.X
  have hY := pr.Y
  subst hX hY
  rcases pr.ag.there ht.sh hJ with ⟨x, hx, hxk, hr, hJl⟩ | ⟨hno, hJl⟩
  · refine ⟨x.2, true, fun W1 L1 hL hl => get_yes_s hL hl hx hxk, fun W1 L1 hL hl => (get_ry (hL.all j _ hl) pr.h hJ hr fit0).mono ?_⟩
    rintro o w1 ⟨rfl, g⟩
    exact ⟨rfl, hL.more g⟩
  · refine ⟨e0, false, fun W1 L1 hL hl => get_no_s hL hl hno, fun W1 L1 hL hl => (get_rn (hL.all j _ hl) pr.h hJ hJl fit0).mono ?_⟩
    rintro o w1 ⟨rfl, g⟩
    exact ⟨rfl, hL.more g⟩
/-- What the two tell of how many, and of their rows. -/
theorem both_len (h : Apt W w L) (hi : L[i]? = some (obT t)) (pr : Pair t u X Y k) : u.A.rows.length = t.D.length ∧ u.A.n = t.n ∧ u.A.k - u.A.m = t.l := by
  have ht : Tb w t := h.all i _ hi
  refine ⟨?_, pr.ag.n, pr.ag.left⟩
  rw [(rows_perm pr.ag ht.sh ht.mem.nd).length_eq]
  show (t.D.map _).length = _
  rw [List.length_map]
theorem both_all {q q' : List En} (h : Apt W w L) (hi : L[i]? = some (obT t)) (pr : Pair t u X Y k) (h1 : q.Perm t.es) (h2 : q.Pairwise fun a b => a.k < b.k) (h3 : q'.Perm u.A.rows) (h4 : q'.Pairwise fun a b => a.k ≤ b.k) : q' = q := by
  have ht : Tb w t := h.all i _ hi
  have hp : q'.Perm q := h3.trans ((rows_perm pr.ag ht.sh ht.mem.nd).trans h1.symm)
  obtain ⟨_, h5⟩ := sorted_of (t := t) ht.sh (h3.trans (rows_perm pr.ag ht.sh ht.mem.nd)) h4
  exact sorted_one hp h5 h2
theorem both_new (X Y : Nat) (h1 : t.X = X) (h2 : u.X = Y) (hs : t.s = u.A.s) (h3 : t.n = 8) (h4 : t.l = 0) (h5 : t.D = []) (h6 : t.c = fun _ => []) (h7 : u.A = ⟨u.A.s, 8, 0, 0, fun _ => []⟩) (h8 : u.h = none) : Pair t u X Y 0 := by
  refine ⟨h1, h2, ⟨hs.symm, by rw [h7, h3], .inl ⟨h4, by rw [h7], by rw [h7]⟩, fun j hj => ?_, fun j _ hj => ?_⟩, h8, fun p => by rw [h7]; exact Nat.le_refl _, by rw [h5]; exact Nat.le_refl _⟩
  · rw [h7, h6]
    split <;> rfl
  · rw [h7] at hj; cases hj
end Go.Proofs.Ythjcdloaclailaa.Tb
