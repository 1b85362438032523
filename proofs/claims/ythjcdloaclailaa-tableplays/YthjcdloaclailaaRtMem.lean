/-
  The document's own table in memory: its struct, its rows of slices, each slice in a block of its own; what its functions that only tell do when they are called. No condition but those told at each sentence.
-/
import Derived.Test.YthjcdloaclailaaRtPure
namespace Go.Proofs.Ythjcdloaclailaa
open Go.RowKit Go.Deep
/-- An object that lay last goes into another. -/
theorem Apt.join {W w w' : World} {l : List Ob} {i : Nat} {o o' v : Ob} (h : Apt W w (l ++ [v])) (hi : l[i]? = some o) (hp : o'.P w') (s : Out (fun k => o.F k ∨ v.F k) w w') (hn : ∀ k, o'.F k → o.F k ∨ v.F k ∨ w.heap.size ≤ k) : Apt W w' (l.set i o') := by
  have hlt : i < l.length := (List.getElem?_eq_some_iff.1 hi).1
  have inl : ∀ {j : Nat} {x : Ob}, l[j]? = some x → (l ++ [v])[j]? = some x := fun {j x} hx => by rw [List.getElem?_append_left (List.getElem?_eq_some_iff.1 hx).1]; exact hx
  have hv : (l ++ [v])[l.length]? = some v := by rw [List.getElem?_append_right (Nat.le_refl _)]; simp
  have get : ∀ {j : Nat} {x : Ob}, (l.set i o')[j]? = some x → (j = i ∧ x = o') ∨ (j ≠ i ∧ l[j]? = some x) := fun {j x} hj => by
    rw [List.getElem?_set] at hj
    by_cases e : i = j
    · rw [if_pos e, if_pos hlt] at hj
      exact .inl ⟨e.symm, (Option.some.inj hj).symm⟩
    · rw [if_neg e] at hj
      exact .inr ⟨fun x => e x.symm, hj⟩
  have fb : ∀ k, o'.F k → W.heap.size ≤ k := fun k hk => by
    rcases hn k hk with q | q | q
    · exact h.base i o (inl hi) k q
    · exact h.base _ v hv k q
    · exact Nat.le_trans h.grown.2.2 q
  have fo : ∀ {j : Nat} {x : Ob}, j ≠ i → l[j]? = some x → ∀ k, x.F k → ¬ (o.F k ∨ v.F k) := fun {j x} hj hx k hk hk' => by
    rcases hk' with q | q
    · exact h.apart j i x o (inl hx) (inl hi) hj k hk q
    · exact h.apart j l.length x v (inl hx) hv (by have := (List.getElem?_eq_some_iff.1 hx).1; omega) k hk q
  have fo' : ∀ {j : Nat} {x : Ob}, j ≠ i → l[j]? = some x → ∀ k, x.F k → ¬ o'.F k := fun {j x} hj hx k hk hk' => by
    rcases hn k hk' with q | q | q
    · exact fo hj hx k hk (.inl q)
    · exact fo hj hx k hk (.inr q)
    · have := x.lt w k (h.all j x (inl hx)) hk; omega
  refine ⟨s.grown h.grown (fun k hk => ?_), fun j x hj => ?_, fun j x hj k hk => ?_, fun a b x y hx hy hab k hk hk' => ?_⟩
  · rcases hk with q | q
    · exact h.base i o (inl hi) k q
    · exact h.base _ v hv k q
  · rcases get hj with ⟨_, rfl⟩ | ⟨hj, hx⟩
    · exact hp
    · exact x.st w w' _ (h.all j x (inl hx)) s (fo hj hx)
  · rcases get hj with ⟨_, rfl⟩ | ⟨hj, hx⟩
    · exact fb k hk
    · exact h.base j x (inl hx) k hk
  · rcases get hx with ⟨ea, rfl⟩ | ⟨ha, ea⟩
    · rcases get hy with ⟨eb, rfl⟩ | ⟨hb, eb⟩
      · omega
      · exact fo' hb eb k hk' hk
    · rcases get hy with ⟨eb, rfl⟩ | ⟨hb, eb⟩
      · exact fo' ha ea k hk hk'
      · exact h.apart a b x y (inl ea) (inl eb) hab k hk hk'
theorem ne_row {w : World} {e ty : TypeId} {s n c B : Nat} {p : Option Addr} {f : Nat → Value} {cs : Array Value} (hv : Vec w e s p n c f) (hb : w.heap[B]? = some (.cells cs ty (0, 0))) (ht : ty ≠ e) : ¬ In p B := fun hi => by
  rcases hv with ⟨rfl, _⟩ | ⟨B', cur, h1, h2, _⟩
  · exact In.no hi
  · rw [h1] at hi
    rw [hi.eq, h2] at hb
    cases hb
    exact ht rfl
end Go.Proofs.Ythjcdloaclailaa
namespace Go.Proofs.Ythjcdloaclailaa.Tb
open Go.RowKit Go.Deep Us
variable {W w w' : World} {key : Int} {e y : En} {J X : Nat} {q : List En} {l : List Ob} {i c : Nat} {p : Option Addr}

/-- Its blocks; what stands in it; where its rows lie; a row that is taken out. -/
structure Rt where
  X : Nat
  P : Nat
  Q : Nat
  A : Rp
  r : Bool × Nat → Option Addr × Nat
  h : Option (Bool × Nat)
namespace Rt
def oP (u : Rt) : Option Addr := if u.A.k = 0 then none else some ⟨u.Q, 0, none⟩
def bk (u : Rt) (b : Bool) : Nat := if b = true then u.Q else u.P
def sz (u : Rt) (b : Bool) : Nat := if b = true then u.A.k else u.A.n
def sl (u : Rt) (p : Bool × Nat) : Value := .slice (u.r p).1 (u.A.L p).length (u.r p).2
def lv (u : Rt) (p : Bool × Nat) : Prop := u.A.live p ∧ u.h ≠ some p
def hole (u : Rt) (p : Bool × Nat) : Rt := { u with h := some p }
def st (u : Rt) (p : Bool × Nat) (q : List En) (pp : Option Addr) (cc : Nat) : Rt := { u with A := u.A.st p q, r := fun x => if x = p then (pp, cc) else u.r x, h := none }
end Rt
structure RM (w : World) (u : Rt) : Prop where
  wk : 8 ≤ u.A.n ∧ u.A.n ≤ 131072 ∧ u.A.m ≤ u.A.k ∧ u.A.k ≤ u.A.n
  head : w.heap[u.X]? = some (.cells #[.slice (some ⟨u.P, 0, none⟩) u.A.n u.A.n, .slice u.oP u.A.k u.A.k, .int .i64 (u.A.m : Int), .int .i64 u.A.s] 37 (0, 0))
  out : ∀ b, (b = true → 0 < u.A.k) → ∃ cur, w.heap[u.bk b]? = some (.cells cur 41 (0, 0)) ∧ cur.size = u.sz b ∧ ∀ j, u.A.live (b, j) → cur[j]? = some (u.sl (b, j))
  inn : ∀ p, u.lv p → Vec w 30 4 (u.r p).1 (u.A.L p).length (u.r p).2 (enL (u.A.L p))
  ap : ∀ p p', u.lv p → u.lv p' → p ≠ p' → ∀ k, In (u.r p).1 k → ¬ In (u.r p').1 k
  ne : 0 < u.A.k → u.P ≠ u.Q
namespace RM
variable {u : Rt} {pl : Bool × Nat}
theorem old_pos {A : Rp} (hl : A.live pl) : pl.1 = true → 0 < A.k := fun hb => by
  unfold Rp.live at hl
  rw [if_pos hb] at hl
  omega
theorem live_sz (hl : u.A.live pl) : pl.2 < u.sz pl.1 := by
  unfold Rp.live at hl
  unfold Rt.sz
  split at hl
  · rename_i hb; rw [if_pos hb]; exact hl.2
  · rename_i hb; rw [if_neg hb]; exact hl
end RM
/-- Its blocks. -/
def Rt.G (u : Rt) (k : Nat) : Prop := k = u.X ∨ k = u.P ∨ (0 < u.A.k ∧ k = u.Q) ∨ ∃ p, u.lv p ∧ In (u.r p).1 k
namespace RM
variable {u : Rt} {pl : Bool × Nat}
theorem lt (h : RM w u) {k : Nat} (hk : u.G k) : k < w.heap.size := by
  rcases hk with rfl | rfl | ⟨h0, rfl⟩ | ⟨p, hp, hk⟩
  · exact lt_of h.head
  · obtain ⟨cur, h1, _⟩ := h.out false (fun x => by cases x)
    exact lt_of h1
  · obtain ⟨cur, h1, _⟩ := h.out true (fun _ => h0)
    exact lt_of h1
  · exact (h.inn p hp).lt hk
theorem bkG {b : Bool} (hb : b = true → 0 < u.A.k) : u.G (u.bk b) := by
  cases b with
  | false => exact .inr (.inl rfl)
  | true => exact .inr (.inr (.inl ⟨hb rfl, rfl⟩))
theorem keep (h : RM w u) (hk : ∀ k, u.G k → w'.heap[k]? = w.heap[k]?) : RM w' u :=
  ⟨h.wk, (hk _ (.inl rfl)).trans h.head, fun b hb => by
    obtain ⟨cur, h1, h2⟩ := h.out b hb
    exact ⟨cur, (hk _ (bkG hb)).trans h1, h2⟩, fun p hp => by
    rcases h.inn p hp with hv | ⟨B, cur, e, h2, h3⟩
    · exact .inl hv
    · exact .inr ⟨B, cur, e, (hk B (.inr (.inr (.inr ⟨p, hp, e⟩)))).trans h2, h3⟩, h.ap, h.ne⟩
theorem moved {F : Nat → Prop} (h : RM w u) (o : Out F w w') (hF : ∀ k, u.G k → ¬ F k) : RM w' u := h.keep fun k hk => o.block k (h.lt hk) (hF k hk)
theorem bk_ne (h : RM w u) {b : Bool} (hb : b = true → 0 < u.A.k) : u.X ≠ u.bk b := fun e => by
  obtain ⟨cur, h1, _⟩ := h.out b hb
  rw [← e, h.head] at h1
  simp at h1
theorem row_X (h : RM w u) (hp : u.lv pl) : ¬ In (u.r pl).1 u.X := ne_row (h.inn pl hp) h.head (by decide)
theorem row_bk (h : RM w u) (hp : u.lv pl) {b : Bool} (hb : b = true → 0 < u.A.k) : ¬ In (u.r pl).1 (u.bk b) := by
  obtain ⟨cur, h1, _⟩ := h.out b hb
  exact ne_row (h.inn pl hp) h1 (by decide)
theorem cells (h : RM w u) : w.cell? ⟨u.X, 0, none⟩ = some (.slice (some ⟨u.P, 0, none⟩) u.A.n u.A.n) ∧ w.cell? ⟨u.X, 1, none⟩ = some (.slice u.oP u.A.k u.A.k) ∧ w.cell? ⟨u.X, 2, none⟩ = some (.int .i64 (u.A.m : Int)) ∧ w.cell? ⟨u.X, 3, none⟩ = some (.int .i64 u.A.s) :=
  ⟨cell_of h.head rfl, cell_of h.head rfl, cell_of h.head rfl, cell_of h.head rfl⟩
theorem cell (h : RM w u) (hl : u.A.live pl) : w.cell? ⟨u.bk pl.1, pl.2, none⟩ = some (u.sl pl) ∧ u.bk pl.1 < w.heap.size ∧ w.frozen? ⟨u.bk pl.1, pl.2, none⟩ = false := by
  obtain ⟨cur, h1, h2, h3⟩ := h.out pl.1 (old_pos hl)
  exact ⟨cell_of h1 (h3 pl.2 hl), lt_of h1, fr0 h1 _⟩
/-- A row is taken out. -/
theorem takes (h : RM w u) (hn : u.h = none) : RM w (u.hole pl) :=
  ⟨h.wk, h.head, h.out, fun p hp => h.inn p ⟨hp.1, by rw [hn]; exact fun x => by cases x⟩, fun p p' hp hp' => h.ap p p' ⟨hp.1, by rw [hn]; exact fun x => by cases x⟩ ⟨hp'.1, by rw [hn]; exact fun x => by cases x⟩, h.ne⟩
/-- A row is laid at its place. -/
theorem puts (h : RM w u) (hl : u.A.live pl) (hh : u.h = some pl) {pp : Option Addr} {cc : Nat} (hv : Vec w 30 4 pp q.length cc (enL q)) (hd : ∀ k, In pp k → ¬ u.G k) : RM (w.setCell ⟨u.bk pl.1, pl.2, none⟩ (.slice pp q.length cc)) (u.st pl q pp cc) := by
  have hb := old_pos hl
  have o : Out (fun k => k = u.bk pl.1) w (w.setCell ⟨u.bk pl.1, pl.2, none⟩ (.slice pp q.length cc)) := (Out.refl (fun k => k = u.bk pl.1) w).setCell (a := ⟨u.bk pl.1, pl.2, none⟩) rfl _
  have lvOf : ∀ p, (u.st pl q pp cc).lv p → p ≠ pl → u.lv p := fun p hp hne => ⟨hp.1, by rw [hh]; exact fun x => hne (Option.some.inj x).symm⟩
  have rp : ∀ {p}, p ≠ pl → (u.st pl q pp cc).r p = u.r p := fun hne => if_neg hne
  have lp : ∀ {p}, p ≠ pl → (u.st pl q pp cc).A.L p = u.A.L p := fun hne => if_neg hne
  have rs : (u.st pl q pp cc).r pl = (pp, cc) := if_pos rfl
  have ls : (u.st pl q pp cc).A.L pl = q := if_pos rfl
  refine ⟨h.wk, (o.block _ (lt_of h.head) (h.bk_ne hb)).trans h.head, fun b hb' => ?_, fun p hp => ?_, fun p p' hp hp' hne k hk hk' => ?_, h.ne⟩
  · obtain ⟨cur, h1, h2, h3⟩ := h.out b hb'
    by_cases e : u.bk b = u.bk pl.1
    · have eb : b = pl.1 := by
        rcases hc : pl.1 with _ | _ <;> rcases b with _ | _
        · rfl
        · rw [hc] at e; exact absurd e.symm (h.ne (hb' rfl))
        · rw [hc] at e hb; exact absurd e (h.ne (hb rfl))
        · rfl
      subst eb
      refine ⟨_, blk_set h1 pl.2 _, by rw [Array.size_setIfInBounds]; exact h2, fun j hj => ?_⟩
      have hj : u.A.live (pl.1, j) := hj
      rw [Array.getElem?_setIfInBounds]
      by_cases ej : pl.2 = j
      · have epl : ((pl.1, j) : Bool × Nat) = pl := by rw [← ej]
        rw [if_pos ej, if_pos (by rw [h2]; exact live_sz hl), epl]
        unfold Rt.sl
        rw [rs, ls]
      · have epl : ((pl.1, j) : Bool × Nat) ≠ pl := fun x => ej (by rw [← x])
        rw [if_neg ej, h3 j hj]
        unfold Rt.sl
        rw [rp epl, lp epl]
    · refine ⟨cur, (o.block _ (lt_of h1) e).trans h1, h2, fun j hj => ?_⟩
      have hj : u.A.live (b, j) := hj
      have epl : ((b, j) : Bool × Nat) ≠ pl := fun x => e (by rw [← x])
      rw [h3 j hj]
      unfold Rt.sl
      rw [rp epl, lp epl]
  · by_cases e : p = pl
    · subst e
      rw [rs, ls]
      exact hv.out o fun k hk x => hd k hk (by rw [x]; exact bkG hb)
    · rw [rp e, lp e]
      have hp2 := lvOf p hp e
      exact (h.inn p hp2).out o fun k hk x => h.row_bk hp2 hb (by rw [← x]; exact hk)
  · have key : ∀ {a}, (u.st pl q pp cc).lv a → a ≠ pl → ∀ k, In (u.r a).1 k → ¬ In pp k := fun {a} ha hne k hk hk' => hd k hk' (.inr (.inr (.inr ⟨a, lvOf a ha hne, hk⟩)))
    by_cases e : p = pl
    · subst e
      rw [rs] at hk
      rw [rp (Ne.symm hne)] at hk'
      exact key hp' (Ne.symm hne) k hk' hk
    · rw [rp e] at hk
      by_cases e' : p' = pl
      · subst e'
        rw [rs] at hk'
        exact key hp e k hk hk'
      · rw [rp e'] at hk'
        exact h.ap p p' (lvOf p hp e) (lvOf p' hp' e') hne k hk hk'
theorem puts_foot (hh : u.h = some pl) {pp : Option Addr} {cc : Nat} {k : Nat} (hk : (u.st pl q pp cc).G k) : u.G k ∨ In pp k := by
  rcases hk with hk | hk | hk | ⟨p, hp, hk⟩
  · exact .inl (.inl hk)
  · exact .inl (.inr (.inl hk))
  · exact .inl (.inr (.inr (.inl hk)))
  · have hk : In (if p = pl then (pp, cc) else u.r p).1 k := hk
    by_cases e : p = pl
    · rw [if_pos e] at hk; exact .inr hk
    · rw [if_neg e] at hk
      exact .inl (.inr (.inr (.inr ⟨p, ⟨hp.1, by rw [hh]; exact fun x => e (Option.some.inj x).symm⟩, hk⟩)))
end RM
def obR (u : Rt) : Ob := ⟨fun w => RM w u, u.G, fun _ _ _ h o hd => h.moved o hd, fun _ _ h hk => h.lt hk⟩
section
variable {u : Rt} {pl : Bool × Nat}
theorem take_s (h : Apt W w l) (hi : l[i]? = some (obR u)) (hl : u.A.live pl) (hn : u.h = none) : Apt W w (l.set i (obR (u.hole pl)) ++ [obE (u.r pl).1 (u.r pl).2 (u.A.L pl)]) := by
  have hR : RM w u := h.all i _ hi
  have hpl : u.lv pl := ⟨hl, by rw [hn]; exact fun x => by cases x⟩
  have sub : ∀ k, (u.hole pl).G k → u.G k := fun k hk => by
    rcases hk with hk | hk | hk | ⟨p, hp, hk⟩
    · exact .inl hk
    · exact .inr (.inl hk)
    · exact .inr (.inr (.inl hk))
    · exact .inr (.inr (.inr ⟨p, ⟨hp.1, by rw [hn]; exact fun x => by cases x⟩, hk⟩))
  refine h.both hi (hR.takes hn) (hR.inn pl hpl) ⟨Out.refl _ _, fun k hk => .inl (sub k hk)⟩ (fun k hk => .inl (.inr (.inr (.inr ⟨pl, hpl, hk⟩)))) fun k hk hk' => ?_
  have hk' : In (u.r pl).1 k := hk'
  rcases hk with hk | hk | ⟨h0, hk⟩ | ⟨p, hp, hk⟩
  · exact hR.row_X hpl (by rw [hk] at hk'; exact hk')
  · exact hR.row_bk hpl (b := false) (fun x => by cases x) (by rw [hk] at hk'; exact hk')
  · exact hR.row_bk hpl (b := true) (fun _ => h0) (by rw [hk] at hk'; exact hk')
  · exact hR.ap p pl ⟨hp.1, by rw [hn]; exact fun x => by cases x⟩ hpl (fun x => hp.2 (by rw [x]; rfl)) k hk hk'
/-- A row that lies last is laid at its place. -/
theorem put_back {pp : Option Addr} {cc : Nat} (h : Apt W w (l ++ [obE pp cc q])) (hi : l[i]? = some (obR u)) (hl : u.A.live pl) (hh : u.h = some pl) : Apt W (w.setCell ⟨u.bk pl.1, pl.2, none⟩ (.slice pp q.length cc)) (l.set i (obR (u.st pl q pp cc))) := by
  have hlt : i < l.length := (List.getElem?_eq_some_iff.1 hi).1
  have hi2 : (l ++ [obE pp cc q])[i]? = some (obR u) := by rw [List.getElem?_append_left hlt]; exact hi
  have hR : RM w u := h.all i _ hi2
  have hv : Vec w 30 4 pp q.length cc (enL q) := h.all _ _ (at_end _ _)
  refine h.join hi (hR.puts hl hh hv fun k hk hk' => h.apart l.length i _ _ (at_end _ _) hi2 (by omega) k hk hk') ?_ fun k hk => ?_
  · exact (Out.refl _ w).setCell (a := ⟨u.bk pl.1, pl.2, none⟩) (.inl (RM.bkG (RM.old_pos hl))) _
  · rcases RM.puts_foot hh hk with q | q
    · exact .inl q
    · exact .inr (.inl q)
theorem store_s {pp : Option Addr} {cc : Nat} (h : Apt W w (l ++ [obE pp cc q])) (hi : l[i]? = some (obR u)) (hl : u.A.live pl) (hn : u.h = none) : Apt W (w.setCell ⟨u.bk pl.1, pl.2, none⟩ (.slice pp q.length cc)) (l.set i (obR (u.st pl q pp cc))) := by
  have hlt : i < l.length := (List.getElem?_eq_some_iff.1 hi).1
  have hi2 : (l ++ [obE pp cc q])[i]? = some (obR u) := by rw [List.getElem?_append_left hlt]; exact hi
  have h2 := (take_s h hi2 hl hn).front
  rw [List.set_append_left (h := hlt)] at h2
  have h3 := put_back h2 (pl := pl) (u := u.hole pl) (by rw [List.getElem?_set_self hlt]) hl rfl
  rw [List.set_set] at h3
  exact h3
end
end Go.Proofs.Ythjcdloaclailaa.Tb
