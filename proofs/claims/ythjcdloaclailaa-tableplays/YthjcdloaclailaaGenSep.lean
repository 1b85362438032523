/-
  Objects that lie apart from one another, all of them made since a world W: one of them turns, one comes, one goes. No condition but those told at each sentence.
-/
import Derived.Test.YthjcdloaclailaaGenVec
namespace Go.Proofs.Ythjcdloaclailaa
open Go.RowKit Go.Deep

/-- An object: what holds of it in a world, and its blocks. -/
structure Ob where
  P : World → Prop
  F : Nat → Prop
  st : ∀ w w' G, P w → Out G w w' → (∀ k, F k → ¬ G k) → P w'
  lt : ∀ w k, P w → F k → k < w.heap.size

structure Apt (W w : World) (l : List Ob) : Prop where
  grown : Grown W w
  all : ∀ (i : Nat) (o : Ob), l[i]? = some o → o.P w
  base : ∀ (i : Nat) (o : Ob), l[i]? = some o → ∀ k, o.F k → W.heap.size ≤ k
  apart : ∀ (i j : Nat) (o u : Ob), l[i]? = some o → l[j]? = some u → i ≠ j → ∀ k, o.F k → ¬ u.F k
namespace Apt
variable {W w w' : World} {l : List Ob} {i : Nat} {o o' u : Ob}
theorem none (g : Grown W w) : Apt W w [] := ⟨g, fun i o h => by simp at h, fun i o h => by simp at h, fun i j o u h => by simp at h⟩
theorem more (h : Apt W w l) (g : Grown w w') : Apt W w' l :=
  ⟨grownTrans h.grown g, fun i o hi => o.st w w' (fun _ => False) (h.all i o hi) (Out.of_grown g _) fun _ _ => id, h.base, h.apart⟩
theorem drewN (h : Apt W w l) (n : Nat) : Apt W (w.drewN n) l := h.more (grownDrewN (Grown.refl _) _)
theorem drew (h : Apt W w l) : Apt W w.drew l := h.more (Grown.refl _).drew
/-- One object turns, and another may come of it. -/
theorem both (h : Apt W w l) (hi : l[i]? = some o) (hp : o'.P w') (hu : u.P w') (s : Step o.F o'.F w w') (hn : ∀ k, u.F k → o.F k ∨ w.heap.size ≤ k) (ha : ∀ k, o'.F k → ¬ u.F k) : Apt W w' (l.set i o' ++ [u]) := by
  have hlt : i < l.length := (List.getElem?_eq_some_iff.1 hi).1
  have get : ∀ {j : Nat} {x : Ob}, (l.set i o' ++ [u])[j]? = some x → (j = i ∧ x = o') ∨ (j ≠ i ∧ l[j]? = some x) ∨ (j = l.length ∧ x = u) := fun {j x} hj => by
    by_cases hjl : j < l.length
    · rw [List.getElem?_append_left (by simpa using hjl), List.getElem?_set] at hj
      by_cases e : i = j
      · rw [if_pos e, if_pos hlt] at hj
        exact .inl ⟨e.symm, (Option.some.inj hj).symm⟩
      · rw [if_neg e] at hj
        exact .inr (.inl ⟨fun x => e x.symm, hj⟩)
    · rw [List.getElem?_append_right (by simpa using hjl)] at hj
      obtain ⟨h1, h2⟩ := List.getElem?_eq_some_iff.1 hj
      simp at h1
      exact .inr (.inr ⟨by omega, by rw [← h2]; simp⟩)
  have oldlt : ∀ {j : Nat} {x : Ob}, l[j]? = some x → ∀ k, x.F k → k < w.heap.size := fun {j x} hj k hk => x.lt w k (h.all j x hj) hk
  have b0 := h.grown.2.2
  have fo : ∀ {j : Nat} {x : Ob}, j ≠ i → l[j]? = some x → ∀ k, x.F k → ¬ o'.F k := fun {j x} hj hx k hk hk' => by
    rcases s.new k hk' with q | q
    · exact h.apart j i x o hx hi hj k hk q
    · have := oldlt hx k hk; omega
  have fu : ∀ {j : Nat} {x : Ob}, j ≠ i → l[j]? = some x → ∀ k, x.F k → ¬ u.F k := fun {j x} hj hx k hk hk' => by
    rcases hn k hk' with q | q
    · exact h.apart j i x o hx hi hj k hk q
    · have := oldlt hx k hk; omega
  refine ⟨(s.keeps h.grown (h.base i o hi)).1, fun j x hj => ?_, fun j x hj k hk => ?_, fun a b x y hx hy hab k hk hk' => ?_⟩
  · rcases get hj with ⟨_, rfl⟩ | ⟨hj, hx⟩ | ⟨_, rfl⟩
    · exact hp
    · exact x.st w w' o.F (h.all j x hx) s.out (h.apart j i x o hx hi hj)
    · exact hu
  · rcases get hj with ⟨_, rfl⟩ | ⟨hj, hx⟩ | ⟨_, rfl⟩
    · exact (s.keeps h.grown (h.base i o hi)).2 k hk
    · exact h.base j x hx k hk
    · rcases hn k hk with q | q
      · exact h.base i o hi k q
      · omega
  · rcases get hx with ⟨ea, rfl⟩ | ⟨ha', gx⟩ | ⟨ea, rfl⟩ <;> rcases get hy with ⟨eb, rfl⟩ | ⟨hb', gy⟩ | ⟨eb, rfl⟩
    · omega
    · exact fo hb' gy k hk' hk
    · exact ha k hk hk'
    · exact fo ha' gx k hk hk'
    · exact h.apart a b x y gx gy hab k hk hk'
    · exact fu ha' gx k hk hk'
    · exact ha k hk' hk
    · exact fu hb' gy k hk' hk
    · omega
/-- An object of the first ones. -/
theorem front (h : Apt W w (l ++ [u])) : Apt W w l :=
  ⟨h.grown, fun i o hi => h.all i o (by rw [List.getElem?_append_left (List.getElem?_eq_some_iff.1 hi).1]; exact hi), fun i o hi => h.base i o (by rw [List.getElem?_append_left (List.getElem?_eq_some_iff.1 hi).1]; exact hi),
    fun i j o u hi hj => h.apart i j o u (by rw [List.getElem?_append_left (List.getElem?_eq_some_iff.1 hi).1]; exact hi) (by rw [List.getElem?_append_left (List.getElem?_eq_some_iff.1 hj).1]; exact hj)⟩
/-- One object turns. -/
theorem upd (h : Apt W w l) (hi : l[i]? = some o) (hp : o'.P w') (s : Step o.F o'.F w w') : Apt W w' (l.set i o') :=
  front (u := ⟨fun _ => True, fun _ => False, fun _ _ _ _ _ _ => trivial, fun _ _ _ h => h.elim⟩) (h.both hi hp trivial s (fun _ => False.elim) fun _ _ => id)
/-- One object comes. -/
theorem add (h : Apt W w l) (g : Grown w w') (hu : u.P w') (hn : ∀ k, u.F k → w.heap.size ≤ k) : Apt W w' (l ++ [u]) := by
  have h' := h.more g
  have get : ∀ {j : Nat} {x : Ob}, (l ++ [u])[j]? = some x → l[j]? = some x ∨ (j = l.length ∧ x = u) := fun {j x} hj => by
    by_cases hjl : j < l.length
    · rw [List.getElem?_append_left hjl] at hj
      exact .inl hj
    · rw [List.getElem?_append_right (by omega)] at hj
      obtain ⟨h1, h2⟩ := List.getElem?_eq_some_iff.1 hj
      simp at h1
      exact .inr ⟨by omega, by rw [← h2]; simp⟩
  have oldlt : ∀ {j : Nat} {x : Ob}, l[j]? = some x → ∀ k, x.F k → k < w.heap.size := fun {j x} hj k hk => x.lt w k (h.all j x hj) hk
  refine ⟨h'.grown, fun j x hj => ?_, fun j x hj k hk => ?_, fun a b x y hx hy hab k hk hk' => ?_⟩
  · rcases get hj with hj | ⟨_, rfl⟩
    · exact h'.all j x hj
    · exact hu
  · rcases get hj with hj | ⟨_, rfl⟩
    · exact h'.base j x hj k hk
    · have := hn k hk; have := h.grown.2.2; omega
  · rcases get hx with gx | ⟨ea, rfl⟩ <;> rcases get hy with gy | ⟨eb, rfl⟩
    · exact h.apart a b x y gx gy hab k hk hk'
    · have := oldlt gx k hk; have := hn k hk'; omega
    · have := oldlt gy k hk'; have := hn k hk; omega
    · omega
/-- Two objects change their places. -/
theorem perm {l2 : List Ob} (h : Apt W w l) (p : Nat → Nat) (hp : ∀ (i : Nat) (o : Ob), l2[i]? = some o → l[p i]? = some o) (hinj : ∀ i j : Nat, i < l2.length → j < l2.length → i ≠ j → p i ≠ p j) : Apt W w l2 :=
  ⟨h.grown, fun i o hi => h.all _ o (hp i o hi), fun i o hi => h.base _ o (hp i o hi), fun i j o u hi hj hij => h.apart _ _ o u (hp i o hi) (hp j u hj) (hinj i j (List.getElem?_eq_some_iff.1 hi).1 (List.getElem?_eq_some_iff.1 hj).1 hij)⟩
end Apt
/-- A slice in a block of its own. -/
def obVec (e : TypeId) (s : Nat) (p : Option Addr) (n c : Nat) (f : Nat → Value) : Ob :=
  ⟨fun w => Vec w e s p n c f, In p, fun _ _ _ h o hd => h.out o hd, fun _ _ h hk => h.lt hk⟩
end Go.Proofs.Ythjcdloaclailaa
