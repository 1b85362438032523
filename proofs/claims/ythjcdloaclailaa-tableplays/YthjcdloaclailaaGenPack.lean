/-
  Several objects that lie apart, taken together as one: one of them is turned as if it lay alone. No condition but those told at each sentence.
-/
import Derived.Test.YthjcdloaclailaaGenSep
namespace Go.Proofs.Ythjcdloaclailaa
open Go.RowKit Go.Deep

def obNo : Ob := ⟨fun _ => True, fun _ => False, fun _ _ _ _ _ _ => trivial, fun _ _ _ h => h.elim⟩
def obPack (m : List Ob) : Ob where
  P w := (∀ (i : Nat) (o : Ob), m[i]? = some o → o.P w) ∧ ∀ (i j : Nat) (o u : Ob), m[i]? = some o → m[j]? = some u → i ≠ j → ∀ k, o.F k → ¬ u.F k
  F k := ∃ (i : Nat) (o : Ob), m[i]? = some o ∧ o.F k
  st w w' G h ho hd := ⟨fun i o hi => o.st w w' G (h.1 i o hi) ho fun k hk => hd k ⟨i, o, hi, hk⟩, h.2⟩
  lt w k h hk := by
    obtain ⟨i, o, hi, hk⟩ := hk
    exact o.lt w k (h.1 i o hi) hk
namespace Apt
variable {W w w' : World} {l m : List Ob} {i j : Nat} {o o' u : Ob}
theorem same {l2 : List Ob} (h : Apt W w l) (p : l.Perm l2) : Apt W w l2 := by
  have R : ∀ {x y : Ob}, (∀ k, x.F k → ¬ y.F k) → ∀ k, y.F k → ¬ x.F k := fun h k a b => h k b a
  have hp : l.Pairwise fun x y => ∀ k, x.F k → ¬ y.F k := by
    rw [List.pairwise_iff_getElem]
    intro i j hi hj hij
    exact h.apart i j _ _ (List.getElem?_eq_getElem hi) (List.getElem?_eq_getElem hj) (by omega)
  have hp2 := (p.pairwise_iff R).1 hp
  rw [List.pairwise_iff_getElem] at hp2
  have mem : ∀ {i : Nat} {x : Ob}, l2[i]? = some x → ∃ j : Nat, l[j]? = some x := fun {i x} hi => List.mem_iff_getElem?.1 (p.mem_iff.2 (List.mem_iff_getElem?.2 ⟨i, hi⟩))
  refine ⟨h.grown, fun i x hi => ?_, fun i x hi => ?_, fun a b x y hx hy hab => ?_⟩
  · obtain ⟨j, hj⟩ := mem hi
    exact h.all j x hj
  · obtain ⟨j, hj⟩ := mem hi
    exact h.base j x hj
  · obtain ⟨ha, ea⟩ := List.getElem?_eq_some_iff.1 hx
    obtain ⟨hb, eb⟩ := List.getElem?_eq_some_iff.1 hy
    subst ea
    subst eb
    rcases Nat.lt_or_gt_of_ne hab with h | h
    · exact hp2 a b ha hb h
    · exact R (hp2 b a hb ha h)
/-- The objects of one that is a pack, each by itself. -/
theorem unpack (h : Apt W w l) (hi : l[i]? = some (obPack m)) : Apt W w (l.set i obNo ++ m) := by
  have hlt : i < l.length := (List.getElem?_eq_some_iff.1 hi).1
  have hP := h.all i _ hi
  have get : ∀ {j : Nat} {x : Ob}, (l.set i obNo ++ m)[j]? = some x → (j < l.length ∧ (x = obNo ∨ (j ≠ i ∧ l[j]? = some x))) ∨ (l.length ≤ j ∧ m[j - l.length]? = some x) := fun {j x} hj => by
    by_cases hjl : j < l.length
    · rw [List.getElem?_append_left (by simpa using hjl), List.getElem?_set] at hj
      by_cases e : i = j
      · rw [if_pos e, if_pos hlt] at hj
        exact .inl ⟨hjl, .inl (Option.some.inj hj).symm⟩
      · rw [if_neg e] at hj
        exact .inl ⟨hjl, .inr ⟨fun x => e x.symm, hj⟩⟩
    · rw [List.getElem?_append_right (by simpa using hjl)] at hj
      exact .inr ⟨by omega, by simpa using hj⟩
  refine ⟨h.grown, fun j x hj => ?_, fun j x hj k hk => ?_, fun a b x y hx hy hab k hk hk' => ?_⟩
  · rcases get hj with ⟨_, rfl | ⟨_, e⟩⟩ | ⟨_, e⟩
    · trivial
    · exact h.all j x e
    · exact hP.1 _ x e
  · rcases get hj with ⟨_, rfl | ⟨_, e⟩⟩ | ⟨_, e⟩
    · exact hk.elim
    · exact h.base j x e k hk
    · exact h.base i _ hi k ⟨_, x, e, hk⟩
  · rcases get hx with ⟨_, rfl | ⟨ha, ea⟩⟩ | ⟨ha, ea⟩
    · exact hk.elim
    · rcases get hy with ⟨_, rfl | ⟨hb, eb⟩⟩ | ⟨hb, eb⟩
      · exact hk'.elim
      · exact h.apart a b x y ea eb hab k hk hk'
      · exact h.apart a i x _ ea hi ha k hk ⟨_, y, eb, hk'⟩
    · rcases get hy with ⟨_, rfl | ⟨hb, eb⟩⟩ | ⟨hb, eb⟩
      · exact hk'.elim
      · exact h.apart b i y _ eb hi hb k hk' ⟨_, x, ea, hk⟩
      · exact hP.2 _ _ x y ea eb (by omega) k hk hk'
/-- The last objects, taken together, in a place that is free. -/
theorem repack (h : Apt W w (l ++ m)) (hi : l[i]? = some obNo) : Apt W w (l.set i (obPack m)) := by
  have hlt : i < l.length := (List.getElem?_eq_some_iff.1 hi).1
  have get : ∀ {j : Nat} {x : Ob}, (l.set i (obPack m))[j]? = some x → (j = i ∧ x = obPack m) ∨ (j ≠ i ∧ j < l.length ∧ (l ++ m)[j]? = some x) := fun {j x} hj => by
    rw [List.getElem?_set] at hj
    by_cases e : i = j
    · rw [if_pos e, if_pos hlt] at hj
      exact .inl ⟨e.symm, (Option.some.inj hj).symm⟩
    · rw [if_neg e] at hj
      have := (List.getElem?_eq_some_iff.1 hj).1
      exact .inr ⟨fun x => e x.symm, this, by rw [List.getElem?_append_left this]; exact hj⟩
  have inm : ∀ {j : Nat} {x : Ob}, m[j]? = some x → (l ++ m)[l.length + j]? = some x := fun {j x} hj => by rw [List.getElem?_append_right (by omega), Nat.add_sub_cancel_left]; exact hj
  have ap : ∀ {j : Nat} {x : Ob}, j < l.length → (l ++ m)[j]? = some x → ∀ k, x.F k → ¬ (obPack m).F k := fun {j x} hj hx k hk ⟨a, y, ha, hk'⟩ => h.apart j (l.length + a) x y hx (inm ha) (by omega) k hk hk'
  refine ⟨h.grown, fun j x hj => ?_, fun j x hj k hk => ?_, fun a b x y hx hy hab k hk hk' => ?_⟩
  · rcases get hj with ⟨_, rfl⟩ | ⟨_, _, e⟩
    · exact ⟨fun a y ha => h.all _ y (inm ha), fun a b y z ha hb hab => h.apart _ _ y z (inm ha) (inm hb) (by omega)⟩
    · exact h.all j x e
  · rcases get hj with ⟨_, rfl⟩ | ⟨_, _, e⟩
    · obtain ⟨a, y, ha, hk⟩ := hk
      exact h.base _ y (inm ha) k hk
    · exact h.base j x e k hk
  · rcases get hx with ⟨ea, rfl⟩ | ⟨ha, ha', ea⟩
    · rcases get hy with ⟨eb, rfl⟩ | ⟨hb, hb', eb⟩
      · omega
      · exact ap hb' eb k hk' hk
    · rcases get hy with ⟨eb, rfl⟩ | ⟨hb, hb', eb⟩
      · exact ap ha' ea k hk hk'
      · exact h.apart a b x y ea eb hab k hk hk'
/-- Where an object of the pack stands once the pack is open. -/
theorem at_inner {n : Ob} (hj : m[j]? = some o) : (l.set i n ++ m)[l.length + j]? = some o := by
  rw [List.getElem?_append_right (by simp), List.length_set, Nat.add_sub_cancel_left]
  exact hj
theorem outer (hi : l[i]? = some (obPack m)) (h : Apt W w ((l.set i obNo ++ m).set (l.length + j) o')) : Apt W w (l.set i (obPack (m.set j o'))) := by
  have hlt : i < l.length := (List.getElem?_eq_some_iff.1 hi).1
  rw [List.set_append_right (h := by simp), List.length_set, Nat.add_sub_cancel_left] at h
  have := h.repack (i := i) (by rw [List.getElem?_set_self hlt])
  rwa [List.set_set] at this
theorem outer1 (hi : l[i]? = some (obPack m)) (h : Apt W w ((l.set i obNo ++ m).set (l.length + j) o' ++ [u])) : Apt W w (l.set i (obPack (m.set j o')) ++ [u]) := by
  have hlt : i < l.length := (List.getElem?_eq_some_iff.1 hi).1
  rw [List.set_append_right (h := by simp), List.length_set, Nat.add_sub_cancel_left] at h
  have h2 : Apt W w ((l.set i obNo ++ [u]) ++ m.set j o') := h.same (by
    rw [List.append_assoc, List.append_assoc]
    exact List.Perm.append_left _ List.perm_append_comm)
  have := h2.repack (i := i) (by rw [List.getElem?_append_left (by simpa using hlt), List.getElem?_set_self hlt])
  rwa [List.set_append_left (h := by simpa using hlt), List.set_set] at this
/-- A new pack. -/
theorem packed (h : Apt W w (l ++ m)) : Apt W w (l ++ [obPack m]) := by
  have h2 : Apt W w ((l ++ [obNo]) ++ m) := by
    have h1 : Apt W w ((l ++ m) ++ [obNo]) := h.add (Grown.refl _) trivial fun _ => False.elim
    refine h1.same ?_
    rw [List.append_assoc, List.append_assoc]
    exact List.Perm.append_left _ List.perm_append_comm
  have := h2.repack (i := l.length) (by simp)
  simpa using this
end Apt
/-- A block whose cells are known. -/
def obBlk (A : Nat) (ty : TypeId) (cs : Array Value) : Ob :=
  ⟨fun w => w.heap[A]? = some (.cells cs ty (0, 0)), fun k => k = A, fun _ _ _ h o hd => (o.block A (Array.getElem?_eq_some_iff.1 h).1 (hd A rfl)).trans h, fun _ _ h hk => by rw [hk]; exact (Array.getElem?_eq_some_iff.1 h).1⟩
end Go.Proofs.Ythjcdloaclailaa
