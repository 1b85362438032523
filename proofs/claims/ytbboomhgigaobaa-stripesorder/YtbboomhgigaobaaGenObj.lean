/-
  A struct at a block of its own, and slices beside it, each in a block of its own: what writes into its cells, and append, make of it. No condition but those told at each sentence.
-/
import Derived.Test.YtbboomhgigaobaaGenVec
namespace Go.Proofs.Ytbboomhgigaobaa
open Go.RowKit Go.Deep

/-- A slice, and what its cells hold. -/
structure Vd where
  e : TypeId
  s : Nat
  p : Option Addr
  n : Nat
  c : Nat
  f : Nat → Value
def Vd.On (V : Vd) (w : World) : Prop := Vec w V.e V.s V.p V.n V.c V.f

structure Hold (w : World) (A : Nat) (ty : TypeId) (hd : Array Value) (vs : List Vd) : Prop where
  head : w.heap[A]? = some (.cells hd ty (0, 0))
  vec : ∀ (i : Nat) (V : Vd), vs[i]? = some V → V.On w
  self : ∀ (i : Nat) (V : Vd), vs[i]? = some V → ¬ In V.p A
  apart : ∀ (i j : Nat) (V U : Vd), vs[i]? = some V → vs[j]? = some U → i ≠ j → ∀ k, In V.p k → ¬ In U.p k
def Foot (A : Nat) (vs : List Vd) (k : Nat) : Prop := k = A ∨ ∃ (i : Nat) (V : Vd), vs[i]? = some V ∧ In V.p k

namespace Hold
variable {w w' : World} {A : Nat} {ty : TypeId} {hd : Array Value} {vs : List Vd} {i : Nat} {V : Vd}
theorem lt (h : Hold w A ty hd vs) : A < w.heap.size := (Array.getElem?_eq_some_iff.1 h.head).1
theorem foot_lt (h : Hold w A ty hd vs) {k : Nat} (hk : Foot A vs k) : k < w.heap.size := by
  rcases hk with rfl | ⟨i, V, hi, hk⟩
  · exact h.lt
  · exact (h.vec i V hi).lt hk
theorem cell (h : Hold w A ty hd vs) (k : Nat) {v : Value} (hk : hd[k]? = some v) : w.cell? ⟨A, k, none⟩ = some v := by simp only [World.cell?, h.head]; simp [hk]
theorem frozen (h : Hold w A ty hd vs) (k : Nat) : w.frozen? ⟨A, k, none⟩ = false := by simp [World.frozen?, h.head]
theorem keep (h : Hold w A ty hd vs) (hk : ∀ k, Foot A vs k → w'.heap[k]? = w.heap[k]?) : Hold w' A ty hd vs :=
  ⟨(hk A (Or.inl rfl)).trans h.head, fun i V hi => by
    rcases h.vec i V hi with hv | ⟨B, cur, h1, h2, h3⟩
    · exact Or.inl hv
    · exact Or.inr ⟨B, cur, h1, (hk B (Or.inr ⟨i, V, hi, h1⟩)).trans h2, h3⟩, h.self, h.apart⟩
theorem out {F : Nat → Prop} (h : Hold w A ty hd vs) (o : Out F w w') (hF : ∀ k, Foot A vs k → ¬ F k) : Hold w' A ty hd vs := h.keep fun k hk => o.block k (h.foot_lt hk) (hF k hk)
theorem grown (h : Hold w A ty hd vs) (g : Grown w w') : Hold w' A ty hd vs := h.keep fun _ hk => grown_block g (h.foot_lt hk)
theorem drewN (h : Hold w A ty hd vs) (n : Nat) : Hold (w.drewN n) A ty hd vs := h.keep fun _ _ => rfl
theorem drew (h : Hold w A ty hd vs) : Hold w.drew A ty hd vs := h.keep fun _ _ => rfl
/-- A cell of the struct, written. -/
theorem setHead (h : Hold w A ty hd vs) (k : Nat) (v : Value) : Hold (w.setCell ⟨A, k, none⟩ v) A ty (hd.setIfInBounds k v) vs :=
  ⟨by simp [World.setCell, Array.getElem?_modify, h.head], fun i V hi => (h.vec i V hi).out (F := fun x => x = A) ((Out.refl (fun x => x = A) w).setCell (a := ⟨A, k, none⟩) rfl _) (fun x hx e => h.self i V hi (by rw [← e]; exact hx)), h.self, h.apart⟩
/-- Another description of the slice i, which lies where it lay or in a new block. -/
theorem upd {hd' : Array Value} {U : Vd} {b : Nat} (h : Hold w A ty hd vs) (hi : vs[i]? = some V) (hhd : w'.heap[A]? = some (.cells hd' ty (0, 0))) (hU : U.On w') (ho : ∀ k, k < w.heap.size → k ≠ A → ¬ In V.p k → w'.heap[k]? = w.heap[k]?) (hp : ∀ k, In U.p k → In V.p k ∨ b ≤ k) (hb : w.heap.size ≤ b) : Hold w' A ty hd' (vs.set i U) := by
  have hlt : i < vs.length := (List.getElem?_eq_some_iff.1 hi).1
  have hne : ∀ {j : Nat} {X : Vd}, j ≠ i → vs[j]? = some X → ∀ k, In X.p k → ¬ In U.p k := fun {j X} hj hX k hk hu => by
    rcases hp k hu with e | e
    · exact h.apart j i X V hX hi hj k hk e
    · have := (h.vec j X hX).lt hk; omega
  have get : ∀ {j : Nat} {X : Vd}, (vs.set i U)[j]? = some X → (j = i ∧ X = U) ∨ (j ≠ i ∧ vs[j]? = some X) := fun {j X} hj => by
    rw [List.getElem?_set] at hj
    by_cases e : i = j
    · rw [if_pos e, if_pos hlt] at hj
      exact Or.inl ⟨e.symm, (Option.some.inj hj).symm⟩
    · rw [if_neg e] at hj
      exact Or.inr ⟨fun h => e h.symm, hj⟩
  refine ⟨hhd, fun j X hX => ?_, fun j X hX => ?_, fun j l X Y hX hY hjl k hk hk' => ?_⟩
  · rcases get hX with ⟨rfl, rfl⟩ | ⟨hj, hX⟩
    · exact hU
    · rcases h.vec j X hX with hv | ⟨B, cur, h1, h2, h3⟩
      · exact Or.inl hv
      · refine Or.inr ⟨B, cur, h1, (ho B (Array.getElem?_eq_some_iff.1 h2).1 (fun e => h.self j X hX (by subst e; exact h1)) (fun e => h.apart j i X V hX hi hj B h1 e)).trans h2, h3⟩
  · rcases get hX with ⟨rfl, rfl⟩ | ⟨hj, hX⟩
    · intro e
      rcases hp _ e with e | e
      · exact h.self _ _ hi e
      · have := h.lt; omega
    · exact h.self j X hX
  · rcases get hX with ⟨rfl, rfl⟩ | ⟨hj, hX⟩
    · rcases get hY with ⟨rfl, rfl⟩ | ⟨hl, hY⟩
      · exact hjl rfl
      · exact hne hl hY k hk' hk
    · rcases get hY with ⟨e1, e2⟩ | ⟨hl, hY⟩
      · rw [e2] at hk'; exact hne hj hX k hk hk'
      · exact h.apart j l X Y hX hY hjl k hk hk'
/-- The slice i told otherwise. -/
theorem retell (h : Hold w A ty hd vs) (hi : vs[i]? = some V) (n' : Nat) (f' : Nat → Value) (hn : n' ≤ V.n) (hf : ∀ j, j < n' * V.s → V.f j = f' j) : Hold w A ty hd (vs.set i { V with n := n', f := f' }) :=
  h.upd (b := w.heap.size) hi h.head (show Vec w V.e V.s V.p n' V.c f' from ((h.vec i V hi).take hn).congr hf) (fun _ _ _ _ => rfl) (fun _ => Or.inl) (Nat.le_refl _)
/-- A cell of the slice i, written. -/
theorem setElem {B : Nat} (h : Hold w A ty hd vs) (hi : vs[i]? = some V) (hp : V.p = some ⟨B, 0, none⟩) (j : Nat) (v : Value) : Hold (w.setCell ⟨B, j, none⟩ v) A ty hd (vs.set i { V with f := fun x => if x = j then v else V.f x }) := by
  have hA : A ≠ B := fun e => h.self i V hi (by rw [hp, e]; exact In.self B)
  have hv := h.vec i V hi
  unfold Vd.On at hv
  refine h.upd (b := w.heap.size) hi ((blk_setCell_other _ _ _ _ hA).trans h.head) ?_ (fun k _ _ hk => blk_setCell_other _ _ _ _ (fun e => hk (by rw [hp, e]; exact In.self B))) (fun _ => Or.inl) (Nat.le_refl _)
  show Vec _ V.e V.s V.p V.n V.c _
  rw [hp] at hv ⊢
  exact hv.set j v
/-- append to the slice i, and the slice stored at the struct's cell k. -/
theorem append {w2 : World} {tmp : Array Value} {y : TypeId} {p' : Option Addr} {n' c' k : Nat} {f' : Nat → Value} (h : Hold w A ty hd vs) (hi : vs[i]? = some V) (hk : hd[k]? = some (.slice V.p V.n V.c))
    (hv : Vec w2 V.e V.s p' n' c' f') (o : Out (In V.p) (w.alloc (.cells tmp y)) w2) (hp : p' = V.p ∨ p' = some ⟨(w.alloc (.cells tmp y)).heap.size, 0, none⟩) :
    w2.cell? ⟨A, k, none⟩ = some (.slice V.p V.n V.c) ∧ w2.frozen? ⟨A, k, none⟩ = false ∧ Hold (w2.setCell ⟨A, k, none⟩ (.slice p' n' c')) A ty (hd.setIfInBounds k (.slice p' n' c')) (vs.set i ⟨V.e, V.s, p', n', c', f'⟩) ∧
      Step (Foot A vs) (Foot A (vs.set i ⟨V.e, V.s, p', n', c', f'⟩)) w (w2.setCell ⟨A, k, none⟩ (.slice p' n' c')) := by
  have hself := h.self i V hi
  have hA : w2.heap[A]? = some (.cells hd ty (0, 0)) := (o.block A (by rw [nblk_alloc]; have := h.lt; omega) hself).trans ((grown_block ((Grown.refl w).alloc _ _) h.lt).trans h.head)
  have hnew : ∀ k, In p' k → In V.p k ∨ w.heap.size + 1 ≤ k := fun k hk => by
    rcases hp with rfl | rfl
    · exact Or.inl hk
    · rw [hk.eq, nblk_alloc]; exact Or.inr (Nat.le_refl _)
  have hnA : ¬ In p' A := fun e => by
    rcases hnew _ e with e | e
    · exact hself e
    · have := h.lt; omega
  refine ⟨by simp only [World.cell?, hA]; simp [hk], by simp [World.frozen?, hA], h.upd (b := w.heap.size + 1) hi (by simp [World.setCell, Array.getElem?_modify, hA]) (show Vec _ V.e V.s p' n' c' f' from hv.out (F := fun x => x = A) ((Out.refl (fun x => x = A) w2).setCell (a := ⟨A, k, none⟩) rfl _) (fun x hx e => hnA (by rw [← e]; exact hx))) (fun x hx h1 h2 => ?_) hnew (by omega), ?_, fun x hx => ?_⟩
  · rw [blk_setCell_other _ _ _ _ h1, o.block x (by rw [nblk_alloc]; omega) h2, grown_block ((Grown.refl w).alloc _ _) hx]
  · exact ((Out.after ((Grown.refl w).alloc _ _) (o.wide (G := Foot A vs) fun k _ h => Or.inr ⟨i, V, hi, h⟩)).setCell (a := ⟨A, k, none⟩) (Or.inl rfl) _)
  · rcases hx with rfl | ⟨j, X, hX, hx⟩
    · exact Or.inl (Or.inl rfl)
    · rw [List.getElem?_set] at hX
      by_cases e : i = j
      · subst e
        rw [if_pos rfl] at hX
        split at hX
        · cases hX
          rcases hnew _ hx with h | h
          · exact Or.inl (Or.inr ⟨i, V, hi, h⟩)
          · exact Or.inr (by omega)
        · cases hX
      · rw [if_neg e] at hX
        exact Or.inl (Or.inr ⟨j, X, hX, hx⟩)
end Hold
/-- The blocks of slices that lie where they lay. -/
theorem foot_same {A : Nat} {vs us : List Vd} (h : vs.map (·.p) = us.map (·.p)) : Foot A vs = Foot A us := by
  have get : ∀ {vs us : List Vd}, vs.map (·.p) = us.map (·.p) → ∀ k, (∃ (i : Nat) (V : Vd), vs[i]? = some V ∧ In V.p k) → ∃ (i : Nat) (V : Vd), us[i]? = some V ∧ In V.p k := fun {vs us} h k ⟨i, V, hi, hk⟩ => by
    have e : (us.map (·.p))[i]? = some V.p := by rw [← h, List.getElem?_map, hi]; rfl
    rw [List.getElem?_map] at e
    obtain ⟨U, hU, hp⟩ := Option.map_eq_some_iff.1 e
    exact ⟨i, U, hU, by rw [hp]; exact hk⟩
  funext k
  exact propext ⟨fun hk => hk.imp id (get h k), fun hk => hk.imp id (get h.symm k)⟩
theorem foot_cast {A k : Nat} {vs us : List Vd} (h : vs.map (·.p) = us.map (·.p)) (hk : Foot A vs k) : Foot A us k := by rw [← foot_same h]; exact hk
/-- Writes into an object's own blocks. -/
theorem out_foot {w w' : World} {A : Nat} {vs : List Vd} {F : Nat → Prop} (o : Out F w w') (hF : ∀ k, F k → Foot A vs k) : Out (Foot A vs) w w' := o.wide fun k _ h => hF k h
end Go.Proofs.Ytbboomhgigaobaa
