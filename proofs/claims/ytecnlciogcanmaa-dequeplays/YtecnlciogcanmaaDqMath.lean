/-
  Rows of numbers, told apart from memory: elements linked in rings; what is added at a ring's end, and cut out of it; the rows that they make. No condition but those told at each sentence.
-/
import Derived.Test.YtecnlciogcanmaaGenMap
namespace Go.Proofs.Ytecnlciogcanmaa

/-- What an element holds: its number, weight and row, and which one is ahead of it, and behind it. -/
structure El where
  id : Int
  wt : Int
  ls : Int
  pv : Nat
  nx : Nat
/-- One behind the other. -/
def Links (E : Nat → El) : List Nat → Prop
  | a :: b :: r => (E a).nx = b ∧ (E b).pv = a ∧ Links E (b :: r)
  | _ => True
theorem links_split (E : Nat → El) (a : Nat) (l2 : List Nat) : ∀ l1 : List Nat, Links E (l1 ++ a :: l2) ↔ Links E (l1 ++ [a]) ∧ Links E (a :: l2)
  | [] => by simp [Links]
  | [x] => by
    show (E x).nx = a ∧ (E a).pv = x ∧ Links E (a :: l2) ↔ ((E x).nx = a ∧ (E a).pv = x ∧ True) ∧ Links E (a :: l2)
    simp [and_assoc]
  | x :: y :: r => by
    have ih := links_split E a l2 (y :: r)
    show (E x).nx = y ∧ (E y).pv = x ∧ Links E ((y :: r) ++ a :: l2) ↔ ((E x).nx = y ∧ (E y).pv = x ∧ Links E ((y :: r) ++ [a])) ∧ Links E (a :: l2)
    rw [ih]
    simp [and_assoc]
theorem links_congr {E E' : Nat → El} : ∀ {l : List Nat}, (∀ x ∈ l.dropLast, (E' x).nx = (E x).nx) → (∀ x ∈ l.tail, (E' x).pv = (E x).pv) → Links E l → Links E' l
  | [], _, _, _ => trivial
  | [_], _, _, _ => trivial
  | a :: b :: r, hn, hp, ⟨h1, h2, h3⟩ => by
    refine ⟨(hn a (by simp [List.dropLast])).trans h1, (hp b (by simp)).trans h2, links_congr (fun x hx => hn x (by simp [List.dropLast, hx])) (fun x hx => hp x ?_) h3⟩
    simp only [List.tail_cons] at hx ⊢
    exact List.mem_cons_of_mem _ hx
theorem last_of (h : Nat) (B : List Nat) : ∃ Q p, h :: B = Q ++ [p] := by
  refine ⟨(h :: B).dropLast, (h :: B).getLast (by simp), ?_⟩
  rw [List.dropLast_concat_getLast]
theorem first_of (h : Nat) (S : List Nat) : ∃ n T, S ++ [h] = n :: T := by
  cases S with
  | nil => exact ⟨h, [], rfl⟩
  | cons x r => exact ⟨x, r ++ [h], rfl⟩
/-- A ring: the head, its elements, the head again. -/
def Ring (E : Nat → El) (h : Nat) (B : List Nat) : Prop := Links E (h :: B ++ [h])
variable {E E' : Nat → El} {h e : Nat} {B P S : List Nat}
/-- The last one of a ring, and what the head's says. -/
theorem Ring.last (hr : Ring E h B) : ∃ Q p, h :: B = Q ++ [p] ∧ (E h).pv = p ∧ (E p).nx = h := by
  obtain ⟨Q, p, hq⟩ := last_of h B
  refine ⟨Q, p, hq, ?_⟩
  unfold Ring at hr
  rw [hq, List.append_assoc, List.singleton_append, links_split] at hr
  exact ⟨hr.2.2.1, hr.2.1⟩
theorem Ring.add (hr : Ring E h B) (hd : (h :: B).Nodup) (he : e ∉ h :: B) (hE : ∀ b, b ≠ e → E' b = { E b with nx := if b = (E h).pv then e else (E b).nx, pv := if b = h then e else (E b).pv }) (he1 : (E' e).pv = (E h).pv) (he2 : (E' e).nx = h) : Ring E' h (B ++ [e]) := by
  obtain ⟨Q, p, hq, hp, hn⟩ := hr.last
  rw [hp] at hE he1
  unfold Ring at hr ⊢
  have e1 : h :: (B ++ [e]) ++ [h] = Q ++ p :: [e, h] := by
    rw [show h :: (B ++ [e]) ++ [h] = (h :: B) ++ [e, h] by simp, hq]; simp
  rw [hq, List.append_assoc, List.singleton_append, links_split] at hr
  rw [e1, links_split]
  have hd' := hd
  rw [hq] at hd'
  have hpq : p ∉ Q := fun hx => (List.nodup_append.1 hd').2.2 p hx p (by simp) rfl
  have hph : p ∈ h :: B := by rw [hq]; simp
  have hhe : h ≠ e := fun x => he (by rw [← x]; simp)
  have hpe : p ≠ e := fun x => he (by rw [← x]; exact hph)
  refine ⟨links_congr (fun x hx => ?_) (fun x hx => ?_) hr.1, ?_, ?_, ?_, ?_, trivial⟩
  · rw [List.dropLast_concat] at hx
    have hxe : x ≠ e := fun y => he (by rw [hq, ← y]; simp [hx])
    rw [hE x hxe]
    show (if x = p then e else (E x).nx) = _
    rw [if_neg (fun y => hpq (by rw [← y]; exact hx))]
  · rw [← hq] at hx
    simp only [List.tail_cons] at hx
    have hxe : x ≠ e := fun y => he (by rw [← y]; simp [hx])
    rw [hE x hxe]
    show (if x = h then e else (E x).pv) = _
    rw [if_neg (fun y => (List.nodup_cons.1 hd).1 (by rw [← y]; exact hx))]
  · rw [hE p hpe]; show (if p = p then e else _) = e; rw [if_pos rfl]
  · exact he1
  · exact he2
  · rw [hE h hhe]; show (if h = h then e else _) = e; rw [if_pos rfl]
/-- What is ahead of one of a ring, and behind it. -/
theorem Ring.beside (hr : Ring E h (P ++ e :: S)) : ∃ Q p n T, h :: P = Q ++ [p] ∧ S ++ [h] = n :: T ∧ (E e).pv = p ∧ (E e).nx = n ∧ (E p).nx = e ∧ (E n).pv = e := by
  obtain ⟨Q, p, hq⟩ := last_of h P
  obtain ⟨n, T, ht⟩ := first_of h S
  unfold Ring at hr
  rw [show h :: (P ++ e :: S) ++ [h] = (h :: P) ++ e :: (S ++ [h]) by simp, hq, ht, List.append_assoc, List.singleton_append, links_split] at hr
  exact ⟨Q, p, n, T, hq, ht, hr.2.2.1, hr.2.2.2.1, hr.2.1, hr.2.2.2.2.1⟩
theorem Ring.cut (hr : Ring E h (P ++ e :: S)) (hd : (h :: (P ++ e :: S)).Nodup) (hE : ∀ b, E' b = { E b with nx := if b = (E e).pv then (E e).nx else (E b).nx, pv := if b = (E e).nx then (E e).pv else (E b).pv }) : Ring E' h (P ++ S) := by
  obtain ⟨Q, p, n, T, hq, ht, hp, hn, _, _⟩ := hr.beside
  rw [hp, hn] at hE
  unfold Ring at hr ⊢
  rw [show h :: (P ++ e :: S) ++ [h] = (h :: P) ++ e :: (S ++ [h]) by simp, hq, ht, List.append_assoc, List.singleton_append, links_split] at hr
  rw [show h :: (P ++ S) ++ [h] = (h :: P) ++ (S ++ [h]) by simp, hq, ht, List.append_assoc, List.singleton_append, links_split]
  have hd1 : ((h :: P) ++ e :: S).Nodup := hd
  obtain ⟨n1, n2, n3⟩ := List.nodup_append.1 hd1
  obtain ⟨n4, n5⟩ := List.nodup_cons.1 n2
  have n1' := n1
  rw [hq] at n1'
  have hpq : p ∉ Q := fun hx => (List.nodup_append.1 n1').2.2 p hx p (by simp) rfl
  have hpm : p ∈ h :: P := by rw [hq]; simp
  have hS : n = h ∧ S = [] ∧ T = [] ∨ ∃ S', S = n :: S' ∧ T = S' ++ [h] := by
    cases S with
    | nil => simp at ht; exact Or.inl ⟨ht.1.symm, rfl, ht.2⟩
    | cons x r => simp at ht; exact Or.inr ⟨r, by rw [ht.1], ht.2.symm⟩
  refine ⟨links_congr (fun x hx => ?_) (fun x hx => ?_) hr.1, ?_, ?_, links_congr (fun x hx => ?_) (fun x hx => ?_) hr.2.2.2.2.2⟩
  · rw [List.dropLast_concat] at hx
    rw [hE x]
    show (if x = p then n else (E x).nx) = _
    rw [if_neg (fun y => hpq (by rw [← y]; exact hx))]
  · rw [← hq] at hx
    simp only [List.tail_cons] at hx
    rw [hE x]
    show (if x = n then p else (E x).pv) = _
    refine if_neg fun y => ?_
    rcases hS with ⟨e1, _, _⟩ | ⟨S', e1, _⟩
    · exact (List.nodup_cons.1 n1).1 (by rw [← e1, ← y]; exact hx)
    · exact n3 x (List.mem_cons_of_mem _ hx) x (by rw [e1, y]; simp) rfl
  · rw [hE p]; show (if p = p then n else _) = n; rw [if_pos rfl]
  · rw [hE n]; show (if n = n then p else _) = p; rw [if_pos rfl]
  · have hx' : x ∈ S := by
      rw [← ht, List.dropLast_concat] at hx; exact hx
    rw [hE x]
    show (if x = p then n else (E x).nx) = _
    exact if_neg fun y => n3 x (by rw [y]; exact hpm) x (List.mem_cons_of_mem _ hx') rfl
  · simp only [List.tail_cons] at hx
    rw [hE x]
    show (if x = n then p else (E x).pv) = _
    refine if_neg fun y => ?_
    rcases hS with ⟨_, _, e1⟩ | ⟨S', e1, e2⟩
    · rw [e1] at hx; exact List.not_mem_nil hx
    · rw [e2, List.mem_append] at hx
      rcases hx with hx | hx
      · rw [e1] at n5; exact (List.nodup_cons.1 n5).1 (by rw [← y]; exact hx)
      · simp at hx
        exact n3 h (by simp) h (by rw [e1, ← hx, y]; simp) rfl
/-- A ring all of whose nodes say what they said. -/
theorem Ring.same (hr : Ring E h B) (hE : ∀ b ∈ h :: B, (E' b).nx = (E b).nx ∧ (E' b).pv = (E b).pv) : Ring E' h B := by
  refine links_congr (fun x hx => (hE x ?_).1) (fun x hx => (hE x ?_).2) hr
  · rw [List.dropLast_concat] at hx; exact hx
  · simp at hx
    rcases hx with hx | hx
    · simp [hx]
    · simp [hx]
theorem Ring.at (hr : Ring E h B) : ∀ k, k < B.length → (E ((h :: B).getD k 0)).nx = B.getD k 0 := by
  intro k hk
  have key : ∀ (l : List Nat), Links E l → ∀ k, k + 1 < l.length → (E (l.getD k 0)).nx = l.getD (k + 1) 0 := by
    intro l
    induction l with
    | nil => intro _ k hk; simp at hk
    | cons a r ih =>
      intro hl k hk
      cases r with
      | nil => simp at hk
      | cons b r' =>
        cases k with
        | zero => simpa using hl.1
        | succ k => have := ih hl.2.2 k (by simpa using hk); simpa using this
  have := key _ hr k (by simp; omega)
  rw [show h :: B ++ [h] = (h :: B) ++ [h] from rfl] at this
  rw [show ((h :: B) ++ [h]).getD k 0 = (h :: B).getD k 0 by simp only [List.getD]; rw [List.getElem?_append_left (show k < (h :: B).length by simp; omega)]] at this
  rw [this, show ((h :: B) ++ [h]).getD (k + 1) 0 = (h :: B).getD (k + 1) 0 by simp only [List.getD]; rw [List.getElem?_append_left (show k + 1 < (h :: B).length by simp; omega)]]
  simp

def sumI : List Int → Int
  | [] => 0
  | x :: r => x + sumI r
theorem sumI_append : ∀ (a b : List Int), sumI (a ++ b) = sumI a + sumI b
  | [], b => by simp [sumI]
  | x :: r, b => by simp only [List.cons_append, sumI, sumI_append r b]; omega
theorem sumI_bound {M : Int} (hM : 0 ≤ M) : ∀ (l : List Int), (∀ x ∈ l, 0 ≤ x ∧ x ≤ M) → 0 ≤ sumI l ∧ sumI l ≤ M * l.length
  | [], _ => by simp [sumI]
  | x :: r, h => by
    have h1 := h x (by simp)
    have h2 := sumI_bound hM r (fun y hy => h y (by simp [hy]))
    simp only [sumI, List.length_cons, Int.natCast_add, Int.mul_add]
    omega

/-- Rows of numbers and weights. -/
structure Ds where
  n : Nat
  L : Nat → List (Int × Int)
namespace Ds
def weight (t : Ds) (i : Nat) : Int := sumI ((t.L i).map (·.2))
def push (t : Ds) (l : Nat) (id w : Int) : Ds := { t with L := fun i => if i = l then t.L i ++ [(id, w)] else t.L i }
def unlink (t : Ds) (id : Int) : Ds := { t with L := fun i => (t.L i).filter fun p => !(p.1 == id) }
def reweigh (t : Ds) (id w : Int) : Ds := { t with L := fun i => (t.L i).map fun p => if p.1 = id then (id, w) else p }
end Ds

/-- Where rows lie, their heads and elements, and what elements hold. -/
structure Gh where
  n : Nat
  r : Nat → Nat
  h : Nat → Nat
  B : Nat → List Nat
  E : Nat → El
namespace Gh
def row (g : Gh) (i : Nat) : List (Int × Int) := (g.B i).map fun b => ((g.E b).id, (g.E b).wt)
def st (g : Gh) : Ds := ⟨g.n, fun i => if i < g.n then g.row i else []⟩
def sum (g : Gh) (i : Nat) : Int := sumI ((g.B i).map fun b => (g.E b).wt)
structure Wf (g : Gh) : Prop where
  cap : g.n ≤ 16
  ring : ∀ i, i < g.n → Ring g.E (g.h i) (g.B i)
  hd : ∀ i, i < g.n → (g.E (g.h i)).id = 0
  els : ∀ i, i < g.n → ∀ b ∈ g.B i, 1 ≤ (g.E b).id ∧ (g.E b).id ≤ 65536 ∧ 0 ≤ (g.E b).wt ∧ (g.E b).wt ≤ 2147483648 ∧ (g.E b).ls = (i : Int)
  dup : ∀ i, i < g.n → (g.B i).Nodup
  uniq : ∀ i j b c, i < g.n → j < g.n → b ∈ g.B i → c ∈ g.B j → (g.E b).id = (g.E c).id → b = c
  rinj : ∀ i j, i < g.n → j < g.n → g.r i = g.r j → i = j
  hinj : ∀ i j, i < g.n → j < g.n → g.h i = g.h j → i = j
variable {g : Gh}
theorem Wf.notHead (hw : g.Wf) {i j b : Nat} (hi : i < g.n) (hj : j < g.n) (hb : b ∈ g.B i) : b ≠ g.h j := fun e => by
  have h1 := (hw.els i hi b hb).1
  rw [e, hw.hd j hj] at h1
  omega
theorem Wf.nodup (hw : g.Wf) {i : Nat} (hi : i < g.n) : (g.h i :: g.B i).Nodup := List.nodup_cons.2 ⟨fun h => hw.notHead hi hi h rfl, hw.dup i hi⟩
theorem Wf.rowOf (hw : g.Wf) {i j b : Nat} (hi : i < g.n) (hj : j < g.n) (hb : b ∈ g.B i) (hc : b ∈ g.B j) : i = j := by
  have h1 := (hw.els i hi b hb).2.2.2.2
  have h2 := (hw.els j hj b hc).2.2.2.2
  omega
/-- Nodes of unlike rows are unlike. -/
theorem Wf.node (hw : g.Wf) {i j b : Nat} (hi : i < g.n) (hj : j < g.n) (hb : b ∈ g.h i :: g.B i) (hc : b ∈ g.h j :: g.B j) : i = j := by
  rcases List.mem_cons.1 hb with rfl | hb
  · rcases List.mem_cons.1 hc with hc | hc
    · exact hw.hinj i j hi hj hc
    · exact absurd rfl (hw.notHead hj hi hc)
  · rcases List.mem_cons.1 hc with rfl | hc
    · exact absurd rfl (hw.notHead hi hj hb)
    · exact hw.rowOf hi hj hb hc
theorem Wf.len (hw : g.Wf) {i : Nat} (hi : i < g.n) : (g.B i).length ≤ 65536 := by
  have := few_int (lo := 1) (hi := 65536) ((g.B i).map fun b => (g.E b).id) (List.pairwise_map.2 (List.Pairwise.imp_of_mem (fun {a b} ha hb hne e => hne (hw.uniq i i a b hi hi ha hb e)) (hw.dup i hi))) (fun x hx => by
    obtain ⟨b, hb, rfl⟩ := List.mem_map.1 hx
    have := hw.els i hi b hb
    exact ⟨this.1, this.2.1⟩)
  simpa using this
theorem Wf.sumBound (hw : g.Wf) {i : Nat} (hi : i < g.n) : 0 ≤ g.sum i ∧ g.sum i ≤ 140737488355328 := by
  have := sumI_bound (M := 2147483648) (by omega) ((g.B i).map fun b => (g.E b).wt) (fun x hx => by
    obtain ⟨b, hb, rfl⟩ := List.mem_map.1 hx
    have := hw.els i hi b hb
    exact ⟨this.2.2.1, this.2.2.2.1⟩)
  have hl := hw.len hi
  rw [List.length_map] at this
  have h2 : (2147483648 : Int) * ((g.B i).length : Int) ≤ 2147483648 * 65536 := Int.mul_le_mul_of_nonneg_left (by omega) (by omega)
  unfold sum
  omega
theorem sum_row (g : Gh) (i : Nat) : g.sum i = sumI ((g.row i).map (·.2)) := by unfold sum row; rw [List.map_map]; rfl

/-- Element e cut out of row i. -/
def cut (g : Gh) (i e : Nat) : Gh := { g with
  B := fun j => if j = i then (g.B j).filter fun b => !(b == e) else g.B j
  E := fun b => { g.E b with nx := if b = (g.E e).pv then (g.E e).nx else (g.E b).nx, pv := if b = (g.E e).nx then (g.E e).pv else (g.E b).pv } }
/-- Element e, with that number and weight, at the end of row l. -/
def add (g : Gh) (l e : Nat) (id wt : Int) : Gh := { g with
  B := fun j => if j = l then g.B j ++ [e] else g.B j
  E := fun b => if b = e then ⟨id, wt, (l : Int), (g.E (g.h l)).pv, g.h l⟩ else { g.E b with nx := if b = (g.E (g.h l)).pv then e else (g.E b).nx, pv := if b = g.h l then e else (g.E b).pv } }
def weigh (g : Gh) (e : Nat) (wt : Int) : Gh := { g with E := fun b => if b = e then { g.E b with wt := wt } else g.E b }

theorem parts {i e : Nat} (he : e ∈ g.B i) (hd : (g.B i).Nodup) : ∃ P S, g.B i = P ++ e :: S ∧ ((g.B i).filter fun b => !(b == e)) = P ++ S := by
  obtain ⟨P, S, h⟩ := List.append_of_mem he
  refine ⟨P, S, h, ?_⟩
  rw [h] at hd
  obtain ⟨_, h2, h3⟩ := List.nodup_append.1 hd
  have h4 := (List.nodup_cons.1 h2).1
  rw [h, List.filter_append, List.filter_cons]
  simp only [BEq.rfl, Bool.not_true, Bool.false_eq_true, if_false]
  rw [List.filter_eq_self.2, List.filter_eq_self.2]
  · intro a ha; simp; intro e; subst e; exact h4 ha
  · intro a ha; simp; intro e; subst e; exact h3 a ha a (by simp) rfl
theorem Wf.besides (hw : g.Wf) {i e : Nat} (hi : i < g.n) (he : e ∈ g.B i) : (g.E e).pv ∈ g.h i :: g.B i ∧ (g.E e).nx ∈ g.h i :: g.B i ∧ (g.E e).pv ≠ e ∧ (g.E e).nx ≠ e := by
  obtain ⟨P, S, hB, _⟩ := parts he (hw.dup i hi)
  have hr := hw.ring i hi
  have hd := hw.nodup hi
  rw [hB] at hr hd
  obtain ⟨Q, p, n, T, hq, ht, hp, hn, _, _⟩ := hr.beside
  have h1 : p ∈ g.h i :: P := by rw [hq]; simp
  have h2 : n ∈ S ++ [g.h i] := by rw [ht]; simp
  have hd1 : ((g.h i :: P) ++ e :: S).Nodup := hd
  obtain ⟨n1, n2, n3⟩ := List.nodup_append.1 hd1
  rw [hp, hn, hB]
  refine ⟨?_, ?_, fun x => n3 p h1 e (by simp) x, fun x => ?_⟩
  · rcases List.mem_cons.1 h1 with h | h
    · simp [h]
    · simp [h]
  · rcases List.mem_append.1 h2 with h | h
    · simp [h]
    · simp at h; simp [h]
  · rcases List.mem_append.1 h2 with h | h
    · exact (List.nodup_cons.1 n2).1 (by rw [← x]; exact h)
    · simp at h
      exact n3 (g.h i) (by simp) e (by simp) (by rw [← h, x])
theorem Wf.headPv (hw : g.Wf) {l : Nat} (hl : l < g.n) : (g.E (g.h l)).pv ∈ g.h l :: g.B l := by
  obtain ⟨Q, p, hq, hp, _⟩ := (hw.ring l hl).last
  rw [hp, hq]; simp
theorem Wf.headNx (hw : g.Wf) {l : Nat} (hl : l < g.n) : (g.E (g.h l)).nx = ((g.B l).headD (g.h l)) := by
  have hr := hw.ring l hl
  unfold Ring at hr
  cases hB : g.B l with
  | nil => rw [hB] at hr; exact hr.1
  | cons x r => rw [hB] at hr; exact hr.1
theorem Wf.headBk (hw : g.Wf) {l : Nat} (hl : l < g.n) : (g.E (g.h l)).pv = ((g.B l).getLastD (g.h l)) := by
  obtain ⟨Q, p, hq, hp, _⟩ := (hw.ring l hl).last
  rw [hp]
  cases hB : g.B l with
  | nil => rw [hB] at hq; have := congrArg List.getLast? hq; simp at this; exact this.symm
  | cons x r =>
    rw [hB] at hq
    have h1 := congrArg List.getLast? hq
    rw [List.getLast?_cons_cons] at h1
    simp at h1
    rw [List.getLastD_eq_getLast?, h1]; rfl

theorem mem_cut {i e j b : Nat} (hb : b ∈ (g.cut i e).B j) : b ∈ g.B j := by
  have hb : b ∈ (if j = i then (g.B j).filter fun b => !(b == e) else g.B j) := hb
  split at hb
  · exact (List.mem_filter.1 hb).1
  · exact hb
theorem Wf.cut (hw : g.Wf) {i e : Nat} (hi : i < g.n) (he : e ∈ g.B i) : (g.cut i e).Wf := by
  obtain ⟨b1, b2, _, _⟩ := hw.besides hi he
  refine ⟨hw.cap, fun j hj => ?_, fun j hj => hw.hd j hj, fun j hj b hb => hw.els j hj b (mem_cut hb), fun j hj => ?_, fun j k b c hj hk hb hc h => hw.uniq j k b c hj hk (mem_cut hb) (mem_cut hc) h, hw.rinj, hw.hinj⟩
  · show Ring (g.cut i e).E (g.h j) (if j = i then (g.B j).filter fun b => !(b == e) else g.B j)
    by_cases hji : j = i
    · subst hji
      rw [if_pos rfl]
      obtain ⟨P, S, hB, hF⟩ := parts he (hw.dup j hj)
      rw [hF]
      have hr := hw.ring j hj
      have hd := hw.nodup hj
      rw [hB] at hr hd
      exact hr.cut hd fun b => rfl
    · rw [if_neg hji]
      refine (hw.ring j hj).same fun b hb => ⟨?_, ?_⟩
      · show (if b = (g.E e).pv then (g.E e).nx else (g.E b).nx) = _
        exact if_neg fun h => hji (hw.node hj hi hb (by rw [h]; exact b1))
      · show (if b = (g.E e).nx then (g.E e).pv else (g.E b).pv) = _
        exact if_neg fun h => hji (hw.node hj hi hb (by rw [h]; exact b2))
  · show (if j = i then (g.B j).filter fun b => !(b == e) else g.B j).Nodup
    split
    · exact (hw.dup j hj).filter _
    · exact hw.dup j hj
theorem Wf.add (hw : g.Wf) {l e : Nat} {id wt : Int} (hl : l < g.n) (hf : ∀ j, j < g.n → e ∉ g.h j :: g.B j) (hid : ∀ j, j < g.n → ∀ b ∈ g.B j, (g.E b).id ≠ id) (h1 : 1 ≤ id) (h2 : id ≤ 65536) (h3 : 0 ≤ wt) (h4 : wt ≤ 2147483648) : (g.add l e id wt).Wf := by
  have hEo : ∀ b, b ≠ e → (g.add l e id wt).E b = { g.E b with nx := if b = (g.E (g.h l)).pv then e else (g.E b).nx, pv := if b = g.h l then e else (g.E b).pv } := fun b hb => if_neg hb
  have hEe : (g.add l e id wt).E e = ⟨id, wt, (l : Int), (g.E (g.h l)).pv, g.h l⟩ := if_pos rfl
  have ne : ∀ j, j < g.n → ∀ b ∈ g.h j :: g.B j, b ≠ e := fun j hj b hb h => hf j hj (by rw [← h]; exact hb)
  have mem : ∀ {j b : Nat}, b ∈ (g.add l e id wt).B j → b ∈ g.B j ∨ (j = l ∧ b = e) := fun {j b} hb => by
    have hb : b ∈ (if j = l then g.B j ++ [e] else g.B j) := hb
    split at hb
    · rcases List.mem_append.1 hb with h | h
      · exact Or.inl h
      · simp at h; exact Or.inr ⟨by assumption, h⟩
    · exact Or.inl hb
  have old : ∀ {j b : Nat}, j < g.n → b ∈ g.B j → ((g.add l e id wt).E b).id = (g.E b).id ∧ ((g.add l e id wt).E b).wt = (g.E b).wt ∧ ((g.add l e id wt).E b).ls = (g.E b).ls := fun {j b} hj hb => by
    rw [hEo b (ne j hj b (List.mem_cons_of_mem _ hb))]; exact ⟨rfl, rfl, rfl⟩
  refine ⟨hw.cap, fun j hj => ?_, fun j hj => ?_, fun j hj b hb => ?_, fun j hj => ?_, fun j k b c hj hk hb hc h => ?_, hw.rinj, hw.hinj⟩
  · show Ring (g.add l e id wt).E (g.h j) (if j = l then g.B j ++ [e] else g.B j)
    by_cases hjl : j = l
    · subst hjl
      rw [if_pos rfl]
      exact (hw.ring j hj).add (hw.nodup hj) (hf j hj) hEo (by rw [hEe]) (by rw [hEe])
    · rw [if_neg hjl]
      refine (hw.ring j hj).same fun b hb => ?_
      rw [hEo b (ne j hj b hb)]
      refine ⟨?_, ?_⟩
      · show (if b = (g.E (g.h l)).pv then e else (g.E b).nx) = _
        exact if_neg fun h => hjl (hw.node hj hl hb (by rw [h]; exact hw.headPv hl))
      · show (if b = g.h l then e else (g.E b).pv) = _
        exact if_neg fun h => hjl (hw.node hj hl hb (by rw [h]; simp))
  · show ((g.add l e id wt).E (g.h j)).id = 0
    rw [hEo _ (ne j hj _ (by simp))]; exact hw.hd j hj
  · rcases mem hb with hb | ⟨rfl, rfl⟩
    · obtain ⟨o1, o2, o3⟩ := old hj hb
      rw [o1, o2, o3]; exact hw.els j hj b hb
    · rw [hEe]; exact ⟨h1, h2, h3, h4, rfl⟩
  · show (if j = l then g.B j ++ [e] else g.B j).Nodup
    split
    · refine List.nodup_append.2 ⟨hw.dup j hj, by simp, fun a ha b hb hab => ?_⟩
      simp at hb
      exact ne j hj a (List.mem_cons_of_mem _ ha) (hab.trans hb)
    · exact hw.dup j hj
  · rcases mem hb with hb' | ⟨_, hb'⟩
    · rw [(old hj hb').1] at h
      rcases mem hc with hc' | ⟨_, hc'⟩
      · rw [(old hk hc').1] at h; exact hw.uniq j k b c hj hk hb' hc' h
      · rw [hc', hEe] at h; exact absurd h (hid j hj b hb')
    · rcases mem hc with hc' | ⟨_, hc'⟩
      · rw [(old hk hc').1, hb', hEe] at h; exact absurd h.symm (hid k hk c hc')
      · rw [hb', hc']
theorem Wf.weigh (hw : g.Wf) (e : Nat) {wt : Int} (h3 : 0 ≤ wt) (h4 : wt ≤ 2147483648) : (g.weigh e wt).Wf := by
  have hs : ∀ b, ((g.weigh e wt).E b).id = (g.E b).id ∧ ((g.weigh e wt).E b).ls = (g.E b).ls ∧ ((g.weigh e wt).E b).nx = (g.E b).nx ∧ ((g.weigh e wt).E b).pv = (g.E b).pv ∧ (((g.weigh e wt).E b).wt = wt ∨ ((g.weigh e wt).E b).wt = (g.E b).wt) := fun b => by
    show ((if b = e then { g.E b with wt := wt } else g.E b).id = _ ∧ (if b = e then { g.E b with wt := wt } else g.E b).ls = _ ∧ (if b = e then { g.E b with wt := wt } else g.E b).nx = _ ∧ (if b = e then { g.E b with wt := wt } else g.E b).pv = _ ∧ ((if b = e then { g.E b with wt := wt } else g.E b).wt = _ ∨ (if b = e then { g.E b with wt := wt } else g.E b).wt = _))
    split
    · exact ⟨rfl, rfl, rfl, rfl, Or.inl rfl⟩
    · exact ⟨rfl, rfl, rfl, rfl, Or.inr rfl⟩
  refine ⟨hw.cap, fun j hj => (hw.ring j hj).same fun b _ => ⟨(hs b).2.2.1, (hs b).2.2.2.1⟩, fun j hj => (hs _).1.trans (hw.hd j hj), fun j hj b hb => ?_, hw.dup, fun j k b c hj hk hb hc h => hw.uniq j k b c hj hk hb hc (by rw [← (hs b).1, ← (hs c).1]; exact h), hw.rinj, hw.hinj⟩
  obtain ⟨q1, q2, _, _, q3⟩ := hs b
  have := hw.els j hj b hb
  rw [q1, q2]
  refine ⟨this.1, this.2.1, ?_, ?_, this.2.2.2.2⟩
  · rcases q3 with q | q <;> rw [q]; exact h3; exact this.2.2.1
  · rcases q3 with q | q <;> rw [q]; exact h4; exact this.2.2.2.1

/-! ### What the rows are then -/
theorem row_cut (hw : g.Wf) {i e j : Nat} (hi : i < g.n) (he : e ∈ g.B i) (hj : j < g.n) : (g.cut i e).row j = (g.row j).filter fun p => !(p.1 == (g.E e).id) := by
  have key : ∀ l : List Nat, (∀ b ∈ l, (g.E b).id = (g.E e).id ↔ b = e) → ((l.filter fun b => !(b == e)).map fun b => ((g.E b).id, (g.E b).wt)) = (l.map fun b => ((g.E b).id, (g.E b).wt)).filter fun p => !(p.1 == (g.E e).id) := by
    intro l
    induction l with
    | nil => intro _; rfl
    | cons a r ih =>
      intro h
      have ih := ih fun b hb => h b (List.mem_cons_of_mem _ hb)
      have ha := h a (by simp)
      by_cases hae : a = e
      · rw [List.filter_cons, List.map_cons, List.filter_cons]
        simp only [hae, BEq.rfl, Bool.not_true, Bool.false_eq_true, if_false]
        exact ih
      · have h1 : (a == e) = false := by simpa using hae
        have h2 : ((g.E a).id == (g.E e).id) = false := by simpa using fun x => hae (ha.1 x)
        rw [List.filter_cons, List.map_cons, List.filter_cons]
        simp only [h1, h2, Bool.not_false, if_true, List.map_cons]
        rw [ih]
  have hm : ∀ b ∈ g.B j, (g.E b).id = (g.E e).id ↔ b = e := fun b hb => ⟨fun h => hw.uniq j i b e hj hi hb he h, fun h => by rw [h]⟩
  show ((if j = i then (g.B j).filter fun b => !(b == e) else g.B j).map fun b => ((g.E b).id, (g.E b).wt)) = _
  by_cases hji : j = i
  · rw [if_pos hji]; exact key _ hm
  · rw [if_neg hji]
    have : (g.B j).filter (fun b => !(b == e)) = g.B j := List.filter_eq_self.2 fun b hb => by
      simp; intro h; exact hji (hw.rowOf hj hi hb (by rw [h]; exact he))
    have k := key _ hm
    rw [this] at k
    exact k
theorem row_add {l e j : Nat} {id wt : Int} (hf : ∀ j, j < g.n → e ∉ g.h j :: g.B j) (hj : j < g.n) : (g.add l e id wt).row j = if j = l then g.row j ++ [(id, wt)] else g.row j := by
  have old : ∀ b ∈ g.B j, (((g.add l e id wt).E b).id, ((g.add l e id wt).E b).wt) = ((g.E b).id, (g.E b).wt) := fun b hb => by
    have : (g.add l e id wt).E b = { g.E b with nx := if b = (g.E (g.h l)).pv then e else (g.E b).nx, pv := if b = g.h l then e else (g.E b).pv } := if_neg fun h => hf j hj (by rw [← h]; exact List.mem_cons_of_mem _ hb)
    rw [this]
  show ((if j = l then g.B j ++ [e] else g.B j).map fun b => (((g.add l e id wt).E b).id, ((g.add l e id wt).E b).wt)) = _
  split
  · rw [List.map_append, List.map_congr_left old]
    show _ ++ [(((g.add l e id wt).E e).id, ((g.add l e id wt).E e).wt)] = _
    rw [show (g.add l e id wt).E e = ⟨id, wt, (l : Int), (g.E (g.h l)).pv, g.h l⟩ from if_pos rfl]
    rfl
  · exact List.map_congr_left old
theorem row_weigh (hw : g.Wf) {i e j : Nat} {wt : Int} (hi : i < g.n) (he : e ∈ g.B i) (hj : j < g.n) : (g.weigh e wt).row j = (g.row j).map fun p => if p.1 = (g.E e).id then ((g.E e).id, wt) else p := by
  show ((g.B j).map fun b => (((g.weigh e wt).E b).id, ((g.weigh e wt).E b).wt)) = ((g.B j).map fun b => ((g.E b).id, (g.E b).wt)).map _
  rw [List.map_map]
  refine List.map_congr_left fun b hb => ?_
  show ((if b = e then { g.E b with wt := wt } else g.E b).id, (if b = e then { g.E b with wt := wt } else g.E b).wt) = if (g.E b).id = (g.E e).id then ((g.E e).id, wt) else ((g.E b).id, (g.E b).wt)
  by_cases h : b = e
  · rw [if_pos h, if_pos (by rw [h])]; simp [h]
  · rw [if_neg h, if_neg fun x => h (hw.uniq j i b e hj hi hb he x)]
theorem st_ext {a b : Ds} (h1 : a.n = b.n) (h2 : ∀ i, a.L i = b.L i) : a = b := by
  cases a; cases b; simp at h1 h2; subst h1; congr; exact funext h2
theorem st_cut (hw : g.Wf) {i e : Nat} (hi : i < g.n) (he : e ∈ g.B i) : (g.cut i e).st = g.st.unlink (g.E e).id := by
  refine st_ext rfl fun j => ?_
  show (if j < g.n then (g.cut i e).row j else []) = (if j < g.n then g.row j else []).filter _
  split
  · exact row_cut hw hi he (by assumption)
  · rfl
theorem st_add {l e : Nat} {id wt : Int} (hl : l < g.n) (hf : ∀ j, j < g.n → e ∉ g.h j :: g.B j) : (g.add l e id wt).st = g.st.push l id wt := by
  refine st_ext rfl fun j => ?_
  show (if j < g.n then (g.add l e id wt).row j else []) = if j = l then (if j < g.n then g.row j else []) ++ [(id, wt)] else (if j < g.n then g.row j else [])
  by_cases hj : j < g.n
  · rw [if_pos hj, if_pos hj]; exact row_add hf hj
  · rw [if_neg hj, if_neg hj, if_neg (fun h => hj (by rw [h]; exact hl))]
theorem st_weigh (hw : g.Wf) {i e : Nat} {wt : Int} (hi : i < g.n) (he : e ∈ g.B i) : (g.weigh e wt).st = g.st.reweigh (g.E e).id wt := by
  refine st_ext rfl fun j => ?_
  show (if j < g.n then (g.weigh e wt).row j else []) = (if j < g.n then g.row j else []).map _
  split
  · exact row_weigh hw hi he (by assumption)
  · rfl
end Gh
end Go.Proofs.Ytecnlciogcanmaa
