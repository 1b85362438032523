/-
  Rows of numbers, told apart from memory: elements linked in rings; what is added at a ring's end, and cut out of it; the rows that they make. No condition but those told at each sentence.
-/
import Derived.Test.YtlmcopenbeammaaGenMap
import Derived.BigQuiet
import Derived.Deep.RegionWith
import Derived.Deep.RegionHeld3
import Derived.Deep.RegionLaw
namespace Go.Proofs.Ytlmcopenbeammaa

/-- What an element holds: its number, weight and row, and which one is ahead of it, and behind it. -/
structure El where
  id : Int
  wt : Int
  ls : Int
  pv : Nat
  nx : Nat
/-- One behind the other. -/
def Links (E : Nat → El) : List Nat → Prop
  | a :: b :: r => (E a).nx = b ∧ (E b).pv = a ∧ Links E (b :: r)
  | _ => True
theorem links_split (E : Nat → El) (a : Nat) (l2 : List Nat) : ∀ l1 : List Nat, Links E (l1 ++ a :: l2) ↔ Links E (l1 ++ [a]) ∧ Links E (a :: l2)
  | [] => by simp [Links]
  | [x] => by
    show (E x).nx = a ∧ (E a).pv = x ∧ Links E (a :: l2) ↔ ((E x).nx = a ∧ (E a).pv = x ∧ True) ∧ Links E (a :: l2)
    simp [and_assoc]
  | x :: y :: r => by
    have ih := links_split E a l2 (y :: r)
    show (E x).nx = y ∧ (E y).pv = x ∧ Links E ((y :: r) ++ a :: l2) ↔ ((E x).nx = y ∧ (E y).pv = x ∧ Links E ((y :: r) ++ [a])) ∧ Links E (a :: l2)
    rw [ih]
    simp [and_assoc]
theorem links_congr {E E' : Nat → El} : ∀ {l : List Nat}, (∀ x ∈ l.dropLast, (E' x).nx = (E x).nx) → (∀ x ∈ l.tail, (E' x).pv = (E x).pv) → Links E l → Links E' l
  | [], _, _, _ => trivial
  | [_], _, _, _ => trivial
  | a :: b :: r, hn, hp, ⟨h1, h2, h3⟩ => by
    refine ⟨(hn a (by simp [List.dropLast])).trans h1, (hp b (by simp)).trans h2, links_congr (fun x hx => hn x (by simp [List.dropLast, hx])) (fun x hx => hp x ?_) h3⟩
    simp only [List.tail_cons] at hx ⊢
    exact List.mem_cons_of_mem _ hx
theorem last_of (h : Nat) (B : List Nat) : ∃ Q p, h :: B = Q ++ [p] := by
  refine ⟨(h :: B).dropLast, (h :: B).getLast (by simp), ?_⟩
  rw [List.dropLast_concat_getLast]
theorem first_of (h : Nat) (S : List Nat) : ∃ n T, S ++ [h] = n :: T := by
  cases S with
  | nil => exact ⟨h, [], rfl⟩
  | cons x r => exact ⟨x, r ++ [h], rfl⟩
/-- A ring: the head, its elements, the head again. -/
def Ring (E : Nat → El) (h : Nat) (B : List Nat) : Prop := Links E (h :: B ++ [h])
variable {E E' : Nat → El} {h e : Nat} {B P S : List Nat}
/-- The last one of a ring, and what the head's says. -/
theorem Ring.last (hr : Ring E h B) : ∃ Q p, h :: B = Q ++ [p] ∧ (E h).pv = p ∧ (E p).nx = h := by
  obtain ⟨Q, p, hq⟩ := last_of h B
  refine ⟨Q, p, hq, ?_⟩
  unfold Ring at hr
  rw [hq, List.append_assoc, List.singleton_append, links_split] at hr
  exact ⟨hr.2.2.1, hr.2.1⟩
theorem Ring.add (hr : Ring E h B) (hd : (h :: B).Nodup) (he : e ∉ h :: B) (hE : ∀ b, b ≠ e → E' b = { E b with nx := if b = (E h).pv then e else (E b).nx, pv := if b = h then e else (E b).pv }) (he1 : (E' e).pv = (E h).pv) (he2 : (E' e).nx = h) : Ring E' h (B ++ [e]) := by
  obtain ⟨Q, p, hq, hp, hn⟩ := hr.last
  rw [hp] at hE he1
  unfold Ring at hr ⊢
  have e1 : h :: (B ++ [e]) ++ [h] = Q ++ p :: [e, h] := by
    rw [show h :: (B ++ [e]) ++ [h] = (h :: B) ++ [e, h] by simp, hq]; simp
  rw [hq, List.append_assoc, List.singleton_append, links_split] at hr
  rw [e1, links_split]
  have hd' := hd
  rw [hq] at hd'
  have hpq : p ∉ Q := fun hx => (List.nodup_append.1 hd').2.2 p hx p (by simp) rfl
  have hph : p ∈ h :: B := by rw [hq]; simp
  have hhe : h ≠ e := fun x => he (by rw [← x]; simp)
  have hpe : p ≠ e := fun x => he (by rw [← x]; exact hph)
  refine ⟨links_congr (fun x hx => ?_) (fun x hx => ?_) hr.1, ?_, ?_, ?_, ?_, trivial⟩
  · rw [List.dropLast_concat] at hx
    have hxe : x ≠ e := fun y => he (by rw [hq, ← y]; simp [hx])
    rw [hE x hxe]
    show (if x = p then e else (E x).nx) = _
    rw [if_neg (fun y => hpq (by rw [← y]; exact hx))]
  · rw [← hq] at hx
    simp only [List.tail_cons] at hx
    have hxe : x ≠ e := fun y => he (by rw [← y]; simp [hx])
    rw [hE x hxe]
    show (if x = h then e else (E x).pv) = _
    rw [if_neg (fun y => (List.nodup_cons.1 hd).1 (by rw [← y]; exact hx))]
  · rw [hE p hpe]; show (if p = p then e else _) = e; rw [if_pos rfl]
  · exact he1
  · exact he2
  · rw [hE h hhe]; show (if h = h then e else _) = e; rw [if_pos rfl]
/-- What is ahead of one of a ring, and behind it. -/
theorem Ring.beside (hr : Ring E h (P ++ e :: S)) : ∃ Q p n T, h :: P = Q ++ [p] ∧ S ++ [h] = n :: T ∧ (E e).pv = p ∧ (E e).nx = n ∧ (E p).nx = e ∧ (E n).pv = e := by
  obtain ⟨Q, p, hq⟩ := last_of h P
  obtain ⟨n, T, ht⟩ := first_of h S
  unfold Ring at hr
  rw [show h :: (P ++ e :: S) ++ [h] = (h :: P) ++ e :: (S ++ [h]) by simp, hq, ht, List.append_assoc, List.singleton_append, links_split] at hr
  exact ⟨Q, p, n, T, hq, ht, hr.2.2.1, hr.2.2.2.1, hr.2.1, hr.2.2.2.2.1⟩
theorem Ring.cut (hr : Ring E h (P ++ e :: S)) (hd : (h :: (P ++ e :: S)).Nodup) (hE : ∀ b, E' b = { E b with nx := if b = (E e).pv then (E e).nx else (E b).nx, pv := if b = (E e).nx then (E e).pv else (E b).pv }) : Ring E' h (P ++ S) := by
  obtain ⟨Q, p, n, T, hq, ht, hp, hn, _, _⟩ := hr.beside
  rw [hp, hn] at hE
  unfold Ring at hr ⊢
  rw [show h :: (P ++ e :: S) ++ [h] = (h :: P) ++ e :: (S ++ [h]) by simp, hq, ht, List.append_assoc, List.singleton_append, links_split] at hr
  rw [show h :: (P ++ S) ++ [h] = (h :: P) ++ (S ++ [h]) by simp, hq, ht, List.append_assoc, List.singleton_append, links_split]
  have hd1 : ((h :: P) ++ e :: S).Nodup := hd
  obtain ⟨n1, n2, n3⟩ := List.nodup_append.1 hd1
  obtain ⟨n4, n5⟩ := List.nodup_cons.1 n2
  have n1' := n1
  rw [hq] at n1'
  have hpq : p ∉ Q := fun hx => (List.nodup_append.1 n1').2.2 p hx p (by simp) rfl
  have hpm : p ∈ h :: P := by rw [hq]; simp
  have hS : n = h ∧ S = [] ∧ T = [] ∨ ∃ S', S = n :: S' ∧ T = S' ++ [h] := by
    cases S with
    | nil => simp at ht; exact Or.inl ⟨ht.1.symm, rfl, ht.2⟩
    | cons x r => simp at ht; exact Or.inr ⟨r, by rw [ht.1], ht.2.symm⟩
  refine ⟨links_congr (fun x hx => ?_) (fun x hx => ?_) hr.1, ?_, ?_, links_congr (fun x hx => ?_) (fun x hx => ?_) hr.2.2.2.2.2⟩
  · rw [List.dropLast_concat] at hx
    rw [hE x]
    show (if x = p then n else (E x).nx) = _
    rw [if_neg (fun y => hpq (by rw [← y]; exact hx))]
  · rw [← hq] at hx
    simp only [List.tail_cons] at hx
    rw [hE x]
    show (if x = n then p else (E x).pv) = _
    refine if_neg fun y => ?_
    rcases hS with ⟨e1, _, _⟩ | ⟨S', e1, _⟩
    · exact (List.nodup_cons.1 n1).1 (by rw [← e1, ← y]; exact hx)
    · exact n3 x (List.mem_cons_of_mem _ hx) x (by rw [e1, y]; simp) rfl
  · rw [hE p]; show (if p = p then n else _) = n; rw [if_pos rfl]
  · rw [hE n]; show (if n = n then p else _) = p; rw [if_pos rfl]
  · have hx' : x ∈ S := by
      rw [← ht, List.dropLast_concat] at hx; exact hx
    rw [hE x]
    show (if x = p then n else (E x).nx) = _
    exact if_neg fun y => n3 x (by rw [y]; exact hpm) x (List.mem_cons_of_mem _ hx') rfl
  · simp only [List.tail_cons] at hx
    rw [hE x]
    show (if x = n then p else (E x).pv) = _
    refine if_neg fun y => ?_
    rcases hS with ⟨_, _, e1⟩ | ⟨S', e1, e2⟩
    · rw [e1] at hx; exact List.not_mem_nil hx
    · rw [e2, List.mem_append] at hx
      rcases hx with hx | hx
      · rw [e1] at n5; exact (List.nodup_cons.1 n5).1 (by rw [← y]; exact hx)
      · simp at hx
        exact n3 h (by simp) h (by rw [e1, ← hx, y]; simp) rfl
/-- A ring all of whose nodes say what they said. -/
theorem Ring.same (hr : Ring E h B) (hE : ∀ b ∈ h :: B, (E' b).nx = (E b).nx ∧ (E' b).pv = (E b).pv) : Ring E' h B := by
  refine links_congr (fun x hx => (hE x ?_).1) (fun x hx => (hE x ?_).2) hr
  · rw [List.dropLast_concat] at hx; exact hx
  · simp at hx
    rcases hx with hx | hx
    · simp [hx]
    · simp [hx]
theorem Ring.at (hr : Ring E h B) : ∀ k, k < B.length → (E ((h :: B).getD k 0)).nx = B.getD k 0 := by
  intro k hk
  have key : ∀ (l : List Nat), Links E l → ∀ k, k + 1 < l.length → (E (l.getD k 0)).nx = l.getD (k + 1) 0 := by
    intro l
    induction l with
    | nil => intro _ k hk; simp at hk
    | cons a r ih =>
      intro hl k hk
      cases r with
      | nil => simp at hk
      | cons b r' =>
        cases k with
        | zero => simpa using hl.1
        | succ k => have := ih hl.2.2 k (by simpa using hk); simpa using this
  have := key _ hr k (by simp; omega)
  rw [show h :: B ++ [h] = (h :: B) ++ [h] from rfl] at this
  rw [show ((h :: B) ++ [h]).getD k 0 = (h :: B).getD k 0 by simp only [List.getD]; rw [List.getElem?_append_left (show k < (h :: B).length by simp; omega)]] at this
  rw [this, show ((h :: B) ++ [h]).getD (k + 1) 0 = (h :: B).getD (k + 1) 0 by simp only [List.getD]; rw [List.getElem?_append_left (show k + 1 < (h :: B).length by simp; omega)]]
  simp

def sumD : List Int → Int
  | [] => 0
  | x :: r => x + sumD r
theorem sumI_append : ∀ (a b : List Int), sumD (a ++ b) = sumD a + sumD b
  | [], b => by simp [sumD]
  | x :: r, b => by simp only [List.cons_append, sumD, sumI_append r b]; omega
theorem sumI_bound {M : Int} (hM : 0 ≤ M) : ∀ (l : List Int), (∀ x ∈ l, 0 ≤ x ∧ x ≤ M) → 0 ≤ sumD l ∧ sumD l ≤ M * l.length
  | [], _ => by simp [sumD]
  | x :: r, h => by
    have h1 := h x (by simp)
    have h2 := sumI_bound hM r (fun y hy => h y (by simp [hy]))
    simp only [sumD, List.length_cons, Int.natCast_add, Int.mul_add]
    omega

/-- Rows of numbers and weights. -/
structure Ds where
  n : Nat
  L : Nat → List (Int × Int)
namespace Ds
def weight (t : Ds) (i : Nat) : Int := sumD ((t.L i).map (·.2))
def push (t : Ds) (l : Nat) (id w : Int) : Ds := { t with L := fun i => if i = l then t.L i ++ [(id, w)] else t.L i }
def unlink (t : Ds) (id : Int) : Ds := { t with L := fun i => (t.L i).filter fun p => !(p.1 == id) }
def reweigh (t : Ds) (id w : Int) : Ds := { t with L := fun i => (t.L i).map fun p => if p.1 = id then (id, w) else p }
end Ds

/-- Where rows lie, their heads and elements, and what elements hold. -/
structure Gh where
  n : Nat
  r : Nat → Nat
  h : Nat → Nat
  B : Nat → List Nat
  E : Nat → El
namespace Gh
def row (g : Gh) (i : Nat) : List (Int × Int) := (g.B i).map fun b => ((g.E b).id, (g.E b).wt)
def st (g : Gh) : Ds := ⟨g.n, fun i => if i < g.n then g.row i else []⟩
def sum (g : Gh) (i : Nat) : Int := sumD ((g.B i).map fun b => (g.E b).wt)
structure Wf (g : Gh) : Prop where
  cap : g.n ≤ 16
  ring : ∀ i, i < g.n → Ring g.E (g.h i) (g.B i)
  hd : ∀ i, i < g.n → (g.E (g.h i)).id = 0
  els : ∀ i, i < g.n → ∀ b ∈ g.B i, 1 ≤ (g.E b).id ∧ (g.E b).id ≤ 65536 ∧ 0 ≤ (g.E b).wt ∧ (g.E b).wt ≤ 2147483648 ∧ (g.E b).ls = (i : Int)
  dup : ∀ i, i < g.n → (g.B i).Nodup
  uniq : ∀ i j b c, i < g.n → j < g.n → b ∈ g.B i → c ∈ g.B j → (g.E b).id = (g.E c).id → b = c
  rinj : ∀ i j, i < g.n → j < g.n → g.r i = g.r j → i = j
  hinj : ∀ i j, i < g.n → j < g.n → g.h i = g.h j → i = j
variable {g : Gh}
theorem Wf.notHead (hw : g.Wf) {i j b : Nat} (hi : i < g.n) (hj : j < g.n) (hb : b ∈ g.B i) : b ≠ g.h j := fun e => by
  have h1 := (hw.els i hi b hb).1
  rw [e, hw.hd j hj] at h1
  omega
theorem Wf.nodup (hw : g.Wf) {i : Nat} (hi : i < g.n) : (g.h i :: g.B i).Nodup := List.nodup_cons.2 ⟨fun h => hw.notHead hi hi h rfl, hw.dup i hi⟩
theorem Wf.rowOf (hw : g.Wf) {i j b : Nat} (hi : i < g.n) (hj : j < g.n) (hb : b ∈ g.B i) (hc : b ∈ g.B j) : i = j := by
  have h1 := (hw.els i hi b hb).2.2.2.2
  have h2 := (hw.els j hj b hc).2.2.2.2
  omega
/-- Nodes of unlike rows are unlike. -/
theorem Wf.node (hw : g.Wf) {i j b : Nat} (hi : i < g.n) (hj : j < g.n) (hb : b ∈ g.h i :: g.B i) (hc : b ∈ g.h j :: g.B j) : i = j := by
  rcases List.mem_cons.1 hb with rfl | hb
  · rcases List.mem_cons.1 hc with hc | hc
    · exact hw.hinj i j hi hj hc
    · exact absurd rfl (hw.notHead hj hi hc)
  · rcases List.mem_cons.1 hc with rfl | hc
    · exact absurd rfl (hw.notHead hi hj hb)
    · exact hw.rowOf hi hj hb hc
theorem Wf.len (hw : g.Wf) {i : Nat} (hi : i < g.n) : (g.B i).length ≤ 65536 := by
  have := few_int (lo := 1) (hi := 65536) ((g.B i).map fun b => (g.E b).id) (List.pairwise_map.2 (List.Pairwise.imp_of_mem (fun {a b} ha hb hne e => hne (hw.uniq i i a b hi hi ha hb e)) (hw.dup i hi))) (fun x hx => by
    obtain ⟨b, hb, rfl⟩ := List.mem_map.1 hx
    have := hw.els i hi b hb
    exact ⟨this.1, this.2.1⟩)
  simpa using this
theorem Wf.sumBound (hw : g.Wf) {i : Nat} (hi : i < g.n) : 0 ≤ g.sum i ∧ g.sum i ≤ 140737488355328 := by
  have := sumI_bound (M := 2147483648) (by omega) ((g.B i).map fun b => (g.E b).wt) (fun x hx => by
    obtain ⟨b, hb, rfl⟩ := List.mem_map.1 hx
    have := hw.els i hi b hb
    exact ⟨this.2.2.1, this.2.2.2.1⟩)
  have hl := hw.len hi
  rw [List.length_map] at this
  have h2 : (2147483648 : Int) * ((g.B i).length : Int) ≤ 2147483648 * 65536 := Int.mul_le_mul_of_nonneg_left (by omega) (by omega)
  unfold sum
  omega
theorem sum_row (g : Gh) (i : Nat) : g.sum i = sumD ((g.row i).map (·.2)) := by unfold sum row; rw [List.map_map]; rfl

/-- Element e cut out of row i. -/
def cut (g : Gh) (i e : Nat) : Gh := { g with
  B := fun j => if j = i then (g.B j).filter fun b => !(b == e) else g.B j
  E := fun b => { g.E b with nx := if b = (g.E e).pv then (g.E e).nx else (g.E b).nx, pv := if b = (g.E e).nx then (g.E e).pv else (g.E b).pv } }
/-- Element e, with that number and weight, at the end of row l. -/
def add (g : Gh) (l e : Nat) (id wt : Int) : Gh := { g with
  B := fun j => if j = l then g.B j ++ [e] else g.B j
  E := fun b => if b = e then ⟨id, wt, (l : Int), (g.E (g.h l)).pv, g.h l⟩ else { g.E b with nx := if b = (g.E (g.h l)).pv then e else (g.E b).nx, pv := if b = g.h l then e else (g.E b).pv } }
def weigh (g : Gh) (e : Nat) (wt : Int) : Gh := { g with E := fun b => if b = e then { g.E b with wt := wt } else g.E b }

theorem parts {i e : Nat} (he : e ∈ g.B i) (hd : (g.B i).Nodup) : ∃ P S, g.B i = P ++ e :: S ∧ ((g.B i).filter fun b => !(b == e)) = P ++ S := by
  obtain ⟨P, S, h⟩ := List.append_of_mem he
  refine ⟨P, S, h, ?_⟩
  rw [h] at hd
  obtain ⟨_, h2, h3⟩ := List.nodup_append.1 hd
  have h4 := (List.nodup_cons.1 h2).1
  rw [h, List.filter_append, List.filter_cons]
  simp only [BEq.rfl, Bool.not_true, Bool.false_eq_true, if_false]
  rw [List.filter_eq_self.2, List.filter_eq_self.2]
  · intro a ha; simp; intro e; subst e; exact h4 ha
  · intro a ha; simp; intro e; subst e; exact h3 a ha a (by simp) rfl
theorem Wf.besides (hw : g.Wf) {i e : Nat} (hi : i < g.n) (he : e ∈ g.B i) : (g.E e).pv ∈ g.h i :: g.B i ∧ (g.E e).nx ∈ g.h i :: g.B i ∧ (g.E e).pv ≠ e ∧ (g.E e).nx ≠ e := by
  obtain ⟨P, S, hB, _⟩ := parts he (hw.dup i hi)
  have hr := hw.ring i hi
  have hd := hw.nodup hi
  rw [hB] at hr hd
  obtain ⟨Q, p, n, T, hq, ht, hp, hn, _, _⟩ := hr.beside
  have h1 : p ∈ g.h i :: P := by rw [hq]; simp
  have h2 : n ∈ S ++ [g.h i] := by rw [ht]; simp
  have hd1 : ((g.h i :: P) ++ e :: S).Nodup := hd
  obtain ⟨n1, n2, n3⟩ := List.nodup_append.1 hd1
  rw [hp, hn, hB]
  refine ⟨?_, ?_, fun x => n3 p h1 e (by simp) x, fun x => ?_⟩
  · rcases List.mem_cons.1 h1 with h | h
    · simp [h]
    · simp [h]
  · rcases List.mem_append.1 h2 with h | h
    · simp [h]
    · simp at h; simp [h]
  · rcases List.mem_append.1 h2 with h | h
    · exact (List.nodup_cons.1 n2).1 (by rw [← x]; exact h)
    · simp at h
      exact n3 (g.h i) (by simp) e (by simp) (by rw [← h, x])
theorem Wf.headPv (hw : g.Wf) {l : Nat} (hl : l < g.n) : (g.E (g.h l)).pv ∈ g.h l :: g.B l := by
  obtain ⟨Q, p, hq, hp, _⟩ := (hw.ring l hl).last
  rw [hp, hq]; simp
theorem Wf.headNx (hw : g.Wf) {l : Nat} (hl : l < g.n) : (g.E (g.h l)).nx = ((g.B l).headD (g.h l)) := by
  have hr := hw.ring l hl
  unfold Ring at hr
  cases hB : g.B l with
  | nil => rw [hB] at hr; exact hr.1
  | cons x r => rw [hB] at hr; exact hr.1
theorem Wf.headBk (hw : g.Wf) {l : Nat} (hl : l < g.n) : (g.E (g.h l)).pv = ((g.B l).getLastD (g.h l)) := by
  obtain ⟨Q, p, hq, hp, _⟩ := (hw.ring l hl).last
  rw [hp]
  cases hB : g.B l with
  | nil => rw [hB] at hq; have := congrArg List.getLast? hq; simp at this; exact this.symm
  | cons x r =>
    rw [hB] at hq
    have h1 := congrArg List.getLast? hq
    rw [List.getLast?_cons_cons] at h1
    simp at h1
    rw [List.getLastD_eq_getLast?, h1]; rfl

theorem mem_cut {i e j b : Nat} (hb : b ∈ (g.cut i e).B j) : b ∈ g.B j := by
  have hb : b ∈ (if j = i then (g.B j).filter fun b => !(b == e) else g.B j) := hb
  split at hb
  · exact (List.mem_filter.1 hb).1
  · exact hb
theorem Wf.cut (hw : g.Wf) {i e : Nat} (hi : i < g.n) (he : e ∈ g.B i) : (g.cut i e).Wf := by
  obtain ⟨b1, b2, _, _⟩ := hw.besides hi he
  refine ⟨hw.cap, fun j hj => ?_, fun j hj => hw.hd j hj, fun j hj b hb => hw.els j hj b (mem_cut hb), fun j hj => ?_, fun j k b c hj hk hb hc h => hw.uniq j k b c hj hk (mem_cut hb) (mem_cut hc) h, hw.rinj, hw.hinj⟩
  · show Ring (g.cut i e).E (g.h j) (if j = i then (g.B j).filter fun b => !(b == e) else g.B j)
    by_cases hji : j = i
    · subst hji
      rw [if_pos rfl]
      obtain ⟨P, S, hB, hF⟩ := parts he (hw.dup j hj)
      rw [hF]
      have hr := hw.ring j hj
      have hd := hw.nodup hj
      rw [hB] at hr hd
      exact hr.cut hd fun b => rfl
    · rw [if_neg hji]
      refine (hw.ring j hj).same fun b hb => ⟨?_, ?_⟩
      · show (if b = (g.E e).pv then (g.E e).nx else (g.E b).nx) = _
        exact if_neg fun h => hji (hw.node hj hi hb (by rw [h]; exact b1))
      · show (if b = (g.E e).nx then (g.E e).pv else (g.E b).pv) = _
        exact if_neg fun h => hji (hw.node hj hi hb (by rw [h]; exact b2))
  · show (if j = i then (g.B j).filter fun b => !(b == e) else g.B j).Nodup
    split
    · exact (hw.dup j hj).filter _
    · exact hw.dup j hj
theorem Wf.add (hw : g.Wf) {l e : Nat} {id wt : Int} (hl : l < g.n) (hf : ∀ j, j < g.n → e ∉ g.h j :: g.B j) (hid : ∀ j, j < g.n → ∀ b ∈ g.B j, (g.E b).id ≠ id) (h1 : 1 ≤ id) (h2 : id ≤ 65536) (h3 : 0 ≤ wt) (h4 : wt ≤ 2147483648) : (g.add l e id wt).Wf := by
  have hEo : ∀ b, b ≠ e → (g.add l e id wt).E b = { g.E b with nx := if b = (g.E (g.h l)).pv then e else (g.E b).nx, pv := if b = g.h l then e else (g.E b).pv } := fun b hb => if_neg hb
  have hEe : (g.add l e id wt).E e = ⟨id, wt, (l : Int), (g.E (g.h l)).pv, g.h l⟩ := if_pos rfl
  have ne : ∀ j, j < g.n → ∀ b ∈ g.h j :: g.B j, b ≠ e := fun j hj b hb h => hf j hj (by rw [← h]; exact hb)
  have mem : ∀ {j b : Nat}, b ∈ (g.add l e id wt).B j → b ∈ g.B j ∨ (j = l ∧ b = e) := fun {j b} hb => by
    have hb : b ∈ (if j = l then g.B j ++ [e] else g.B j) := hb
    split at hb
    · rcases List.mem_append.1 hb with h | h
      · exact Or.inl h
      · simp at h; exact Or.inr ⟨by assumption, h⟩
    · exact Or.inl hb
  have old : ∀ {j b : Nat}, j < g.n → b ∈ g.B j → ((g.add l e id wt).E b).id = (g.E b).id ∧ ((g.add l e id wt).E b).wt = (g.E b).wt ∧ ((g.add l e id wt).E b).ls = (g.E b).ls := fun {j b} hj hb => by
    rw [hEo b (ne j hj b (List.mem_cons_of_mem _ hb))]; exact ⟨rfl, rfl, rfl⟩
  refine ⟨hw.cap, fun j hj => ?_, fun j hj => ?_, fun j hj b hb => ?_, fun j hj => ?_, fun j k b c hj hk hb hc h => ?_, hw.rinj, hw.hinj⟩
  · show Ring (g.add l e id wt).E (g.h j) (if j = l then g.B j ++ [e] else g.B j)
    by_cases hjl : j = l
    · subst hjl
      rw [if_pos rfl]
      exact (hw.ring j hj).add (hw.nodup hj) (hf j hj) hEo (by rw [hEe]) (by rw [hEe])
    · rw [if_neg hjl]
      refine (hw.ring j hj).same fun b hb => ?_
      rw [hEo b (ne j hj b hb)]
      refine ⟨?_, ?_⟩
      · show (if b = (g.E (g.h l)).pv then e else (g.E b).nx) = _
        exact if_neg fun h => hjl (hw.node hj hl hb (by rw [h]; exact hw.headPv hl))
      · show (if b = g.h l then e else (g.E b).pv) = _
        exact if_neg fun h => hjl (hw.node hj hl hb (by rw [h]; simp))
  · show ((g.add l e id wt).E (g.h j)).id = 0
    rw [hEo _ (ne j hj _ (by simp))]; exact hw.hd j hj
  · rcases mem hb with hb | ⟨rfl, rfl⟩
    · obtain ⟨o1, o2, o3⟩ := old hj hb
      rw [o1, o2, o3]; exact hw.els j hj b hb
    · rw [hEe]; exact ⟨h1, h2, h3, h4, rfl⟩
  · show (if j = l then g.B j ++ [e] else g.B j).Nodup
    split
    · refine List.nodup_append.2 ⟨hw.dup j hj, by simp, fun a ha b hb hab => ?_⟩
      simp at hb
      exact ne j hj a (List.mem_cons_of_mem _ ha) (hab.trans hb)
    · exact hw.dup j hj
  · rcases mem hb with hb' | ⟨_, hb'⟩
    · rw [(old hj hb').1] at h
      rcases mem hc with hc' | ⟨_, hc'⟩
      · rw [(old hk hc').1] at h; exact hw.uniq j k b c hj hk hb' hc' h
      · rw [hc', hEe] at h; exact absurd h (hid j hj b hb')
    · rcases mem hc with hc' | ⟨_, hc'⟩
      · rw [(old hk hc').1, hb', hEe] at h; exact absurd h.symm (hid k hk c hc')
      · rw [hb', hc']
theorem Wf.weigh (hw : g.Wf) (e : Nat) {wt : Int} (h3 : 0 ≤ wt) (h4 : wt ≤ 2147483648) : (g.weigh e wt).Wf := by
  have hs : ∀ b, ((g.weigh e wt).E b).id = (g.E b).id ∧ ((g.weigh e wt).E b).ls = (g.E b).ls ∧ ((g.weigh e wt).E b).nx = (g.E b).nx ∧ ((g.weigh e wt).E b).pv = (g.E b).pv ∧ (((g.weigh e wt).E b).wt = wt ∨ ((g.weigh e wt).E b).wt = (g.E b).wt) := fun b => by
    show ((if b = e then { g.E b with wt := wt } else g.E b).id = _ ∧ (if b = e then { g.E b with wt := wt } else g.E b).ls = _ ∧ (if b = e then { g.E b with wt := wt } else g.E b).nx = _ ∧ (if b = e then { g.E b with wt := wt } else g.E b).pv = _ ∧ ((if b = e then { g.E b with wt := wt } else g.E b).wt = _ ∨ (if b = e then { g.E b with wt := wt } else g.E b).wt = _))
    split
    · exact ⟨rfl, rfl, rfl, rfl, Or.inl rfl⟩
    · exact ⟨rfl, rfl, rfl, rfl, Or.inr rfl⟩
  refine ⟨hw.cap, fun j hj => (hw.ring j hj).same fun b _ => ⟨(hs b).2.2.1, (hs b).2.2.2.1⟩, fun j hj => (hs _).1.trans (hw.hd j hj), fun j hj b hb => ?_, hw.dup, fun j k b c hj hk hb hc h => hw.uniq j k b c hj hk hb hc (by rw [← (hs b).1, ← (hs c).1]; exact h), hw.rinj, hw.hinj⟩
  obtain ⟨q1, q2, _, _, q3⟩ := hs b
  have := hw.els j hj b hb
  rw [q1, q2]
  refine ⟨this.1, this.2.1, ?_, ?_, this.2.2.2.2⟩
  · rcases q3 with q | q <;> rw [q]; exact h3; exact this.2.2.1
  · rcases q3 with q | q <;> rw [q]; exact h4; exact this.2.2.2.1

/-! ### What the rows are then -/
theorem row_cut (hw : g.Wf) {i e j : Nat} (hi : i < g.n) (he : e ∈ g.B i) (hj : j < g.n) : (g.cut i e).row j = (g.row j).filter fun p => !(p.1 == (g.E e).id) := by
  have key : ∀ l : List Nat, (∀ b ∈ l, (g.E b).id = (g.E e).id ↔ b = e) → ((l.filter fun b => !(b == e)).map fun b => ((g.E b).id, (g.E b).wt)) = (l.map fun b => ((g.E b).id, (g.E b).wt)).filter fun p => !(p.1 == (g.E e).id) := by
    intro l
    induction l with
    | nil => intro _; rfl
    | cons a r ih =>
      intro h
      have ih := ih fun b hb => h b (List.mem_cons_of_mem _ hb)
      have ha := h a (by simp)
      by_cases hae : a = e
      · rw [List.filter_cons, List.map_cons, List.filter_cons]
        simp only [hae, BEq.rfl, Bool.not_true, Bool.false_eq_true, if_false]
        exact ih
      · have h1 : (a == e) = false := by simpa using hae
        have h2 : ((g.E a).id == (g.E e).id) = false := by simpa using fun x => hae (ha.1 x)
        rw [List.filter_cons, List.map_cons, List.filter_cons]
        simp only [h1, h2, Bool.not_false, if_true, List.map_cons]
        rw [ih]
  have hm : ∀ b ∈ g.B j, (g.E b).id = (g.E e).id ↔ b = e := fun b hb => ⟨fun h => hw.uniq j i b e hj hi hb he h, fun h => by rw [h]⟩
  show ((if j = i then (g.B j).filter fun b => !(b == e) else g.B j).map fun b => ((g.E b).id, (g.E b).wt)) = _
  by_cases hji : j = i
  · rw [if_pos hji]; exact key _ hm
  · rw [if_neg hji]
    have : (g.B j).filter (fun b => !(b == e)) = g.B j := List.filter_eq_self.2 fun b hb => by
      simp; intro h; exact hji (hw.rowOf hj hi hb (by rw [h]; exact he))
    have k := key _ hm
    rw [this] at k
    exact k
theorem row_add {l e j : Nat} {id wt : Int} (hf : ∀ j, j < g.n → e ∉ g.h j :: g.B j) (hj : j < g.n) : (g.add l e id wt).row j = if j = l then g.row j ++ [(id, wt)] else g.row j := by
  have old : ∀ b ∈ g.B j, (((g.add l e id wt).E b).id, ((g.add l e id wt).E b).wt) = ((g.E b).id, (g.E b).wt) := fun b hb => by
    have : (g.add l e id wt).E b = { g.E b with nx := if b = (g.E (g.h l)).pv then e else (g.E b).nx, pv := if b = g.h l then e else (g.E b).pv } := if_neg fun h => hf j hj (by rw [← h]; exact List.mem_cons_of_mem _ hb)
    rw [this]
  show ((if j = l then g.B j ++ [e] else g.B j).map fun b => (((g.add l e id wt).E b).id, ((g.add l e id wt).E b).wt)) = _
  split
  · rw [List.map_append, List.map_congr_left old]
    show _ ++ [(((g.add l e id wt).E e).id, ((g.add l e id wt).E e).wt)] = _
    rw [show (g.add l e id wt).E e = ⟨id, wt, (l : Int), (g.E (g.h l)).pv, g.h l⟩ from if_pos rfl]
    rfl
  · exact List.map_congr_left old
theorem row_weigh (hw : g.Wf) {i e j : Nat} {wt : Int} (hi : i < g.n) (he : e ∈ g.B i) (hj : j < g.n) : (g.weigh e wt).row j = (g.row j).map fun p => if p.1 = (g.E e).id then ((g.E e).id, wt) else p := by
  show ((g.B j).map fun b => (((g.weigh e wt).E b).id, ((g.weigh e wt).E b).wt)) = ((g.B j).map fun b => ((g.E b).id, (g.E b).wt)).map _
  rw [List.map_map]
  refine List.map_congr_left fun b hb => ?_
  show ((if b = e then { g.E b with wt := wt } else g.E b).id, (if b = e then { g.E b with wt := wt } else g.E b).wt) = if (g.E b).id = (g.E e).id then ((g.E e).id, wt) else ((g.E b).id, (g.E b).wt)
  by_cases h : b = e
  · rw [if_pos h, if_pos (by rw [h])]; simp [h]
  · rw [if_neg h, if_neg fun x => h (hw.uniq j i b e hj hi hb he x)]
theorem st_ext {a b : Ds} (h1 : a.n = b.n) (h2 : ∀ i, a.L i = b.L i) : a = b := by
  cases a; cases b; simp at h1 h2; subst h1; congr; exact funext h2
theorem st_cut (hw : g.Wf) {i e : Nat} (hi : i < g.n) (he : e ∈ g.B i) : (g.cut i e).st = g.st.unlink (g.E e).id := by
  refine st_ext rfl fun j => ?_
  show (if j < g.n then (g.cut i e).row j else []) = (if j < g.n then g.row j else []).filter _
  split
  · exact row_cut hw hi he (by assumption)
  · rfl
theorem st_add {l e : Nat} {id wt : Int} (hl : l < g.n) (hf : ∀ j, j < g.n → e ∉ g.h j :: g.B j) : (g.add l e id wt).st = g.st.push l id wt := by
  refine st_ext rfl fun j => ?_
  show (if j < g.n then (g.add l e id wt).row j else []) = if j = l then (if j < g.n then g.row j else []) ++ [(id, wt)] else (if j < g.n then g.row j else [])
  by_cases hj : j < g.n
  · rw [if_pos hj, if_pos hj]; exact row_add hf hj
  · rw [if_neg hj, if_neg hj, if_neg (fun h => hj (by rw [h]; exact hl))]
theorem st_weigh (hw : g.Wf) {i e : Nat} {wt : Int} (hi : i < g.n) (he : e ∈ g.B i) : (g.weigh e wt).st = g.st.reweigh (g.E e).id wt := by
  refine st_ext rfl fun j => ?_
  show (if j < g.n then (g.weigh e wt).row j else []) = (if j < g.n then g.row j else []).map _
  split
  · exact row_weigh hw hi he (by assumption)
  · rfl
end Gh
end Go.Proofs.Ytlmcopenbeammaa

/-
  Lists of package deque in memory: the struct, its slice of rows, its map, rows and elements; what newRow, addLast, remove, has, mayBe and mayWeigh do when they are called.
-/
namespace Go.Proofs.Ytlmcopenbeammaa
open Go.RowKit Go.Deep

theorem blk_set_same {w : World} {b : Nat} {c : Array Value} {t : TypeId} {f : Nat × Nat} (h : w.heap[b]? = some (.cells c t f)) (k : Nat) (v : Value) : (w.setCell ⟨b, k, none⟩ v).heap[b]? = some (.cells (c.setIfInBounds k v) t f) := by
  simp [World.setCell, Array.getElem?_modify, h]
theorem cell_of {w : World} {b : Nat} {c : Array Value} {t : TypeId} {f : Nat × Nat} (h : w.heap[b]? = some (.cells c t f)) {k : Nat} {v : Value} (hk : c[k]? = some v) : w.cell? ⟨b, k, none⟩ = some v := by
  simp only [World.cell?, h]; simp [hk]
theorem froz_of {w : World} {b : Nat} {c : Array Value} {t : TypeId} (h : w.heap[b]? = some (.cells c t (0, 0))) (k : Nat) : w.frozen? ⟨b, k, none⟩ = false := by simp [World.frozen?, h]
theorem lt_of {w : World} {b : Nat} {o : Obj} (h : w.heap[b]? = some o) : b < w.heap.size := (Array.getElem?_eq_some_iff.1 h).1

theorem drew3 (w : World) : w.drew.drew.drew = w.drewN 3 := rfl
def elC (x : El) : Array Value := #[.int .i64 x.id, .int .i64 x.wt, .int .i64 x.ls, ptr x.pv, ptr x.nx]
def ElOn (w : World) (b : Nat) (x : El) : Prop := w.heap[b]? = some (.cells (elC x) 89 (0, 0))
def RwOn (w : World) (r h : Nat) (W L : Int) : Prop := w.heap[r]? = some (.cells #[ptr h, .int .i64 W, .int .i64 L] 87 (0, 0))
variable {w w' : World} {b r h p e : Nat} {x y : El} {W L : Int}
theorem RwOn.ne (hr : RwOn w r h W L) (hb : ElOn w b x) : r ≠ b := fun e => by
  unfold RwOn at hr
  unfold ElOn at hb
  rw [e, hb] at hr
  cases hr
theorem ElOn.keep (hb : ElOn w b x) (hk : w'.heap[b]? = w.heap[b]?) : ElOn w' b x := hk.trans hb
theorem RwOn.keep (hb : RwOn w r h W L) (hk : w'.heap[r]? = w.heap[r]?) : RwOn w' r h W L := hk.trans hb
theorem ElOn.other (hb : ElOn w b x) {k : Nat} (hk : b ≠ p) (v : Value) : ElOn (w.setCell ⟨p, k, none⟩ v) b x := (blk_setCell_other _ _ _ _ hk).trans hb
theorem RwOn.other (hb : RwOn w r h W L) {k : Nat} (hk : r ≠ p) (v : Value) : RwOn (w.setCell ⟨p, k, none⟩ v) r h W L := (blk_setCell_other _ _ _ _ hk).trans hb
theorem ElOn.setWt (hb : ElOn w b x) (p : Nat) (v : Int) : ElOn (w.setCell ⟨p, 1, none⟩ (.int .i64 v)) b (if b = p then { x with wt := v } else x) := by
  by_cases e : b = p
  · subst e; rw [if_pos rfl]; exact blk_set_same hb 1 _
  · rw [if_neg e]; exact hb.other e _
theorem ElOn.setLs (hb : ElOn w b x) (p : Nat) (v : Int) : ElOn (w.setCell ⟨p, 2, none⟩ (.int .i64 v)) b (if b = p then { x with ls := v } else x) := by
  by_cases e : b = p
  · subst e; rw [if_pos rfl]; exact blk_set_same hb 2 _
  · rw [if_neg e]; exact hb.other e _
theorem ElOn.setPv (hb : ElOn w b x) (p c : Nat) : ElOn (w.setCell ⟨p, 3, none⟩ (ptr c)) b { x with pv := if b = p then c else x.pv } := by
  by_cases e : b = p
  · subst e; rw [if_pos rfl]; exact blk_set_same hb 3 _
  · rw [if_neg e]; exact hb.other e _
theorem ElOn.setNx (hb : ElOn w b x) (p c : Nat) : ElOn (w.setCell ⟨p, 4, none⟩ (ptr c)) b { x with nx := if b = p then c else x.nx } := by
  by_cases e : b = p
  · subst e; rw [if_pos rfl]; exact blk_set_same hb 4 _
  · rw [if_neg e]; exact hb.other e _
theorem RwOn.setWt (hb : RwOn w r h W L) (v : Int) : RwOn (w.setCell ⟨r, 1, none⟩ (.int .i64 v)) r h v L := blk_set_same hb 1 _
theorem RwOn.setLen (hb : RwOn w r h W L) (v : Int) : RwOn (w.setCell ⟨r, 2, none⟩ (.int .i64 v)) r h W v := blk_set_same hb 2 _

theorem newRow_m (w : World) :
    Calls Try.prog 34 #[] w fun e w' => e = .returned (ptr (w.heap.size + 1)) ∧ ElOn w' w.heap.size ⟨0, 0, 0, w.heap.size, w.heap.size⟩ ∧ RwOn w' (w.heap.size + 1) w.heap.size 0 0 ∧ Grown w w' := by
  go_enter Try.func34, Try.ntmps34
  go_wp2
  go_ret
  exact ⟨rfl, heap2_old _ _ _, heap2_new _ _ _, ((Grown.refl _).alloc _ _).alloc _ _⟩

theorem mayBe_m (id : Int) (w : World) :
    Calls Try.prog 69 #[.int .i64 id] w fun e w' => e = .returned (.bool (decide (1 ≤ id ∧ id ≤ 65536))) ∧ w' = w := by
  have hc : id < 1 ∨ (1 ≤ id ∧ id ≤ 65536) ∨ (1 ≤ id ∧ 65536 < id) := by omega
  rcases hc with h | ⟨h, h'⟩ | ⟨h, h'⟩
  all_goals
    go_enter Try.func69, Try.ntmps69
    go_wp2
    go_ret
    exact ⟨ret_b (by simp; try omega), rfl⟩
theorem mayWeigh_m (id : Int) (w : World) :
    Calls Try.prog 46 #[.int .i64 id] w fun e w' => e = .returned (.bool (decide (0 ≤ id ∧ id ≤ 2147483648))) ∧ w' = w := by
  have hc : id < 0 ∨ (0 ≤ id ∧ id ≤ 2147483648) ∨ (0 ≤ id ∧ 2147483648 < id) := by omega
  rcases hc with h | ⟨h, h'⟩ | ⟨h, h'⟩
  all_goals
    go_enter Try.func46, Try.ntmps46
    go_wp2
    go_ret
    exact ⟨ret_b (by simp; try omega), rfl⟩

set_option maxHeartbeats 1000000 in
theorem addLast_r {id we ls : Int} {v3 v4 : Value} (hr : RwOn w r h W L) (hh : ElOn w h x) (hx : x.pv = p) (hp : ElOn w p y) (he : w.heap[e]? = some (.cells #[.int .i64 id, .int .i64 we, .int .i64 ls, v3, v4] 89 (0, 0))) (heh : e ≠ h) (hep : e ≠ p)
    (hW : 0 ≤ W ∧ W ≤ 140737488355328) (hwe : 0 ≤ we ∧ we ≤ 2147483648) (hL : 0 ≤ L ∧ L ≤ 65536) :
    Calls Try.prog 70 #[ptr r, ptr e] w fun e' w' => e' = .returned (.tuple #[]) ∧ ∃ d, w' = ((((((w.setCell ⟨e, 3, none⟩ (ptr p)).setCell ⟨e, 4, none⟩ (ptr h)).setCell ⟨p, 4, none⟩ (ptr e)).setCell ⟨h, 3, none⟩ (ptr e)).setCell ⟨r, 1, none⟩ (.int .i64 (W + we))).setCell ⟨r, 2, none⟩ (.int .i64 (L + 1))).drewN d := by
  subst hx
  have r0 : w.cell? ⟨r, 0, none⟩ = some (ptr h) := cell_of hr rfl
  have r1 : w.cell? ⟨r, 1, none⟩ = some (.int .i64 W) := cell_of hr rfl
  have r2 : w.cell? ⟨r, 2, none⟩ = some (.int .i64 L) := cell_of hr rfl
  have h3 : w.cell? ⟨h, 3, none⟩ = some (ptr x.pv) := cell_of hh rfl
  have p4 : w.cell? ⟨x.pv, 4, none⟩ = some (ptr y.nx) := cell_of hp rfl
  have e1 : w.cell? ⟨e, 1, none⟩ = some (.int .i64 we) := cell_of he rfl
  have e3 : w.cell? ⟨e, 3, none⟩ = some v3 := cell_of he rfl
  have e4 : w.cell? ⟨e, 4, none⟩ = some v4 := cell_of he rfl
  have fr := froz_of hr
  have fh := froz_of hh
  have fp := froz_of hp
  have fe := froz_of he
  have lr := lt_of hr
  have lh := lt_of hh
  have lp := lt_of hp
  have le := lt_of he
  have n1 : r ≠ h := hr.ne hh
  have n2 : r ≠ x.pv := hr.ne hp
  have n3 : r ≠ e := fun q => by
    unfold RwOn at hr
    rw [q, he] at hr
    cases hr
  generalize x.pv = p at *
  clear hr hh hp he
  unfold ptr at *
  go_enter Try.func70, Try.ntmps70
  go_wp2
  go_region
  go_wp2
  go_region
  go_wp2
  go_region
  go_wp2
  go_end0
  exact ⟨rfl, 3, drew3 _⟩

set_option maxHeartbeats 1000000 in
theorem remove_r {n : Nat} {z : El} (hr : RwOn w r h W L) (he : ElOn w e x) (hx : x.pv = p) (hn : x.nx = n) (hp : ElOn w p y) (hz : ElOn w n z)
    (hW : 0 ≤ W ∧ W ≤ 140737488355328) (hwe : 0 ≤ x.wt ∧ x.wt ≤ 2147483648) (hL : 0 ≤ L ∧ L ≤ 65536) :
    Calls Try.prog 71 #[ptr r, ptr e] w fun e' w' => e' = .returned (.tuple #[]) ∧ ∃ d, w' = ((((w.setCell ⟨p, 4, none⟩ (ptr n)).setCell ⟨n, 3, none⟩ (ptr p)).setCell ⟨r, 1, none⟩ (.int .i64 (W - x.wt))).setCell ⟨r, 2, none⟩ (.int .i64 (L - 1))).drewN d := by
  have r1 : w.cell? ⟨r, 1, none⟩ = some (.int .i64 W) := cell_of hr rfl
  have r2 : w.cell? ⟨r, 2, none⟩ = some (.int .i64 L) := cell_of hr rfl
  have e1 : w.cell? ⟨e, 1, none⟩ = some (.int .i64 x.wt) := cell_of he rfl
  have e3 : w.cell? ⟨e, 3, none⟩ = some (ptr p) := hx ▸ cell_of he rfl
  have e4 : w.cell? ⟨e, 4, none⟩ = some (ptr n) := hn ▸ cell_of he rfl
  have p4 : w.cell? ⟨p, 4, none⟩ = some (ptr y.nx) := cell_of hp rfl
  have z3 : w.cell? ⟨n, 3, none⟩ = some (ptr z.pv) := cell_of hz rfl
  have fr := froz_of hr
  have fp := froz_of hp
  have fz := froz_of hz
  have lr := lt_of hr
  have lp := lt_of hp
  have le := lt_of he
  have lz := lt_of hz
  have n1 : r ≠ e := hr.ne he
  have n2 : r ≠ p := hr.ne hp
  have n3 : r ≠ n := hr.ne hz
  generalize x.wt = we at *
  clear hr he hp hz hx hn
  unfold ptr at *
  go_enter Try.func71, Try.ntmps71
  go_wp2
  go_region
  go_wp2
  go_region
  go_wp2
  go_end0
  exact ⟨rfl, 2, rfl⟩
end Go.Proofs.Ytlmcopenbeammaa

/-
  Lists of package deque: what addLast and remove make of the rows, the map apart.
-/
namespace Go.Proofs.Ytlmcopenbeammaa
open Go.RowKit Go.Deep

namespace Gh
variable {g : Gh}
theorem sum_add {l e j : Nat} {id wt : Int} (hf : ∀ j, j < g.n → e ∉ g.h j :: g.B j) (hj : j < g.n) : (g.add l e id wt).sum j = if j = l then g.sum j + wt else g.sum j := by
  rw [sum_row, row_add hf hj, sum_row]
  split
  · rw [List.map_append, sumI_append]; simp [sumD]
  · rfl
theorem len_add (l e j : Nat) (id wt : Int) : ((g.add l e id wt).B j).length = if j = l then (g.B j).length + 1 else (g.B j).length := by
  show (if j = l then g.B j ++ [e] else g.B j).length = _
  split <;> simp
theorem sum_cut (hw : g.Wf) {i e : Nat} (hi : i < g.n) (he : e ∈ g.B i) (j : Nat) : (g.cut i e).sum j = if j = i then g.sum j - (g.E e).wt else g.sum j := by
  show sumD ((if j = i then (g.B j).filter fun b => !(b == e) else g.B j).map fun b => (g.E b).wt) = if j = i then sumD ((g.B j).map fun b => (g.E b).wt) - (g.E e).wt else sumD ((g.B j).map fun b => (g.E b).wt)
  by_cases hji : j = i
  · subst hji
    rw [if_pos rfl, if_pos rfl]
    obtain ⟨P, S, h1, h2⟩ := parts he (hw.dup j hi)
    rw [h2, h1, List.map_append, List.map_append, sumI_append, sumI_append, List.map_cons]
    simp only [sumD]
    omega
  · rw [if_neg hji, if_neg hji]
theorem len_cut (hw : g.Wf) {i e : Nat} (hi : i < g.n) (he : e ∈ g.B i) (j : Nat) : (((g.cut i e).B j).length : Int) = if j = i then ((g.B j).length : Int) - 1 else ((g.B j).length : Int) := by
  show ((if j = i then (g.B j).filter fun b => !(b == e) else g.B j).length : Int) = _
  by_cases hji : j = i
  · subst hji
    rw [if_pos rfl, if_pos rfl]
    obtain ⟨P, S, h1, h2⟩ := parts he (hw.dup j hi)
    rw [h2, h1]
    simp
    omega
  · rw [if_neg hji, if_neg hji]
end Gh

/-- Lists at block X, the map apart. -/
structure DqC (w : World) (X : Nat) (pr : Option Addr) (cr M : Nat) (g : Gh) : Prop where
  wf : g.Wf
  head : w.heap[X]? = some (.cells #[.slice pr g.n cr, .map (some M)] 74 (0, 0))
  vec : Vec w 75 1 pr g.n cr (fun j => ptr (g.r j))
  rows : ∀ i, i < g.n → RwOn w (g.r i) (g.h i) (g.sum i) ((g.B i).length : Int)
  els : ∀ i, i < g.n → ∀ b ∈ g.h i :: g.B i, ElOn w b (g.E b)
/-- The blocks of the rows and elements. -/
def rfoot (g : Gh) (k : Nat) : Prop := ∃ i, i < g.n ∧ (k = g.r i ∨ k ∈ g.h i :: g.B i)
variable {w w' : World} {X : Nat} {pr : Option Addr} {cr M : Nat} {g : Gh}
theorem vec_ne {e ty : TypeId} {s n c B : Nat} {p : Option Addr} {f : Nat → Value} {cs : Array Value} (hv : Vec w e s p n c f) (hb : w.heap[B]? = some (.cells cs ty (0, 0))) (ht : ty ≠ e) : ¬ In p B := fun hi => by
  rcases hv with ⟨rfl, _⟩ | ⟨B', cur, h1, h2, _⟩
  · exact In.no hi
  · rw [h1] at hi
    rw [hi.eq, h2] at hb
    cases hb
    exact ht rfl
namespace DqC
theorem lt (h : DqC w X pr cr M g) : X < w.heap.size := lt_of h.head
theorem rfoot_lt (h : DqC w X pr cr M g) {k : Nat} (hk : rfoot g k) : k < w.heap.size := by
  obtain ⟨i, hi, rfl | hk⟩ := hk
  · exact lt_of (h.rows i hi)
  · exact lt_of (h.els i hi k hk)
theorem keep (h : DqC w X pr cr M g) (hX : w'.heap[X]? = w.heap[X]?) (hv : ∀ k, In pr k → w'.heap[k]? = w.heap[k]?) (hk : ∀ k, rfoot g k → w'.heap[k]? = w.heap[k]?) : DqC w' X pr cr M g := by
  refine ⟨h.wf, hX.trans h.head, ?_, fun i hi => (h.rows i hi).keep (hk _ ⟨i, hi, Or.inl rfl⟩), fun i hi b hb => (h.els i hi b hb).keep (hk _ ⟨i, hi, Or.inr hb⟩)⟩
  rcases h.vec with hv' | ⟨B, cur, h1, h2, h3⟩
  · exact Or.inl hv'
  · exact Or.inr ⟨B, cur, h1, (hv B h1).trans h2, h3⟩
theorem drewN (h : DqC w X pr cr M g) (d : Nat) : DqC (w.drewN d) X pr cr M g := h.keep rfl (fun _ _ => rfl) (fun _ _ => rfl)
theorem xrow (h : DqC w X pr cr M g) : ¬ In pr X ∧ ¬ rfoot g X := by
  refine ⟨vec_ne h.vec h.head (by decide), fun ⟨i, hi, hk⟩ => ?_⟩
  have h1 := h.head
  rcases hk with hk | hk
  · have h2 := h.rows i hi
    unfold RwOn at h2
    rw [← hk, h1] at h2
    cases h2
  · have h2 := h.els i hi X hk
    unfold ElOn at h2
    rw [h1] at h2
    cases h2
theorem vrow (h : DqC w X pr cr M g) {k : Nat} (hk : In pr k) : ¬ rfoot g k := fun ⟨i, hi, hr⟩ => by
  rcases hr with rfl | hr
  · exact vec_ne h.vec (h.rows i hi) (by decide) hk
  · exact vec_ne h.vec (h.els i hi k hr) (by decide) hk
/-- Whatever turns rows and elements alone keeps the struct and its slice. -/
theorem base (h : DqC w X pr cr M g) {F : Nat → Prop} (o : Out F w w') (hF : ∀ k, F k → k < w.heap.size → ¬ k = X ∧ ¬ In pr k) : w'.heap[X]? = some (.cells #[.slice pr g.n cr, .map (some M)] 74 (0, 0)) ∧ Vec w' 75 1 pr g.n cr (fun j => ptr (g.r j)) :=
  ⟨(o.block X h.lt (fun f => (hF X f h.lt).1 rfl)).trans h.head, h.vec.out o fun k hk f => (hF k f (h.vec.lt hk)).2 hk⟩

set_option maxHeartbeats 1000000 in
theorem addLast (h : DqC w X pr cr M g) {l e : Nat} {id wt : Int} {v3 v4 : Value} (hl : l < g.n) (he : w.heap[e]? = some (.cells #[.int .i64 id, .int .i64 wt, .int .i64 (l : Int), v3, v4] 89 (0, 0)))
    (hf : ∀ j, j < g.n → e ∉ g.h j :: g.B j) (hid : ∀ j, j < g.n → ∀ b ∈ g.B j, (g.E b).id ≠ id) (h1 : 1 ≤ id) (h2 : id ≤ 65536) (h3 : 0 ≤ wt) (h4 : wt ≤ 2147483648) :
    Calls Try.prog 70 #[ptr (g.r l), ptr e] w fun e' w' => e' = .returned (.tuple #[]) ∧ DqC w' X pr cr M (g.add l e id wt) ∧ Out (fun k => rfoot g k ∨ k = e) w w' := by
  have hw := h.wf
  have hh := h.els l hl (g.h l) (by simp)
  have hp := h.els l hl _ (hw.headPv hl)
  have hr := h.rows l hl
  have hne : ∀ j, j < g.n → ∀ b ∈ g.h j :: g.B j, b ≠ e := fun j hj b hb q => hf j hj (by rw [← q]; exact hb)
  refine (addLast_r hr hh rfl hp he (fun q => hne l hl _ (by simp) q.symm) (fun q => hne l hl _ (hw.headPv hl) q.symm) (hw.sumBound hl) ⟨h3, h4⟩ ⟨by omega, by have := hw.len hl; omega⟩).mono ?_
  rintro e' w' ⟨rfl, d, rfl⟩
  have hrne : ∀ j, j < g.n → g.r j ≠ e := fun j hj q => by
    have := h.rows j hj
    unfold RwOn at this
    rw [q, he] at this
    cases this
  have ho : Out (fun k => rfoot g k ∨ k = e) w ((((((w.setCell ⟨e, 3, none⟩ (ptr (g.E (g.h l)).pv)).setCell ⟨e, 4, none⟩ (ptr (g.h l))).setCell ⟨(g.E (g.h l)).pv, 4, none⟩ (ptr e)).setCell ⟨g.h l, 3, none⟩ (ptr e)).setCell ⟨g.r l, 1, none⟩ (.int .i64 (g.sum l + wt))).setCell ⟨g.r l, 2, none⟩ (.int .i64 (((g.B l).length : Int) + 1))) :=
    ((((((Out.refl _ w).setCell (a := ⟨e, 3, none⟩) (Or.inr rfl) _).setCell (a := ⟨e, 4, none⟩) (Or.inr rfl) _).setCell (a := ⟨(g.E (g.h l)).pv, 4, none⟩) (Or.inl ⟨l, hl, Or.inr (hw.headPv hl)⟩) _).setCell (a := ⟨g.h l, 3, none⟩) (Or.inl ⟨l, hl, Or.inr (by simp)⟩) _).setCell (a := ⟨g.r l, 1, none⟩) (Or.inl ⟨l, hl, Or.inl rfl⟩) _).setCell (a := ⟨g.r l, 2, none⟩) (Or.inl ⟨l, hl, Or.inl rfl⟩) _
  obtain ⟨b1, b2⟩ := h.base ho (fun k hk _ => by
    rcases hk with hk | rfl
    · exact ⟨fun q => h.xrow.2 (by rw [← q]; exact hk), fun q => h.vrow q hk⟩
    · refine ⟨fun q => ?_, fun q => ?_⟩
      · have := h.head
        rw [← q, he] at this
        cases this
      · exact vec_ne h.vec he (by decide) q)
  refine ⟨rfl, DqC.drewN ?_ d, ho.drewN d⟩
  refine ⟨hw.add hl hf hid h1 h2 h3 h4, b1, b2, fun j hj => ?_, fun j hj b hb => ?_⟩
  · rw [Gh.sum_add hf hj, Gh.len_add]
    have hj0 := h.rows j hj
    have a1 := (((hj0.other (k := 3) (hrne j hj) (ptr (g.E (g.h l)).pv)).other (k := 4) (hrne j hj) (ptr (g.h l))).other (k := 4) (hj0.ne hp) (ptr e)).other (k := 3) (hj0.ne hh) (ptr e)
    by_cases q : j = l
    · subst q
      rw [if_pos rfl, if_pos rfl]
      exact (a1.setWt _).setLen _
    · rw [if_neg q, if_neg q]
      have q' : g.r j ≠ g.r l := fun x => q (hw.rinj j l hj hl x)
      exact (a1.other q' _).other q' _
  · show ElOn _ b ((g.add l e id wt).E b)
    have hb : b ∈ g.h j :: (if j = l then g.B j ++ [e] else g.B j) := hb
    by_cases q : b = e
    · subst q
      rw [show (g.add l b id wt).E b = ⟨id, wt, (l : Int), (g.E (g.h l)).pv, g.h l⟩ from if_pos rfl]
      have s1 := blk_set_same (blk_set_same he 3 (ptr (g.E (g.h l)).pv)) 4 (ptr (g.h l))
      have s2 : ElOn ((w.setCell ⟨b, 3, none⟩ (ptr (g.E (g.h l)).pv)).setCell ⟨b, 4, none⟩ (ptr (g.h l))) b ⟨id, wt, (l : Int), (g.E (g.h l)).pv, g.h l⟩ := s1
      exact (((s2.other (fun x => hne l hl _ (hw.headPv hl) x.symm) _).other (fun x => hne l hl _ (by simp) x.symm) _).other (fun x => hrne l hl x.symm) _).other (fun x => hrne l hl x.symm) _
    · have hb' : b ∈ g.h j :: g.B j := by
        split at hb
        · simp at hb ⊢
          rcases hb with x | x | x
          · exact Or.inl x
          · exact Or.inr x
          · exact absurd x q
        · exact hb
      rw [show (g.add l e id wt).E b = { g.E b with nx := if b = (g.E (g.h l)).pv then e else (g.E b).nx, pv := if b = g.h l then e else (g.E b).pv } from if_neg q]
      have s0 := h.els j hj b hb'
      have q' : b ≠ g.r l := fun x => hr.ne s0 x.symm
      exact (((((s0.other q _).other q _).setNx _ e).setPv (g.h l) e).other q' _).other q' _

set_option maxHeartbeats 1000000 in
theorem remove (h : DqC w X pr cr M g) {i e : Nat} (hi : i < g.n) (he : e ∈ g.B i) :
    Calls Try.prog 71 #[ptr (g.r i), ptr e] w fun e' w' => e' = .returned (.tuple #[]) ∧ DqC w' X pr cr M (g.cut i e) ∧ Out (rfoot g) w w' ∧ ElOn w' e ((g.cut i e).E e) := by
  have hw := h.wf
  obtain ⟨m1, m2, m3, m4⟩ := hw.besides hi he
  have hel := h.els i hi e (List.mem_cons_of_mem _ he)
  have hp := h.els i hi _ m1
  have hn := h.els i hi _ m2
  have hr := h.rows i hi
  have hee := hw.els i hi e he
  refine (remove_r hr hel rfl rfl hp hn (hw.sumBound hi) ⟨hee.2.2.1, hee.2.2.2.1⟩ ⟨by omega, by have := hw.len hi; omega⟩).mono ?_
  rintro e' w' ⟨rfl, d, rfl⟩
  have ho : Out (rfoot g) w ((((w.setCell ⟨(g.E e).pv, 4, none⟩ (ptr (g.E e).nx)).setCell ⟨(g.E e).nx, 3, none⟩ (ptr (g.E e).pv)).setCell ⟨g.r i, 1, none⟩ (.int .i64 (g.sum i - (g.E e).wt))).setCell ⟨g.r i, 2, none⟩ (.int .i64 (((g.B i).length : Int) - 1))) :=
    ((((Out.refl _ w).setCell (a := ⟨(g.E e).pv, 4, none⟩) ⟨i, hi, Or.inr m1⟩ _).setCell (a := ⟨(g.E e).nx, 3, none⟩) ⟨i, hi, Or.inr m2⟩ _).setCell (a := ⟨g.r i, 1, none⟩) ⟨i, hi, Or.inl rfl⟩ _).setCell (a := ⟨g.r i, 2, none⟩) ⟨i, hi, Or.inl rfl⟩ _
  obtain ⟨b1, b2⟩ := h.base ho (fun k hk _ => ⟨fun q => h.xrow.2 (by rw [← q]; exact hk), fun q => h.vrow q hk⟩)
  have hE : ∀ j, j < g.n → ∀ b ∈ g.h j :: g.B j, ElOn ((((w.setCell ⟨(g.E e).pv, 4, none⟩ (ptr (g.E e).nx)).setCell ⟨(g.E e).nx, 3, none⟩ (ptr (g.E e).pv)).setCell ⟨g.r i, 1, none⟩ (.int .i64 (g.sum i - (g.E e).wt))).setCell ⟨g.r i, 2, none⟩ (.int .i64 (((g.B i).length : Int) - 1))) b ((g.cut i e).E b) := fun j hj b hb => by
    have s0 := h.els j hj b hb
    have q' : b ≠ g.r i := fun x => hr.ne s0 x.symm
    exact (((s0.setNx _ _).setPv _ _).other q' _).other q' _
  refine ⟨rfl, DqC.drewN ⟨hw.cut hi he, b1, b2, fun j hj => ?_, fun j hj b hb => ?_⟩ d, ho.drewN d, (hE i hi e (List.mem_cons_of_mem _ he)).keep rfl⟩
  · rw [Gh.sum_cut hw hi he, Gh.len_cut hw hi he]
    have hj0 := h.rows j hj
    have a1 := (hj0.other (k := 4) (hj0.ne hp) (ptr (g.E e).nx)).other (k := 3) (hj0.ne hn) (ptr (g.E e).pv)
    by_cases q : j = i
    · subst q
      rw [if_pos rfl, if_pos rfl]
      exact (a1.setWt _).setLen _
    · rw [if_neg q, if_neg q]
      have q' : g.r j ≠ g.r i := fun x => q (hw.rinj j i hj hi x)
      exact (a1.other q' _).other q' _
  · rcases List.mem_cons.1 hb with q | q
    · exact hE j hj b (by rw [q]; simp; exact Or.inl rfl)
    · exact hE j hj b (List.mem_cons_of_mem _ (Gh.mem_cut q))
end DqC
end Go.Proofs.Ytlmcopenbeammaa
