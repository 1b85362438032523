/-
  An arena's state apart from memory: which nodes are under which numbers, which numbers were dropped; what Put, Set and Drop make of it. Memory that holds one. No condition but those told at each sentence.
-/
import Derived.Test.YtkjnpgpgcikhgaaGenVec
import Derived.BigQuiet
import Derived.Deep.RegionWith
namespace Go.Proofs.Ytkjnpgpgcikhgaa
open Go.RowKit Go.Deep

/-- How many it may hold, how many slots there are (the slot 0 among them), the node under each number, the numbers that were dropped, the last one first. -/
structure As where
  m : Nat
  n : Nat
  s : Nat → Option (Int × Int)
  d : List Nat

namespace As
/-- Numbers below n, none twice, are n at most. -/
theorem few : ∀ (n : Nat) (l : List Nat), l.Nodup → (∀ x ∈ l, x < n) → l.length ≤ n
  | 0, l, _, h => by
    cases l with
    | nil => exact Nat.le_refl _
    | cons x r => exact absurd (h x (List.mem_cons_self ..)) (by omega)
  | n + 1, l, hd, h => by
    have ih := few n (l.erase n) (hd.erase n) (fun x hx => by
      have h1 := h x (List.mem_of_mem_erase hx)
      have h2 : x ≠ n := fun e => by subst e; exact absurd hx (List.Nodup.not_mem_erase hd)
      omega)
    have := List.length_erase (a := n) (l := l)
    split at this <;> omega

structure Wf (t : As) : Prop where
  pos : 1 ≤ t.n
  top : t.n ≤ t.m + 1
  cap : t.m ≤ 65536
  zero : t.s 0 = none
  past : ∀ i, t.n ≤ i → t.s i = none
  drop : ∀ i, i ∈ t.d ↔ 1 ≤ i ∧ i < t.n ∧ t.s i = none
  dup : t.d.Nodup

variable {t : As}
theorem Wf.few (h : t.Wf) : t.d.length + 1 ≤ t.n := by
  have := As.few t.n (0 :: t.d) (List.nodup_cons.2 ⟨fun h0 => by have := (h.drop 0).1 h0; omega, h.dup⟩) (fun x hx => by
    rcases List.mem_cons.1 hx with e | e
    · subst e; exact h.pos
    · exact ((h.drop x).1 e).2.1)
  simpa using this

def len (t : As) : Nat := t.n - 1 - t.d.length
/-- The number that Put gives. -/
def give (t : As) : Nat := t.d.headD t.n
def mid (t : As) : As := { t with n := if t.d = [] then t.n + 1 else t.n, d := t.d.tail }
def put (t : As) (v : Int × Int) : As := { t.mid with s := fun i => if i = t.give then some v else t.s i }
def set (t : As) (i : Nat) (v : Int × Int) : As := { t with s := fun j => if j = i then some v else t.s j }
def drop (t : As) (i : Nat) : As := { t with s := fun j => if j = i then none else t.s j, d := i :: t.d }
/-- The node under that number. -/
def under (t : As) (id : Int) : Option (Int × Int) := if 0 ≤ id then t.s id.toNat else none
def zero (m : Nat) : As := ⟨m, 1, fun _ => none, []⟩

theorem under_nat (t : As) (i : Nat) : t.under (i : Int) = t.s i := by simp [under]
theorem zero_wf {m : Nat} (h : m ≤ 65536) : (zero m).Wf :=
  ⟨Nat.le_refl _, by show 1 ≤ m + 1; omega, h, rfl, fun _ _ => rfl, fun i => ⟨fun h => absurd h List.not_mem_nil, fun h => by have h2 : i < 1 := h.2.1; omega⟩, List.nodup_nil⟩
theorem give_new (h : t.d = []) : t.give = t.n := by simp [give, h]
theorem give_old {x : Nat} {r : List Nat} (h : t.d = x :: r) : t.give = x := by simp [give, h]
theorem Wf.give_bd (h : t.Wf) (hr : t.len < t.m) : 1 ≤ t.give ∧ t.give ≤ t.m ∧ t.s t.give = none := by
  cases hd : t.d with
  | nil =>
    rw [give_new hd]
    have : t.len = t.n - 1 := by simp [len, hd]
    have := h.pos
    exact ⟨h.pos, by omega, h.past _ (Nat.le_refl _)⟩
  | cons x r =>
    rw [give_old hd]
    obtain ⟨h1, h2, h3⟩ := (h.drop x).1 (by rw [hd]; exact List.mem_cons_self ..)
    have := h.top
    exact ⟨h1, by omega, h3⟩
theorem put_wf {v : Int × Int} (h : t.Wf) (hr : t.len < t.m) : (t.put v).Wf := by
  obtain ⟨hg1, hg2, hg3⟩ := h.give_bd hr
  cases hd : t.d with
  | nil =>
    have hg := give_new hd
    have hl : t.len = t.n - 1 := by simp [len, hd]
    have hp := h.pos
    refine ⟨?_, ?_, h.cap, ?_, ?_, ?_, ?_⟩
    · show 1 ≤ (if t.d = [] then t.n + 1 else t.n); rw [if_pos hd]; omega
    · show (if t.d = [] then t.n + 1 else t.n) ≤ t.m + 1; rw [if_pos hd]; omega
    · show (if 0 = t.give then some v else t.s 0) = none; rw [if_neg (by omega)]; exact h.zero
    · intro i hi
      have hi : (if t.d = [] then t.n + 1 else t.n) ≤ i := hi
      rw [if_pos hd] at hi
      show (if i = t.give then some v else t.s i) = none; rw [if_neg (by omega)]; exact h.past i (by omega)
    · intro i
      show i ∈ t.d.tail ↔ 1 ≤ i ∧ i < (if t.d = [] then t.n + 1 else t.n) ∧ (if i = t.give then some v else t.s i) = none
      rw [if_pos hd, hd]
      refine ⟨fun h => absurd h List.not_mem_nil, fun ⟨h1, h2, h3⟩ => ?_⟩
      by_cases e : i = t.give
      · rw [if_pos e] at h3; cases h3
      · rw [if_neg e] at h3
        have := (h.drop i).2 ⟨h1, by omega, h3⟩
        rw [hd] at this; exact this
    · show t.d.tail.Nodup; rw [hd]; exact List.nodup_nil
  | cons x r =>
    have hg := give_old hd
    have hne : t.d ≠ [] := by rw [hd]; simp
    have hdup := h.dup
    rw [hd] at hdup
    refine ⟨?_, ?_, h.cap, ?_, ?_, ?_, ?_⟩
    · show 1 ≤ (if t.d = [] then t.n + 1 else t.n); rw [if_neg hne]; exact h.pos
    · show (if t.d = [] then t.n + 1 else t.n) ≤ t.m + 1; rw [if_neg hne]; exact h.top
    · show (if 0 = t.give then some v else t.s 0) = none; rw [if_neg (by omega)]; exact h.zero
    · intro i hi
      have hi : (if t.d = [] then t.n + 1 else t.n) ≤ i := hi
      rw [if_neg hne] at hi
      have := ((h.drop x).1 (by rw [hd]; exact List.mem_cons_self ..)).2.1
      show (if i = t.give then some v else t.s i) = none; rw [if_neg (by omega)]; exact h.past i (by omega)
    · intro i
      show i ∈ t.d.tail ↔ 1 ≤ i ∧ i < (if t.d = [] then t.n + 1 else t.n) ∧ (if i = t.give then some v else t.s i) = none
      rw [if_neg hne]
      have hm := h.drop i
      rw [hd] at hm ⊢
      by_cases e : i = t.give
      · rw [if_pos e]
        constructor
        · intro hi
          have : i = x := by rw [e, hg]
          subst this
          exact absurd hi (List.nodup_cons.1 hdup).1
        · intro ⟨_, _, h3⟩; cases h3
      · rw [if_neg e, ← hm]
        show i ∈ r ↔ i ∈ x :: r
        rw [List.mem_cons]
        constructor
        · exact Or.inr
        · rintro (e' | e')
          · exact absurd (by rw [e', hg]) e
          · exact e'
    · show t.d.tail.Nodup; rw [hd]; exact (List.nodup_cons.1 hdup).2
theorem Wf.held (h : t.Wf) {i : Nat} {v : Int × Int} (hi : t.s i = some v) : 1 ≤ i ∧ i < t.n := by
  constructor
  · apply Decidable.byContradiction; intro hc
    have : i = 0 := by omega
    subst this; rw [h.zero] at hi; cases hi
  · apply Decidable.byContradiction; intro hc
    rw [h.past i (by omega)] at hi; cases hi
theorem set_wf {i : Nat} {u v : Int × Int} (h : t.Wf) (hi : t.s i = some u) : (t.set i v).Wf := by
  obtain ⟨h1, h2⟩ := h.held hi
  refine ⟨h.pos, h.top, h.cap, ?_, ?_, ?_, h.dup⟩
  · show (if 0 = i then some v else t.s 0) = none; rw [if_neg (by omega)]; exact h.zero
  · intro j hj
    have hj : t.n ≤ j := hj
    show (if j = i then some v else t.s j) = none; rw [if_neg (by omega)]; exact h.past j hj
  · intro j
    show j ∈ t.d ↔ 1 ≤ j ∧ j < t.n ∧ (if j = i then some v else t.s j) = none
    rw [h.drop j]
    by_cases e : j = i
    · subst e; rw [if_pos rfl, hi]; simp
    · rw [if_neg e]
theorem drop_wf {i : Nat} {u : Int × Int} (h : t.Wf) (hi : t.s i = some u) : (t.drop i).Wf := by
  obtain ⟨h1, h2⟩ := h.held hi
  refine ⟨h.pos, h.top, h.cap, ?_, ?_, ?_, ?_⟩
  · show (if 0 = i then none else t.s 0) = none; rw [if_neg (by omega)]; exact h.zero
  · intro j hj
    have hj : t.n ≤ j := hj
    show (if j = i then none else t.s j) = none; rw [if_neg (by omega)]; exact h.past j hj
  · intro j
    show j ∈ i :: t.d ↔ 1 ≤ j ∧ j < t.n ∧ (if j = i then none else t.s j) = none
    rw [List.mem_cons, h.drop j]
    by_cases e : j = i
    · subst e; rw [if_pos rfl]; simp [h1, h2]
    · rw [if_neg e]; simp [e]
  · refine List.nodup_cons.2 ⟨fun hm => ?_, h.dup⟩
    have := ((h.drop i).1 hm).2.2
    rw [hi] at this
    cases this
theorem put_len {v : Int × Int} (h : t.Wf) : (t.put v).len = t.len + 1 := by
  have := h.few
  cases hd : t.d with
  | nil =>
    show (if t.d = [] then t.n + 1 else t.n) - 1 - t.d.tail.length = t.n - 1 - t.d.length + 1
    have := h.pos
    rw [if_pos hd, hd]; simp; omega
  | cons x r =>
    show (if t.d = [] then t.n + 1 else t.n) - 1 - t.d.tail.length = t.n - 1 - t.d.length + 1
    rw [if_neg (by rw [hd]; simp)]
    rw [hd] at this ⊢
    simp at this ⊢; omega
theorem set_len (i : Nat) (v : Int × Int) : (t.set i v).len = t.len := rfl
theorem drop_len {i : Nat} {u : Int × Int} (h : t.Wf) (hi : t.s i = some u) : (t.drop i).len + 1 = t.len := by
  have := (drop_wf h hi).few
  show t.n - 1 - (i :: t.d).length + 1 = t.n - 1 - t.d.length
  have this : (i :: t.d).length + 1 ≤ t.n := this
  simp at this ⊢; omega
theorem Wf.len_le (h : t.Wf) : t.len ≤ t.m := by
  have := h.top
  unfold len; omega
theorem Wf.len_eq (h : t.Wf) : (t.n : Int) - 1 - (t.d.length : Int) = (t.len : Int) := by
  have := h.few
  unfold len; omega
end As

/-- A slot's cells: is it held, its node's key and weight. -/
def cellOf (o : Option (Int × Int)) : Nat → Value
  | 0 => .bool o.isSome
  | 1 => .int .i64 (o.getD (0, 0)).1
  | _ => .int .i64 (o.getD (0, 0)).2
def slotC (s : Nat → Option (Int × Int)) (j : Nat) : Value := cellOf (s (j / 3)) (j % 3)
theorem slotC0 (s : Nat → Option (Int × Int)) (i : Nat) : slotC s (i * 3) = .bool (s i).isSome := by
  unfold slotC; rw [show i * 3 / 3 = i by omega, show i * 3 % 3 = 0 by omega]; rfl
theorem slotC1 (s : Nat → Option (Int × Int)) (i : Nat) : slotC s (i * 3 + 1) = .int .i64 ((s i).getD (0, 0)).1 := by
  unfold slotC; rw [show (i * 3 + 1) / 3 = i by omega, show (i * 3 + 1) % 3 = 1 by omega]; rfl
theorem slotC2 (s : Nat → Option (Int × Int)) (i : Nat) : slotC s (i * 3 + 2) = .int .i64 ((s i).getD (0, 0)).2 := by
  unfold slotC; rw [show (i * 3 + 2) / 3 = i by omega, show (i * 3 + 2) % 3 = 2 by omega]; rfl
theorem slotC_one (s : Nat → Option (Int × Int)) (j : Nat) : (slotC s j).oneCell' = true := by
  unfold slotC cellOf; split <;> rfl
/-- Three cells of one slot, written. -/
theorem slotC_set (s : Nat → Option (Int × Int)) (i : Nat) (o : Option (Int × Int)) (j : Nat) :
    slotC (fun k => if k = i then o else s k) j = if j = i * 3 + 2 then .int .i64 (o.getD (0, 0)).2 else if j = i * 3 + 1 then .int .i64 (o.getD (0, 0)).1 else if j = i * 3 then .bool o.isSome else slotC s j := by
  by_cases h2 : j = i * 3 + 2
  · subst h2; rw [if_pos rfl, slotC2, if_pos rfl]
  · rw [if_neg h2]
    by_cases h1 : j = i * 3 + 1
    · subst h1; rw [if_pos rfl, slotC1, if_pos rfl]
    · rw [if_neg h1]
      by_cases h0 : j = i * 3
      · subst h0; rw [if_pos rfl, slotC0, if_pos rfl]
      · rw [if_neg h0]
        show cellOf (if j / 3 = i then o else s (j / 3)) (j % 3) = cellOf (s (j / 3)) (j % 3)
        rw [if_neg (by omega)]
/-- One more number at the end. -/
def dropC (d : List Nat) (j : Nat) : Value := .int .i64 (d.reverse.getD j 0 : Nat)
theorem dropC_cons (x : Nat) (d : List Nat) (j : Nat) (hj : j < d.length + 1) : dropC (x :: d) j = if j < d.length then dropC d j else .int .i64 (x : Nat) := by
  unfold dropC
  rw [List.reverse_cons]
  by_cases h : j < d.length
  · rw [if_pos h, List.getD_eq_getElem?_getD, List.getD_eq_getElem?_getD, List.getElem?_append_left (by simpa using h)]
  · have e : j = d.reverse.length := by simp; omega
    rw [if_neg h, List.getD_eq_getElem?_getD, List.getElem?_append_right (by omega), e]
    simp
theorem dropC_last (x : Nat) (d : List Nat) : dropC (x :: d) d.length = .int .i64 (x : Nat) := by
  rw [dropC_cons _ _ _ (by omega), if_neg (by omega)]

/-- An arena at block A. -/
structure ArM (w : World) (A : Nat) (ps : Option Addr) (cs : Nat) (pd : Option Addr) (cd : Nat) (t : As) : Prop where
  head : w.heap[A]? = some (.cells #[.int .i64 (t.m : Int), .slice ps t.n cs, .slice pd t.d.length cd] 54 (0, 0))
  slots : Vec w 56 3 ps t.n cs (slotC t.s)
  drops : Vec w 3 1 pd t.d.length cd (dropC t.d)
  n1 : ¬ In ps A
  n2 : ¬ In pd A
  n3 : ∀ k, In ps k → ¬ In pd k
/-- Its blocks. -/
def foot (A : Nat) (ps pd : Option Addr) (k : Nat) : Prop := k = A ∨ In ps k ∨ In pd k
namespace ArM
variable {w w' : World} {A : Nat} {ps pd : Option Addr} {cs cd : Nat} {t : As}
theorem lt (h : ArM w A ps cs pd cd t) : A < w.heap.size := (Array.getElem?_eq_some_iff.1 h.head).1
theorem foot_lt (h : ArM w A ps cs pd cd t) {k : Nat} (hk : foot A ps pd k) : k < w.heap.size := by
  rcases hk with rfl | hk | hk
  · exact h.lt
  · exact h.slots.lt hk
  · exact h.drops.lt hk
theorem cell0 (h : ArM w A ps cs pd cd t) : w.cell? ⟨A, 0, none⟩ = some (.int .i64 (t.m : Int)) := by simp only [World.cell?, h.head]; rfl
theorem cell1 (h : ArM w A ps cs pd cd t) : w.cell? ⟨A, 1, none⟩ = some (.slice ps t.n cs) := by simp only [World.cell?, h.head]; rfl
theorem cell2 (h : ArM w A ps cs pd cd t) : w.cell? ⟨A, 2, none⟩ = some (.slice pd t.d.length cd) := by simp only [World.cell?, h.head]; rfl
theorem frozen (h : ArM w A ps cs pd cd t) (k : Nat) : w.frozen? ⟨A, k, none⟩ = false := by simp [World.frozen?, h.head]
theorem out {F : Nat → Prop} (h : ArM w A ps cs pd cd t) (o : Out F w w') (hF : ∀ k, foot A ps pd k → ¬ F k) : ArM w' A ps cs pd cd t :=
  ⟨(o.block A h.lt (hF A (Or.inl rfl))).trans h.head, h.slots.out o (fun k hk => hF k (Or.inr (Or.inl hk))), h.drops.out o (fun k hk => hF k (Or.inr (Or.inr hk))), h.n1, h.n2, h.n3⟩
theorem grown (h : ArM w A ps cs pd cd t) (g : Grown w w') : ArM w' A ps cs pd cd t := h.out (Out.of_grown g fun _ => False) (fun _ _ => id)
end ArM
end Go.Proofs.Ytkjnpgpgcikhgaa
