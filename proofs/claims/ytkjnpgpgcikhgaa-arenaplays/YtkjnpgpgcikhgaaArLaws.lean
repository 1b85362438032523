/-
  An arena and a slice of numbers beside it, all in new memory: what each call leaves of both. What states are that are full. No condition but those told at each sentence.
-/
import Derived.Test.YtkjnpgpgcikhgaaArAbs
namespace Go.Proofs.Ytkjnpgpgcikhgaa
open Go.RowKit Go.Deep

/-- An arena, and a slice of numbers apart from it, both made since W; of what W held nothing has turned. -/
def Ari (W w : World) (A : Nat) (t : As) (p : Option Addr) (n c : Nat) (f : Nat → Value) : Prop :=
  ∃ F, Are w A F t ∧ Vec w 3 1 p n c f ∧ (∀ k, In p k → ¬ F k) ∧ Grown W w ∧ (∀ k, F k → W.heap.size ≤ k) ∧ (∀ k, In p k → W.heap.size ≤ k)
variable {W w w' : World} {A : Nat} {t t' : As} {p : Option Addr} {n c : Nat} {f : Nat → Value}
namespace Ari
theorem wf (h : Ari W w A t p n c f) : t.Wf := by obtain ⟨F, h, _⟩ := h; exact h.wf
theorem old (h : Ari W w A t p n c f) : Grown W w := by obtain ⟨F, _, _, _, h, _⟩ := h; exact h
theorem grown (h : Ari W w A t p n c f) (g : Grown w w') : Ari W w' A t p n c f := by
  obtain ⟨F, h1, h2, h3, h4, h5, h6⟩ := h
  exact ⟨F, h1.grown g, h2.grown g, h3, grownTrans h4 g, h5, h6⟩
theorem drewN (h : Ari W w A t p n c f) (d : Nat) : Ari W (w.drewN d) A t p n c f := h.grown (grownDrewN (Grown.refl _) d)
theorem vec (h : Ari W w A t p n c f) : Vec w 3 1 p n c f := by obtain ⟨F, _, h, _⟩ := h; exact h
theorem step (h : Ari W w A t p n c f) (hs : ∀ F, Are w A F t → ∃ F', Are w' A F' t' ∧ Step F F' w w') : Ari W w' A t' p n c f := by
  obtain ⟨F, h1, h2, h3, h4, h5, h6⟩ := h
  obtain ⟨F', h7, h8⟩ := hs F h1
  exact ⟨F', h7, h2.out h8.out h3, h8.apart (fun k hk => h2.lt hk) h3, (h8.keeps h4 h5).1, (h8.keeps h4 h5).2, h6⟩
/-- Another slice in the place of the one. -/
theorem vecs {p' : Option Addr} {n' c' : Nat} {f' : Nat → Value} (h : Ari W w A t p n c f) (hv : Vec w' 3 1 p' n' c' f') (o : Out (In p) w w') (hp : p' = p ∨ ∃ k, p' = some ⟨k, 0, none⟩ ∧ w.heap.size ≤ k) : Ari W w' A t p' n' c' f' := by
  obtain ⟨F, h1, h2, h3, h4, h5, h6⟩ := h
  refine ⟨F, h1.out o (fun k hk hi => h3 k hi hk), hv, fun k hk hf => ?_, o.grown h4 h6, h5, fun k hk => ?_⟩
  · rcases hp with rfl | ⟨k', rfl, hk'⟩
    · exact h3 k hk hf
    · have := hk.eq; have := h1.lt hf; omega
  · rcases hp with rfl | ⟨k', rfl, hk'⟩
    · exact h6 k hk
    · have := hk.eq; have := h4.2.2; omega
end Ari
theorem new_i (most : Int) (W w : World) (g : Grown W w) : Calls Try.prog 9 #[.int .i64 most] w fun e w' => ∃ A, e = .returned (ptr A) ∧ Ari W w' A (As.zero (mostI most)) none 0 0 (fun _ => .int .i64 0) := by
  refine (new_a most w).mono ?_
  rintro e w' ⟨A, F, rfl, h, g', b⟩
  exact ⟨A, rfl, F, h, Vec.nil _ _ _ _, fun k hk => absurd hk In.no, grownTrans g g', fun k hk => Nat.le_trans g.2.2 (b k hk), fun k hk => absurd hk In.no⟩
theorem most_i (h : Ari W w A t p n c f) : Calls Try.prog 21 #[ptr A] w fun e w' => e = .returned (.int .i64 (t.m : Int)) ∧ w' = w := by
  obtain ⟨F, h, _⟩ := h; exact most_a h
theorem len_i (h : Ari W w A t p n c f) : Calls Try.prog 19 #[ptr A] w fun e w' => e = .returned (.int .i64 (t.len : Int)) ∧ Ari W w' A t p n c f := by
  have h' := h
  obtain ⟨F, h, _⟩ := h
  refine (len_a h).mono ?_
  rintro e w' ⟨rfl, d, rfl⟩
  exact ⟨rfl, h'.drewN d⟩
theorem get_i (h : Ari W w A t p n c f) (id : Int) : Calls Try.prog 17 #[ptr A, .int .i64 id] w fun e w' => e = .returned (.tuple #[nodeV (t.nodeI id), .int .i64 (t.errI id)]) ∧ Ari W w' A t p n c f := by
  have h' := h
  obtain ⟨F, h, _⟩ := h
  refine (get_a h id).mono ?_
  rintro e w' ⟨rfl, g⟩
  exact ⟨rfl, h'.grown g⟩
theorem set_i (h : Ari W w A t p n c f) (id : Int) (v : Int × Int) : Calls Try.prog 15 #[ptr A, .int .i64 id, nodeV v] w fun e w' => e = .returned (.int .i64 (t.errI id)) ∧ Ari W w' A (t.setI id v) p n c f := by
  obtain ⟨F, h1, h2, h3, h4, h5, h6⟩ := h
  refine (set_a h1 id v).mono ?_
  rintro e w' ⟨rfl, F', h7, h8⟩
  exact ⟨rfl, F', h7, h2.out h8.out h3, h8.apart (fun k hk => h2.lt hk) h3, (h8.keeps h4 h5).1, (h8.keeps h4 h5).2, h6⟩
theorem drop_i (h : Ari W w A t p n c f) (id : Int) : Calls Try.prog 13 #[ptr A, .int .i64 id] w fun e w' => e = .returned (.int .i64 (t.errI id)) ∧ Ari W w' A (t.dropI id) p n c f := by
  obtain ⟨F, h1, h2, h3, h4, h5, h6⟩ := h
  refine (drop_a h1 id).mono ?_
  rintro e w' ⟨rfl, F', h7, h8⟩
  exact ⟨rfl, F', h7, h2.out h8.out h3, h8.apart (fun k hk => h2.lt hk) h3, (h8.keeps h4 h5).1, (h8.keeps h4 h5).2, h6⟩
theorem put_i (h : Ari W w A t p n c f) (v : Int × Int) : Calls Try.prog 11 #[ptr A, nodeV v] w fun e w' => e = .returned (.tuple #[.int .i64 t.giveI, .int .i64 t.putE]) ∧ Ari W w' A (t.putI v) p n c f := by
  obtain ⟨F, h1, h2, h3, h4, h5, h6⟩ := h
  refine (put_a h1 v).mono ?_
  rintro e w' ⟨rfl, F', h7, h8⟩
  exact ⟨rfl, F', h7, h2.out h8.out h3, h8.apart (fun k hk => h2.lt hk) h3, (h8.keeps h4 h5).1, (h8.keeps h4 h5).2, h6⟩

/-- How many an arena at that block holds, read off memory. -/
def lenW (A : Nat) (w : World) : Nat :=
  match w.cell? ⟨A, 1, none⟩, w.cell? ⟨A, 2, none⟩ with
  | some (.slice _ n _), some (.slice _ k _) => n - 1 - k
  | _, _ => 0
theorem Ari.lenW (h : Ari W w A t p n c f) : lenW A w = t.len := by
  obtain ⟨F, ⟨_, ps, cs, pd, cd, h, _⟩, _⟩ := h
  unfold Go.Proofs.Ytkjnpgpgcikhgaa.lenW
  rw [h.cell1, h.cell2]
  rfl

namespace As
variable {t : As}
theorem room_true (h : t.len < t.m) : t.room = true := by simp [room, h]
theorem room_false (h : ¬ t.len < t.m) : t.room = false := by simp [room]; omega
theorem Wf.full (h : t.Wf) (hl : t.len = t.m) : t.n = t.m + 1 ∧ t.d = [] ∧ ∀ i, 1 ≤ i → i ≤ t.m → ∃ v, t.s i = some v := by
  have h1 := h.top
  have h2 := h.few
  have h3 : t.n - 1 - t.d.length = t.m := hl
  have h0 := h.pos
  have hd : t.d = [] := List.eq_nil_of_length_eq_zero (by omega)
  have hn : t.n = t.m + 1 := by rw [hd] at h3; simp at h3; omega
  refine ⟨hn, hd, fun i hi hm => ?_⟩
  cases hs : t.s i with
  | some v => exact ⟨v, rfl⟩
  | none =>
    have := (h.drop i).2 ⟨hi, by omega, hs⟩
    rw [hd] at this
    cases this
theorem err_held {i : Nat} {v : Int × Int} (h : t.s i = some v) : t.errI i = 0 := by unfold errI; rw [under_nat, h]; rfl
theorem err_none {i : Nat} (h : t.s i = none) : t.errI i = 3 := by unfold errI; rw [under_nat, h]; rfl
theorem node_held {i : Nat} {v : Int × Int} (h : t.s i = some v) : t.nodeI i = v := by unfold nodeI; rw [under_nat, h]; rfl
theorem drop_held {i : Nat} {v : Int × Int} (h : t.s i = some v) : t.dropI i = t.drop i := by unfold dropI; rw [under_nat, h]; rfl
theorem set_held {i : Nat} {u v : Int × Int} (h : t.s i = some u) : t.setI i v = t.set i v := by unfold setI; rw [under_nat, h]; rfl
theorem put_room {v : Int × Int} (h : t.len < t.m) : t.putI v = t.put v ∧ t.giveI = t.give ∧ t.putE = 0 := by
  unfold putI giveI putE; rw [room_true h]; exact ⟨rfl, rfl, rfl⟩
theorem put_none {v : Int × Int} (h : ¬ t.len < t.m) : t.putI v = t ∧ t.giveI = 0 ∧ t.putE = 2 := by
  unfold putI giveI putE; rw [room_false h]; exact ⟨rfl, rfl, rfl⟩
end As

theorem dropC_suffix (pre d : List Nat) (x : Nat) : dropC (pre ++ x :: d) d.length = .int .i64 (x : Nat) := by
  unfold dropC
  rw [List.reverse_append, List.reverse_cons, List.append_assoc, List.getD_eq_getElem?_getD, List.getElem?_append_right (by simp)]
  simp
/-- Behind an append of one number. -/
theorem Ari.append {p' : Option Addr} {c' : Nat} {w2 : World} {x : Int} {cc : Array Value} {yy : TypeId} (h : Ari W w A t p n c f) (hv : Vec w2 3 1 p' (n + 1) c' (fun j => if j < n * 1 then f j else .int .i64 x)) (o : Out (In p) (w.alloc (.cells cc yy)) w2) (hp : p' = p ∨ p' = some ⟨(w.alloc (.cells cc yy)).heap.size, 0, none⟩) :
    Ari W w2 A t p' (n + 1) c' (fun j => if j < n then f j else .int .i64 x) := by
  refine (h.grown ((Grown.refl _).alloc cc yy)).vecs (hv.congr fun j _ => by rw [Nat.mul_one]) o ?_
  rcases hp with e | e
  · exact Or.inl e
  · exact Or.inr ⟨_, e, Nat.le_refl _⟩
theorem Ari.congr {g : Nat → Value} (h : Ari W w A t p n c f) (hg : ∀ j, j < n → f j = g j) : Ari W w A t p n c g := by
  obtain ⟨F, h1, h2, h3⟩ := h
  exact ⟨F, h1, h2.congr fun j hj => hg j (by omega), h3⟩
theorem Ari.at (h : Ari W w A t p n c f) (hn : 0 < n) : ∃ B, p = some ⟨B, 0, none⟩ ∧ B < w.heap.size ∧ (∀ j, j < n → w.cell? ⟨B, j, none⟩ = some (f j)) ∧ (∀ j, w.frozen? ⟨B, j, none⟩ = false) ∧ n ≤ c := by
  obtain ⟨B, h1, h2, h3, h4, h5⟩ := h.vec.opens hn
  exact ⟨B, h1, h2, fun j hj => h3 j (by omega), h4, h5⟩
theorem Ari.set {B i : Nat} {v : Value} (h : Ari W w A t (some ⟨B, 0, none⟩) n c f) : Ari W (w.setCell ⟨B, i, none⟩ v) A t (some ⟨B, 0, none⟩) n c (fun j => if j = i then v else f j) :=
  h.vecs (h.vec.set i v) ((Out.refl (In (some ⟨B, 0, none⟩)) w).setCell (a := ⟨B, i, none⟩) (In.self B) v) (Or.inl rfl)

/-- What ArenaApart keeps: i keys were put, g of them were dropped; the number v k (its opposite, once it was dropped) was given to the key k. -/
structure Kept (t : As) (key v : Nat → Int) (i g : Nat) : Prop where
  m : t.m = 1000
  len : t.len + g = i
  held_at : ∀ k, k < i → 0 < v k → t.under (v k) = some (key k, (k : Int))
  bd : ∀ k, k < i → -1000 ≤ v k ∧ v k ≤ 1000
namespace Kept
variable {key v : Nat → Int} {i g : Nat}
theorem start (key : Nat → Int) : Kept (As.zero 1000) key (fun _ => 0) 0 0 := ⟨rfl, rfl, fun k hk => by omega, fun k hk => by omega⟩
theorem room (h : Kept t key v i g) (hi : i < 200) : t.len < t.m := by have := h.len; have := h.m; omega
theorem fresh (h : Kept t key v i g) (hw : t.Wf) (hi : i < 200) {k : Nat} (hk : k < i) : v k ≠ (t.give : Int) := fun e => by
  have hg := hw.give_bd (h.room hi)
  have := h.held_at k hk (by omega)
  rw [e, As.under_nat, hg.2.2] at this
  cases this
theorem put (h : Kept t key v i g) (hw : t.Wf) (hi : i < 200) : Kept (t.put (key i, (i : Int))) key (fun k => if k < i then v k else (t.give : Int)) (i + 1) g := by
  have hr := h.room hi
  have hg := hw.give_bd hr
  refine ⟨h.m, ?_, fun k hk hp => ?_, fun k hk => ?_⟩
  · have := As.put_len (v := (key i, (i : Int))) hw
    have := h.len
    omega
  · by_cases e : k < i
    · simp only [if_pos e] at hp ⊢
      have h1 := h.held_at k e hp
      have hne := h.fresh hw hi e
      obtain ⟨j, hj, hs⟩ := As.under_some h1
      rw [hj, As.under_nat]
      show (if j = t.give then some (key i, (i : Int)) else t.s j) = _
      rw [if_neg (by omega)]; exact hs
    · obtain rfl : k = i := by omega
      simp only [if_neg (Nat.lt_irrefl k)]
      rw [As.under_nat]
      show (if t.give = t.give then some (key k, (k : Int)) else t.s t.give) = _
      rw [if_pos rfl]
  · have := h.m
    by_cases e : k < i
    · simp only [if_pos e]; exact h.bd k e
    · simp only [if_neg e]; omega
theorem drop (h : Kept t key v i g) (hw : t.Wf) {q : Nat} (hq : q < i) {j : Nat} (hj : v q = (j : Int)) {u : Int × Int} (hu : t.s j = some u) :
    Kept (t.drop j) key (fun k => if k = q then -(j : Int) else v k) i (g + 1) := by
  have hjb := hw.held hu
  refine ⟨h.m, ?_, fun k hk hp => ?_, fun k hk => ?_⟩
  · have := As.drop_len hw hu
    have := h.len
    omega
  · by_cases e : k = q
    · simp only [if_pos e] at hp; omega
    · simp only [if_neg e] at hp ⊢
      have h1 := h.held_at k hk hp
      obtain ⟨j', hj', hs⟩ := As.under_some h1
      rw [hj', As.under_nat]
      show (if j' = j then none else t.s j') = _
      by_cases ej : j' = j
      · subst ej
        have h2 := h.held_at q hq (by omega)
        rw [hj, As.under_nat] at h2
        rw [hs] at h2
        have : (k : Int) = (q : Int) := by simpa using congrArg (fun o : Option (Int × Int) => (o.getD (0, 0)).2) h2
        omega
      · rw [if_neg ej]; exact hs
  · have := h.bd q hq
    by_cases e : k = q
    · simp only [if_pos e]; omega
    · simp only [if_neg e]; exact h.bd k hk
theorem held (h : Kept t key v i g) {k : Nat} (hk : k < i) (hp : 0 < v k) : t.errI (v k) = 0 ∧ t.nodeI (v k) = (key k, (k : Int)) := by
  unfold As.errI As.nodeI; rw [h.held_at k hk hp]; exact ⟨rfl, rfl⟩
end Kept
theorem and1023 (x : Int) : 0 ≤ bits .and .i64 x 1023 ∧ bits .and .i64 x 1023 ≤ 1023 := by
  have g : bits .and .i64 x 1023 = IntKind.i64.wrap ((BitVec.ofInt 64 x &&& 1023#64).toNat : Int) := rfl
  have h : (BitVec.ofInt 64 x &&& 1023#64).toNat ≤ 1023 := by rw [BitVec.toNat_and]; exact Nat.and_le_right
  rw [g]
  obtain ⟨y, hy⟩ : ∃ y : Nat, y = (BitVec.ofInt 64 x &&& 1023#64).toNat := ⟨_, rfl⟩
  rw [← hy] at h ⊢
  simp [IntKind.wrap, IntKind.signed, IntKind.bits]; omega
end Go.Proofs.Ytkjnpgpgcikhgaa
