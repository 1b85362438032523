/-
  Memory: what calls that make blocks, and such as write into blocks of their own, leave of the rest; slices that came in and are not written. No condition but those told at each sentence.
-/
import Derived.Test.YthjcdloaclailaaRows
import Derived.WalkSpells
import Derived.WalkLawsBesides
import Derived.Deep.WholeRow
import Derived.Deep.OwnRows
import Derived.Carry
import Derived.OpenShut
namespace Go.Proofs.Ythjcdloaclailaa
open Go.RowKit Go.Deep

/-- New blocks are laid behind what was there, and draws made; what was there stands as it stood. (Of new blocks nothing is told: the library's own may be such as bytes that a string shares.) -/
def Grown (W w' : World) : Prop := W.keptBut w' (fun _ => False) ∧ (∀ a : {x : Addr // x.block < W.heap.size}, w'.frozen? a.1 = W.frozen? a.1) ∧ W.heap.size ≤ w'.heap.size
namespace Grown
theorem refl (W : World) : Grown W W := ⟨World.keptBut_refl _ _, fun _ => rfl, Nat.le_refl _⟩
theorem of_kit {W w' : World} (h : Go.RowKit.Grown W w') : Grown W w' := ⟨h.1, fun a => h.2.1 a.1, h.2.2⟩
theorem alloc {W w' : World} (h : Grown W w') (c : Array Value) (t : TypeId) : Grown W (w'.alloc (.cells c t)) :=
  ⟨World.keptBut_trans h.1 (World.keptBut_alloc _ _ _), fun a => (frozen?_alloc_cells _ _ _ a.1).trans (h.2.1 a), Nat.le_trans h.2.2 (by show w'.heap.size ≤ (w'.heap.push _).size; simp)⟩
theorem drew {W w' : World} (h : Grown W w') : Grown W w'.drew := h
theorem frame {W w' : World} (h : Grown W w') (may : MemPlace → Prop) : W.keptBut w' may := World.keptBut_mono (fun _ f => f.elim) h.1
end Grown
theorem grownTrans {a b c : World} (h : Grown a b) (k : Grown b c) : Grown a c :=
  ⟨World.keptBut_trans h.1 k.1, fun x => (k.2.1 ⟨x.1, Nat.lt_of_lt_of_le x.2 h.2.2⟩).trans (h.2.1 x), Nat.le_trans h.2.2 k.2.2⟩
theorem grownDrewN {a b : World} (h : Grown a b) (n : Nat) : Grown a (b.drewN n) := h

theorem setRow_alloc2 (w : World) (c c' : Array Value) (t : TypeId) (o : Obj) : ((w.alloc (.cells c t)).alloc o).setRow w.heap.size c' = (w.alloc (.cells c' t)).alloc o := by
  simp only [World.setRow, World.alloc]
  congr 1
  apply Array.ext_getElem?
  intro i
  rw [Array.getElem?_modify]
  by_cases h : w.heap.size = i
  · subst h
    simp [Array.getElem?_push]
  · simp [h, Array.getElem?_push]
    split
    · rfl
    · split
      · omega
      · rfl
theorem heap2_new (w : World) (A B : Obj) : ((w.alloc A).alloc B).heap[w.heap.size + 1]? = some B := heap_alloc2_new w A B
theorem heap2_old (w : World) (A B : Obj) : ((w.alloc A).alloc B).heap[w.heap.size]? = some A := heap_alloc2_old w A B

/-- Outside the n blocks from b on nothing that was there has turned. -/
structure Off (b n : Nat) (w w' : World) : Prop where
  os : w'.os = w.os
  output : w'.output = w.output
  froz : ∀ a : {x : Addr // x.block < w.heap.size}, w'.frozen? a.1 = w.frozen? a.1
  size : w.heap.size ≤ w'.heap.size
  block : ∀ k, k < w.heap.size → (k < b ∨ b + n ≤ k) → w'.heap[k]? = w.heap[k]?

theorem grown_block {W w' : World} (h : Grown W w') {k : Nat} (hk : k < W.heap.size) : w'.heap[k]? = W.heap[k]? := by
  have h3 := h.1.2.2 k hk
  revert h3
  cases e1 : W.heap[k]? with
  | none => cases e2 : w'.heap[k]? <;> simp
  | some o =>
    cases e2 : w'.heap[k]? with
    | none => cases o <;> simp
    | some o' =>
      cases o <;> cases o' <;> simp
      intro h1 h2 h3 h4
      subst h1 h2
      refine ⟨Array.ext_getElem? ?_, ?_, ?_⟩
      · intro i; exact h4 i
      all_goals rfl
theorem keptBut_blocks {W w' : World} (h1 : w'.os = W.os) (h2 : w'.output = W.output) (h : ∀ k, k < W.heap.size → w'.heap[k]? = W.heap[k]?) : W.keptBut w' (fun _ => False) := by
  refine ⟨h1, h2, fun i hi => ?_⟩
  rw [h i hi]
  split <;> simp_all
namespace Off
variable {b n : Nat} {w w' w'' W : World}
theorem refl (b n : Nat) (w : World) : Off b n w w := ⟨rfl, rfl, fun _ => rfl, Nat.le_refl _, fun _ _ _ => rfl⟩
theorem trans (h : Off b n w w') (k : Off b n w' w'') : Off b n w w'' :=
  ⟨k.os.trans h.os, k.output.trans h.output, fun a => (k.froz ⟨a.1, Nat.lt_of_lt_of_le a.2 h.size⟩).trans (h.froz a), Nat.le_trans h.size k.size, fun i hi hb => (k.block i (Nat.lt_of_lt_of_le hi h.size) hb).trans (h.block i hi hb)⟩
theorem drewN (h : Off b n w w') (m : Nat) : Off b n w (w'.drewN m) := ⟨h.os, h.output, h.froz, h.size, h.block⟩
theorem drew (h : Off b n w w') : Off b n w w'.drew := ⟨h.os, h.output, h.froz, h.size, h.block⟩
theorem of_grown (h : Grown w w') (b n : Nat) : Off b n w w' := ⟨h.1.1, h.1.2.1, h.2.1, h.2.2, fun _ hk _ => grown_block h hk⟩
theorem more (h : Off b n w w') (g : Grown w' w'') : Off b n w w'' := h.trans (of_grown g b n)
/-- Blocks that were not there at first count for nothing. -/
theorem grown (h : Off b n w w') (g : Grown W w) (hb : W.heap.size ≤ b) : Grown W w' :=
  ⟨keptBut_blocks (h.os.trans g.1.1) (h.output.trans g.1.2.1) (fun k hk => (h.block k (Nat.lt_of_lt_of_le hk g.2.2) (Or.inl (by omega))).trans (grown_block g hk)), fun a => (h.froz ⟨a.1, Nat.lt_of_lt_of_le a.2 g.2.2⟩).trans (g.2.1 a), Nat.le_trans g.2.2 h.size⟩
theorem setCell (h : Off b n w w') {a : Addr} (h1 : b ≤ a.block) (h2 : a.block < b + n) (v : Value) : Off b n w (w'.setCell a v) :=
  h.trans ⟨rfl, rfl, fun x => World.frozen?_setCell _ _ _ _, by rw [nblk_setCell]; exact Nat.le_refl _, fun k _ hb => blk_setCell_other _ _ _ _ (by omega)⟩
theorem alloc (h : Off b n w w') (c : Array Value) (t : TypeId) : Off b n w (w'.alloc (.cells c t)) := h.more ((Grown.refl _).alloc c t)
end Off

/-- A slice of m elements, all of a block. -/
def sl (b m : Nat) : Value := .slice (some ⟨b, 0, none⟩) m m

def ptr (b : Nat) : Value := .pointer (some ⟨b, 0, none⟩)

theorem grown_same {W w' : World} (h : Grown W w') {p : MemPlace} (hp : p.block < W.heap.size) : W.sameAt w' p := by
  cases p with
  | cell b o => exact World.cell?_of_block (w := W) (grown_block h hp)
  | map b => exact grown_block h hp
/-- An argument reads as it did. -/
theorem grown_trod {H : Type} {enc : TypeId × Value → H} {P : Program} {t : TypeId} (hl : laidOutB P = true) (hr : P.readableRec t = true) (hrow : t < P.types.size) {W W' : World} {v : Value} {d : DataW H} {ps : List MemPlace}
    (h : DataW.Trod enc P W 0 (fun _ => true) true t v d ps) (hb : Grown W W') (hlt : ∀ x ∈ ps, x.block < W.heap.size) :
    DataW.Trod enc P W' 0 (fun b => decide (b < W.heap.size)) true t v d ps :=
  WideElems.Trod_stays hl hr hrow h (fun x hx => grown_same hb (hlt x hx)) (fun x hx => by simpa using hlt x hx)
/-- A slice of numbers that came in: it has none, or they lie in a block that was there. -/
theorem keys_open {w : World} {a : Option Addr} {len cap : Nat} {zs : List Int}
    (h : (a = none ∧ len = 0 ∧ cap = 0 ∧ zs = []) ∨ ∃ x, a = some x ∧ len ≤ cap ∧ cap ≤ maxLen ∧ zs.length = cap ∧ (∀ i, i < zs.length → w.cell? (x.add i) = some (.int .i64 (zs.getD i 0))) ∧ ∀ n ∈ zs, (Lit.int .i64 n).wf = true) :
    len = 0 ∨ ∃ b off, a = some ⟨b, off, none⟩ ∧ b < w.heap.size ∧ ∀ i, i < len → w.cell? ⟨b, off + i, none⟩ = some (.int .i64 (zs.getD i 0)) := by
  rcases h with ⟨_, h, _, _⟩ | ⟨x, rfl, hl, _, hz, hc, _⟩
  · exact Or.inl h
  · by_cases h0 : len = 0
    · exact Or.inl h0
    · obtain ⟨b, off, rfl, hc'⟩ := ints_at hc (by omega)
      refine Or.inr ⟨b, off, rfl, ?_, fun i hi => hc' i (by omega)⟩
      have := hc' 0 (by omega)
      apply Decidable.byContradiction; intro hb
      rw [World.cell?, Array.getElem?_eq_none (by show w.heap.size ≤ b; omega)] at this
      cases this
theorem keys_cell {w w' : World} {b off k : Nat} {u : Value} (h : w.cell? ⟨b, off + k, none⟩ = some u) (hb : b < w.heap.size) (g : Grown w w') : w'.cell? ⟨b, off + k, none⟩ = some u :=
  (World.cell?_of_block (w := w) (grown_block g hb)).trans h

theorem quiet_at {P : Program} {f : FuncId} {args : Array Value} {w : World} {d n : Nat} {v : Value}
    (h : Calls P f args (w.drewN (d + n)) fun e w' => e = .returned v ∧ ∃ m, w' = (w.drewN (d + n)).drewN m) : Calls P f args (w.drewN (d + n)) fun e w'' => e = .returned v ∧ ∃ m, w'' = w.drewN (d + m) :=
  h.mono fun _ _ ⟨he, m, hm⟩ => ⟨he, n + m, by rw [hm, World.drewN_drewN, Nat.add_assoc]⟩
theorem quiet_here {P : Program} {f : FuncId} {args : Array Value} {w : World} {d n : Nat} {v : Value}
    (h : ∀ W, Calls P f args W fun e w' => e = .returned v ∧ w' = W) : Calls P f args (w.drewN (d + n)) fun e w'' => e = .returned v ∧ ∃ m, w'' = w.drewN (d + m) :=
  (h _).mono fun _ _ ⟨he, hw⟩ => ⟨he, n, hw⟩
theorem off_setRow {w : World} {g : Nat} {old cs : Array Value} {t : TypeId} (h : w.heap[g]? = some (.cells old t (0, 0))) : Off g 1 w (w.setRow g cs) := by
  refine ⟨rfl, rfl, fun ⟨a, _⟩ => ?_, by simp [World.setRow], fun k _ hb => setRow_other w g k cs (by omega)⟩
  show (w.setRow g cs).frozen? a = w.frozen? a
  by_cases e : a.block = g
  · have h2 := setRow_heap w g old cs t (0, 0) h
    simp only [World.frozen?, e, h, h2]
  · exact World.frozen?_of_block (setRow_other w g a.block cs e)

end Go.Proofs.Ythjcdloaclailaa
