/-
  Arguments that came in: a struct of two numbers, or of n; a slice of arrays of numbers; a slice of bools. No condition but those told at each sentence.
-/
import Derived.Test.YthjcdloaclailaaGenMem
import Derived.Deep.Slices
import Derived.OpenShut
import Derived.ChangeSame
namespace Go.Proofs.Ythjcdloaclailaa
open Go.RowKit Go.Deep Go.ChangeShapes Go.WideShapes

/-- A slice of numbers: nil, or a row of them. -/
def IsInts (k : IntKind) (w : World) (a : Option Addr) (len cap : Nat) (zs : List Int) : Prop :=
  (a = none ∧ len = 0 ∧ cap = 0 ∧ zs = []) ∨ ∃ x, a = some x ∧ len ≤ cap ∧ cap ≤ maxLen ∧ zs.length = cap ∧ (∀ i, i < zs.length → w.cell? (x.add i) = some (.int k (zs.getD i 0))) ∧ ∀ n ∈ zs, (Lit.int k n).wf = true
/-- A slice of bools: nil, or a row of them. -/
def IsBools (w : World) (a : Option Addr) (len cap : Nat) (z : Nat → Bool) : Prop :=
  (a = none ∧ len = 0 ∧ cap = 0) ∨ ∃ x, a = some x ∧ len ≤ cap ∧ cap ≤ maxLen ∧ ∀ i, i < len → w.cell? (x.add i) = some (.bool (z i))
section
variable {H : Type} {enc : TypeId × Value → H} {P : Program} {w : World} {base : Nat} {spare : Nat → Bool} {held : Bool}

/-- A struct of two numbers. -/
theorem open_pair {r : Reach} {b0 : Nat} {t : TypeId} {f0 f1 : Field} {k0 k1 : IntKind} {v : Value} {d : DataW H} {ps : List MemPlace} (ht : P.underlying t = some (.struct #[f0, f1])) (hc : P.cellsOf t = 2)
    (t0 : P.underlying f0.type = some (.int k0)) (t1 : P.underlying f1.type = some (.int k1)) (c0 : P.cellsOf f0.type = 1) (c1 : P.cellsOf f1.type = 1) (o0 : f0.offset = 0) (o1 : f1.offset = 1)
    (hval : Value.okWide P w r b0 t v) (hd : DataW.Trod enc P w base spare held t v d ps) :
    ∃ x y, v = .agg #[.int k0 x, .int k1 y] ∧ (Lit.int k0 x).wf = true ∧ (Lit.int k1 y).wf = true := by
  obtain ⟨cs, rfl, hs⟩ := okWide_struct ht hval
  obtain ⟨fuel, hf⟩ := hd
  obtain ⟨y0, y1, n, _, _, h0, h1⟩ := trod_struct2 ht hf
  rw [hc] at hs
  obtain ⟨l⟩ := cs
  match l, hs with
  | [u0, u1], _ =>
    simp [Value.cells, o0, o1, c0, c1] at h0 h1
    obtain ⟨x, hx, _, wx⟩ := DataW.trod_int t0 h0
    obtain ⟨y, hy, _, wy⟩ := DataW.trod_int t1 h1
    simp at hx hy
    exact ⟨x, y, by rw [hx, hy], wx, wy⟩

/-- A struct of n numbers. -/
theorem open_nums {r : Reach} {b0 : Nat} {t : TypeId} {fs : Array Field} {k : IntKind} {n : Nat} {v : Value} {d : DataW H} {ps : List MemPlace} (ht : P.underlying t = some (.struct fs)) (hc : P.cellsOf t = n)
    (hf : ∀ j, j < n → ∃ f, fs[j]? = some f ∧ P.underlying f.type = some (.int k) ∧ P.cellsOf f.type = 1 ∧ f.offset = j)
    (hval : Value.okWide P w r b0 t v) (hd : DataW.Trod enc P w base spare held t v d ps) :
    ∃ z : Nat → Int, v = .agg ((List.range n).map fun j => .int k (z j)).toArray ∧ ∀ j, j < n → (Lit.int k (z j)).wf = true := by
  obtain ⟨cs, rfl, hs⟩ := okWide_struct ht hval
  obtain ⟨fuel, hfu⟩ := hd
  obtain ⟨xs, m, _, _, _, hxl, hg⟩ := DataW.trod_struct ht hfu
  rw [hc] at hs
  have each : ∀ j, j < n → ∃ y : Int, cs[j]? = some (.int k y) ∧ (Lit.int k y).wf = true := by
    intro j hj
    obtain ⟨f, h1, h2, h3, h4⟩ := hf j hj
    have g := hg j f h1
    have hlt : j < fs.size := by
      apply Decidable.byContradiction; intro hb
      rw [Array.getElem?_eq_none (by omega)] at h1; cases h1
    rw [h3, h4, List.getElem?_eq_getElem (by omega)] at g
    obtain ⟨y, hy, _, wy⟩ := DataW.trod_int h2 g
    refine ⟨y, ?_, wy⟩
    have e2 : (List.take 1 (List.drop j (Value.agg cs).cells.toList))[0]? = some (Value.int k y) := by rw [hy]; rfl
    simpa [Value.cells, List.getElem?_take, List.getElem?_drop] using e2
  obtain ⟨z, hz⟩ := choose_lt (α := Int) each
  refine ⟨z, ?_, fun j hj => (hz j hj).2⟩
  congr 1
  apply Array.ext_getElem?
  intro j
  by_cases hj : j < n
  · rw [(hz j hj).1]; simp [hj]
  · rw [Array.getElem?_eq_none (by omega)]; simp [hj]

/-- A slice of arrays of m numbers: nil, or a row of them. -/
def IsGrid (k : IntKind) (m : Nat) (w : World) (a : Option Addr) (len cap : Nat) (z : Nat → Nat → Int) : Prop :=
  (a = none ∧ len = 0 ∧ cap = 0) ∨ ∃ x, a = some x ∧ len ≤ cap ∧ cap ≤ maxLen ∧ ∀ i, i < len → ∀ j, j < m → w.cell? (x.add (i * m + j)) = some (.int k (z i j)) ∧ (Lit.int k (z i j)).wf = true
theorem open_grid {t e q : TypeId} {m : Nat} {k : IntKind} {a : Option Addr} {len cap : Nat} {d : DataW H} {ps : List MemPlace} (ht : P.underlying t = some (.slice e)) (he : P.underlying e = some (.array m q)) (hq : P.underlying q = some (.int k))
    (ce : P.cellsOf e = m) (cq : P.cellsOf q = 1) (hd : DataW.Trod enc P w base spare held t (.slice a len cap) d ps) : ∃ z, IsGrid k m w a len cap z := by
  obtain ⟨fuel, hf⟩ := hd
  rcases open_slice ht hf with ⟨h0, _⟩ | ⟨x, l, c, mm, n, D, Pl, h0, _, hl, hm, hmm, _, hx⟩
  · simp [Value.cells] at h0
    exact ⟨fun _ _ => 0, .inl h0⟩
  · simp [Value.cells] at h0
    obtain ⟨rfl, rfl, rfl⟩ := h0
    have each : ∀ i, i < len → ∃ f : Nat → Int, ∀ j, j < m → w.cell? (x.add (i * m + j)) = some (.int k (f j)) ∧ (Lit.int k (f j)).wf = true := by
      intro i hi
      obtain ⟨cs', h1, h2⟩ := hx i (by rw [hmm]; split <;> omega)
      rw [ce] at h1
      obtain ⟨_, hlen, hcell⟩ := World.cells?_some h1
      obtain ⟨xs, n', _, _, _, hxl, hg⟩ := DataW.trod_array he h2
      refine choose_lt (α := Int) (p := fun j y => w.cell? (x.add (i * m + j)) = some (.int k y) ∧ (Lit.int k y).wf = true) fun j hj => ?_
      have g := hg j hj
      rw [cq, Nat.mul_one, List.getElem?_eq_getElem (by omega)] at g
      obtain ⟨y, hy, _, wy⟩ := DataW.trod_int hq g
      have e1 := hcell j hj
      rw [Deep.add_add] at e1
      refine ⟨y, ?_, wy⟩
      rw [e1]
      have e2 : ((cs'.drop j).take 1)[0]? = some (.int k y) := by rw [hy]; rfl
      simpa [List.getElem?_take, List.getElem?_drop] using e2
    obtain ⟨z, hz⟩ := choose_lt (α := Nat → Int) each
    exact ⟨z, .inr ⟨x, rfl, hl, hm, hz⟩⟩
/-- (round 11) A slice of structs of n numbers: a grid likewise. -/
theorem open_structs {t e : TypeId} {fs : Array Field} {n : Nat} {k : IntKind} {a : Option Addr} {len cap : Nat} {d : DataW H} {ps : List MemPlace} (ht : P.underlying t = some (.slice e)) (he : P.underlying e = some (.struct fs)) (ce : P.cellsOf e = n)
    (hf : ∀ j, j < n → ∃ f, fs[j]? = some f ∧ P.underlying f.type = some (.int k) ∧ P.cellsOf f.type = 1 ∧ f.offset = j) (hd : DataW.Trod enc P w base spare held t (.slice a len cap) d ps) : ∃ z, IsGrid k n w a len cap z := by
  obtain ⟨fuel, hfu⟩ := hd
  rcases open_slice ht hfu with ⟨h0, _⟩ | ⟨x, l, c, mm, nn, D, Pl, h0, _, hl, hm, hmm, _, hx⟩
  · simp [Value.cells] at h0
    exact ⟨fun _ _ => 0, .inl h0⟩
  · simp [Value.cells] at h0
    obtain ⟨rfl, rfl, rfl⟩ := h0
    have each : ∀ i, i < len → ∃ f : Nat → Int, ∀ j, j < n → w.cell? (x.add (i * n + j)) = some (.int k (f j)) ∧ (Lit.int k (f j)).wf = true := by
      intro i hi
      obtain ⟨cs', h1, h2⟩ := hx i (by rw [hmm]; split <;> omega)
      rw [ce] at h1
      obtain ⟨_, hlen, hcell⟩ := World.cells?_some h1
      obtain ⟨xs, m, _, _, _, hxl, hg⟩ := DataW.trod_struct he h2
      refine choose_lt (α := Int) (p := fun j y => w.cell? (x.add (i * n + j)) = some (.int k y) ∧ (Lit.int k y).wf = true) fun j hj => ?_
      obtain ⟨f, g1, g2, g3, g4⟩ := hf j hj
      have g := hg j f g1
      have hlt : j < fs.size := by
        apply Decidable.byContradiction; intro hb
        rw [Array.getElem?_eq_none (by omega)] at g1; cases g1
      rw [g3, g4, List.getElem?_eq_getElem (by omega)] at g
      obtain ⟨y, hy, _, wy⟩ := DataW.trod_int g2 g
      have e1 := hcell j hj
      rw [Deep.add_add] at e1
      refine ⟨y, ?_, wy⟩
      rw [e1]
      have e2 : ((cs'.drop j).take 1)[0]? = some (.int k y) := by rw [hy]; rfl
      simpa [List.getElem?_take, List.getElem?_drop] using e2
    obtain ⟨z, hz⟩ := choose_lt (α := Nat → Int) each
    exact ⟨z, .inr ⟨x, rfl, hl, hm, hz⟩⟩
/-- Its cells, if it has some. -/
theorem grid_open {k : IntKind} {m : Nat} {a : Option Addr} {len cap : Nat} {z : Nat → Nat → Int} (hm : 0 < m) (h : IsGrid k m w a len cap z) :
    len = 0 ∨ ∃ b off, a = some ⟨b, off, none⟩ ∧ b < w.heap.size ∧ ∀ i, i < len → ∀ j, j < m → w.cell? ⟨b, off + (i * m + j), none⟩ = some (.int k (z i j)) := by
  rcases h with ⟨_, h, _⟩ | ⟨x, rfl, _, _, hc⟩
  · exact Or.inl h
  · by_cases h0 : len = 0
    · exact Or.inl h0
    · obtain ⟨b, off, sp⟩ := x
      have h1 := (hc 0 (by omega) 0 hm).1
      cases sp with
      | some s => simp [Addr.add, World.cell?] at h1; split at h1 <;> cases h1
      | none =>
        refine Or.inr ⟨b, off, rfl, ?_, fun i hi j hj => ?_⟩
        · apply Decidable.byContradiction; intro hb
          have e : (⟨b, off, none⟩ : Addr).add (0 * m + 0) = ⟨b, off + (0 * m + 0), none⟩ := by unfold Addr.add; split <;> simp_all
          rw [e, World.cell?, Array.getElem?_eq_none (by show w.heap.size ≤ b; omega)] at h1
          cases h1
        · have e : (⟨b, off, none⟩ : Addr).add (i * m + j) = ⟨b, off + (i * m + j), none⟩ := by unfold Addr.add; split <;> simp_all
          rw [← e]; exact (hc i hi j hj).1
theorem open_bools {t e : TypeId} {a : Option Addr} {len cap : Nat} {d : DataW H} {ps : List MemPlace} (ht : P.underlying t = some (.slice e)) (he : P.underlying e = some .bool)
    (ce : P.cellsOf e = 1) (hd : DataW.Trod enc P w base spare held t (.slice a len cap) d ps) : ∃ z, IsBools w a len cap z := by
  obtain ⟨fuel, hf⟩ := hd
  rcases open_slice1 ht ce hf with ⟨h0, _⟩ | ⟨x, l, c, mm, n, V, D, Pl, h0, _, hl, hm, hmm, _, hx⟩
  · simp [Value.cells] at h0
    exact ⟨fun _ => false, .inl h0⟩
  · simp [Value.cells] at h0
    obtain ⟨rfl, rfl, rfl⟩ := h0
    obtain ⟨z, hz⟩ := choose_lt (α := Bool) (n := len) (p := fun i y => w.cell? (x.add i) = some (.bool y)) fun i hi => by
      obtain ⟨h1, h2⟩ := hx i (by rw [hmm]; split <;> omega)
      obtain ⟨y, hy, _⟩ := DataW.trod_bool he h2
      simp at hy
      exact ⟨y, by rw [h1, hy]⟩
    exact ⟨z, .inr ⟨x, rfl, hl, hm, hz⟩⟩
/-- Its cells, if it has some. -/
theorem bools_open {a : Option Addr} {len cap : Nat} {z : Nat → Bool} (h : IsBools w a len cap z) :
    len = 0 ∨ ∃ b off, a = some ⟨b, off, none⟩ ∧ b < w.heap.size ∧ ∀ i, i < len → w.cell? ⟨b, off + i, none⟩ = some (.bool (z i)) := by
  rcases h with ⟨_, h, _⟩ | ⟨x, rfl, _, _, hc⟩
  · exact Or.inl h
  · by_cases h0 : len = 0
    · exact Or.inl h0
    · obtain ⟨b, off, sp⟩ := x
      have h1 := hc 0 (by omega)
      cases sp with
      | some s => simp [Addr.add, World.cell?] at h1; split at h1 <;> cases h1
      | none =>
        refine Or.inr ⟨b, off, rfl, ?_, fun i hi => ?_⟩
        · apply Decidable.byContradiction; intro hb
          have e : (⟨b, off, none⟩ : Addr).add 0 = ⟨b, off + 0, none⟩ := by unfold Addr.add; split <;> simp_all
          rw [e, World.cell?, Array.getElem?_eq_none (by show w.heap.size ≤ b; omega)] at h1
          cases h1
        · have e : (⟨b, off, none⟩ : Addr).add i = ⟨b, off + i, none⟩ := by unfold Addr.add; split <;> simp_all
          rw [← e]; exact hc i hi
end
end Go.Proofs.Ythjcdloaclailaa
