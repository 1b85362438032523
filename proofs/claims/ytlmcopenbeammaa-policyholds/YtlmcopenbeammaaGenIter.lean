/-
  Loops over an iterator: what an iterator does with whatever loop's rounds, its list of values known ahead; the loop over one. An iterator may itself go over another. No condition but those told at each sentence.
-/
import Derived.Test.YtlmcopenbeammaaGenVec
import Derived.RangeFuncNested
import Derived.RangeFuncBound
import Derived.RangeFuncCalls
import Derived.RangeFuncLeaves
import Derived.Shelf.Abstract
import Derived.Shelf.RegionOpen
import Derived.WalkKit
import Derived.OwnWalkIn
import Derived.TacticsInMore
import Derived.LoopNIn
import Derived.LoopIn
namespace Go.Proofs.Ytlmcopenbeammaa
open Go.RowKit Go.Deep

/-- New blocks, and of the old ones nothing has turned but such as are no cells, from block b on. -/
structure Turn (b : Nat) (w w' : World) : Prop where
  os : w'.os = w.os
  output : w'.output = w.output
  froz : ∀ a, w'.frozen? a = w.frozen? a
  size : w.heap.size ≤ w'.heap.size
  block : ∀ k, k < w.heap.size → w'.heap[k]? = w.heap[k]? ∨ (b ≤ k ∧ ∃ o : Obj, w.heap[k]? = some o ∧ o.isCells = false)

theorem froz_alloc (w : World) (o : Obj) (ho : o.isCells = false) (a : Addr) : (w.alloc o).frozen? a = w.frozen? a := by
  by_cases h : a.block < w.heap.size
  · exact World.frozen?_of_block (Below.heap_alloc w o _ h)
  · have e : w.heap[a.block]? = none := Array.getElem?_eq_none (by omega)
    by_cases h' : a.block = w.heap.size
    · have e' : (w.alloc o).heap[a.block]? = some o := by rw [h']; exact World.alloc_heap_new w o
      simp only [World.frozen?, e, e']
      cases o <;> first | (simp [Obj.isCells] at ho; done) | rfl
    · have e' : (w.alloc o).heap[a.block]? = none := Array.getElem?_eq_none (by simp; omega)
      simp only [World.frozen?, e, e']
theorem froz_put (w : World) (l : Nat) (o o' : Obj) (h : w.heap[l]? = some o) (ho : o.isCells = false) (ho' : o'.isCells = false) (a : Addr) : (w.putObj l o').frozen? a = w.frozen? a := by
  by_cases e : a.block = l
  · subst e
    have h' : (w.putObj a.block o').heap[a.block]? = some o' := World.putObj_heap_same (Array.getElem?_eq_some_iff.1 h).1
    simp only [World.frozen?, h, h']
    cases o <;> first | (simp [Obj.isCells] at ho; done) | (cases o' <;> first | (simp [Obj.isCells] at ho'; done) | rfl)
  · exact World.frozen?_of_block (World.putObj_heap_other e)
namespace Turn
variable {b b' : Nat} {w w' w'' : World}
theorem refl (b : Nat) (w : World) : Turn b w w := ⟨rfl, rfl, fun _ => rfl, Nat.le_refl _, fun _ _ => Or.inl rfl⟩
theorem trans (h : Turn b w w') (k : Turn b w' w'') : Turn b w w'' :=
  ⟨k.os.trans h.os, k.output.trans h.output, fun a => (k.froz a).trans (h.froz a), Nat.le_trans h.size k.size, fun i hi => by
    rcases h.block i hi with e | e
    · rcases k.block i (Nat.lt_of_lt_of_le hi h.size) with e' | ⟨e1, o, e2, e3⟩
      · exact Or.inl (e'.trans e)
      · exact Or.inr ⟨e1, o, e ▸ e2, e3⟩
    · exact Or.inr e⟩
theorem wide (h : Turn b w w') (hb : b' ≤ b) : Turn b' w w' := ⟨h.os, h.output, h.froz, h.size, fun k hk => (h.block k hk).imp id fun ⟨h1, h2⟩ => ⟨by omega, h2⟩⟩
theorem of_grown (h : Grown w w') (b : Nat) : Turn b w w' := ⟨h.1.1, h.1.2.1, h.2.1, h.2.2, fun _ hk => Or.inl (grown_block h hk)⟩
theorem alloc (b : Nat) (w : World) (o : Obj) (ho : o.isCells = false) : Turn b w (w.alloc o) := ⟨rfl, rfl, froz_alloc w o ho, by simp, fun k hk => Or.inl (Below.heap_alloc w o k hk)⟩
theorem putObj {l : Nat} {o : Obj} (o' : Obj) (h : w.heap[l]? = some o) (ho : o.isCells = false) (ho' : o'.isCells = false) (hb : b ≤ l) : Turn b w (w.putObj l o') :=
  ⟨rfl, rfl, froz_put w l o o' h ho ho', by simp, fun k _ => by
    by_cases e : k = l
    · subst e; exact Or.inr ⟨hb, o, h, ho⟩
    · exact Or.inl (World.putObj_heap_other e)⟩
/-- What lies below b, or holds cells, lies as it lay. -/
theorem below (h : Turn b w w') {k : Nat} {o : Obj} (hk : w.heap[k]? = some o) (hb : k < b) : w'.heap[k]? = some o := by
  rcases h.block k (Array.getElem?_eq_some_iff.1 hk).1 with e | ⟨e, _⟩
  · exact e.trans hk
  · omega
theorem cells (h : Turn b w w') {k : Nat} {o : Obj} (hk : w.heap[k]? = some o) (ho : o.isCells = true) : w'.heap[k]? = some o := by
  rcases h.block k (Array.getElem?_eq_some_iff.1 hk).1 with e | ⟨_, o', h1, h2⟩
  · exact e.trans hk
  · rw [hk] at h1; cases h1; rw [ho] at h2; cases h2
theorem cell (h : Turn b w w') {a : Addr} {v : Value} (hc : w.cell? a = some v) : w'.cell? a = some v := by
  obtain ⟨o, ho, h1⟩ := cells_of_cell hc
  exact (World.cell?_of_block ((h.cells ho h1).trans ho.symm)).trans hc
/-- A world that was there ahead of block b has only grown. -/
theorem grown {W : World} (g : Grown W w) (h : Turn b w w') (hb : W.heap.size ≤ b) : Grown W w' :=
  ⟨keptBut_blocks (h.os.trans g.1.1) (h.output.trans g.1.2.1) (fun k hk => by
    rcases h.block k (Nat.lt_of_lt_of_le hk g.2.2) with e | ⟨e, _⟩
    · exact e.trans (grown_block g hk)
    · omega), fun a => (h.froz a).trans (g.2.1 a), Nat.le_trans g.2.2 h.size⟩
/-- The other way round: what was there when the turned world was made. -/
theorem vec {e : TypeId} {s : Nat} {p : Option Addr} {n c : Nat} {f : Nat → Value} (h : Turn b w w') (hv : Vec w e s p n c f) : Vec w' e s p n c f := by
  rcases hv with hv | ⟨B, cur, h1, h2, h3⟩
  · exact Or.inl hv
  · exact Or.inr ⟨B, cur, h1, h.cells h2 rfl, h3⟩
end Turn

/-- The blocks of K lie as they lay. -/
structure Keep (K : Nat → Prop) (w w' : World) : Prop where
  size : w.heap.size ≤ w'.heap.size
  block : ∀ k, K k → w'.heap[k]? = w.heap[k]?
namespace Keep
variable {K : Nat → Prop} {w w' w'' : World}
theorem refl (K : Nat → Prop) (w : World) : Keep K w w := ⟨Nat.le_refl _, fun _ _ => rfl⟩
theorem trans (h : Keep K w w') (k : Keep K w' w'') : Keep K w w'' := ⟨Nat.le_trans h.size k.size, fun i hi => (k.block i hi).trans (h.block i hi)⟩
theorem of_grown (g : Grown w w') (hK : ∀ k, K k → k < w.heap.size) : Keep K w w' := ⟨g.2.2, fun k hk => grown_block g (hK k hk)⟩
theorem of_turn {b : Nat} (h : Turn b w w') (hK : ∀ k, K k → k < b ∧ k < w.heap.size) : Keep K w w' := ⟨h.size, fun k hk => by
  rcases h.block k (hK k hk).2 with e | ⟨e, _⟩
  · exact e
  · have := (hK k hk).1; omega⟩
theorem of_out {F : Nat → Prop} (h : Out F w w') (hK : ∀ k, K k → k < w.heap.size) (hF : ∀ k, K k → ¬ F k) : Keep K w w' := ⟨h.size, fun k hk => h.block k (hK k hk) (hF k hk)⟩
theorem less {K' : Nat → Prop} (h : Keep K w w') (hK : ∀ k, K' k → K k) : Keep K' w w' := ⟨h.size, fun k hk => h.block k (hK k hk)⟩
end Keep

theorem yield_any {m : Nat} (m' : Nat) {P : Program} {l : Nat} {args : Array Value} {W : World} {R : Ending → World → Prop} (h : YieldAt Fence.wide m P l args W R) : YieldAt Fence.wide m' P l args W R := by
  obtain ⟨fn, tmps, assign, body, hy, hR⟩ := h
  exact ⟨fn, tmps, assign, body, hy, hR.1, fun c cs _ => hR.2 c cs (room_wide _)⟩

/-- append to a slice that has a block of its own, within a fence. -/
theorem wpListIn_append_vec {F : Fence} {n₀ : Nat} {P : Program} {w : World} {ops : Array Oper} {rest : List Oper} {o : Oper} {a : Act} {Q : Exit → Act → World → Prop}
    (hg : o.guard = none) (so xo : Operand) (t : TypeId) (hop : o.op = Op.call { callee := Callee.builtin Builtin.append, args := #[so, xo], argTypes := #[t, t] })
    {e : TypeId} {z : Value} {s bytes : Nat} (ht : P.underlying t = some (.slice e)) (hinfo : (P.info? e).map (fun i => (i.zero, i.size, i.bytes)) = some (some z, s, bytes)) (hzs : z.cells.size = s)
    {p : Option Addr} {n c : Nat} {f : Nat → Value} (hs : a.eval so = .slice p n c) (h : Vec w e s p n c f)
    {ad : Addr} {m cx : Nat} {g : Nat → Value} (hx : a.eval xo = .slice (some ad) m cx) (hm : 0 < m) (hc : ∀ j, j < m * s → w.cell? (ad.add j) = some (g j)) (h1 : ∀ j, j < m * s → (g j).oneCell' = true) (hb : (n + m) * bytes ≤ 140737488355328) (h63 : n + m ≤ 9223372036854775807)
    (hK : ∀ p' c' w', Vec w' e s p' (n + m) c' (fun j => if j < n * s then f j else g (j - n * s)) → Out (In p) w w' → (p' = p ∨ p' = some ⟨w.heap.size, 0, none⟩) → wpListIn F n₀ P ops Q rest (a.put o.dst (.slice p' (n + m) c')) w') :
    wpListIn F n₀ P ops Q (o :: rest) a w := by
  refine wpListIn_plain hg fun K hK' => ?_
  obtain ⟨p', c', w', hr, h2, h3, h4⟩ := run_append_vec (P := P) o.type ht hinfo hzs h (cx := cx) hm hc h1 hb h63
  unfold Oper.wpIn
  refine ⟨?_, ?_⟩
  · simp [Oper.about, hop, resolve, Target.leads, Sem.run_pure]
  · rw [Oper.semAt_eq _ _ _ (by rw [hop]; intro c hc'; cases hc')]
    simp [execOp, hop, resolve, invoke, builtin, hs, hx, hr, Result.andThen]
    exact hK' _ _ (hK p' c' w' h2 h3 h4)

/-- The function value (g, lb) gives just the values xs, one behind the other, until a round says that it wants no more, as long as the blocks of K lie as they lay in w. G: the blocks that rounds may turn; they make more. -/
def Iter (P : Program) (g : Nat) (lb : Array Value) (K : Nat → Prop) (xs : List (Array Value)) (w : World) : Prop :=
  ∀ (n l : Nat) (J Jx : Nat → (Nat → Prop) → World → Prop) (W : World) (G : Nat → Prop), Keep K w W → (∀ k, K k → k < W.heap.size ∧ ¬ G k) →
    (∀ i G A B, J i G A → Turn W.heap.size A B → J i G B) → (∀ i G A B, Jx i G A → Turn W.heap.size A B → Jx i G B) → (∀ i G A, J i G A → ∀ k, G k → k < A.heap.size) →
    (∀ m i x G1 W1, xs[i]? = some x → J i G1 W1 → W.heap.size ≤ W1.heap.size → YieldAt Fence.wide m P l x W1 fun e W' =>
      (e = .returned (.bool true) ∧ ∃ G2, J (i + 1) G2 W' ∧ Step G1 G2 W1 W') ∨ (e = .returned (.bool false) ∧ ∃ G2, Jx (i + 1) G2 W' ∧ Step G1 G2 W1 W')) →
    J 0 G W →
    CallsIn Fence.wide n P g (#[.func (.yield l) #[] #[]] ++ lb) W fun e W' => (∃ v, e = .returned v) ∧ ((∃ G', J xs.length G' W') ∨ ∃ i G', i < xs.length ∧ Jx (i + 1) G' W')

/-- How a round's body may be left. -/
def itPost (I : Nat → (Nat → Prop) → World → Prop) (Ix : Code → Nat → (Nat → Prop) → World → Prop) (i : Nat) (G : Nat → Prop) (W : World) : Exit → Act → World → Prop
  | .normal, _, W' => ∃ G', I (i + 1) G' W' ∧ Step G G' W W'
  | .ret, _, W' => ∃ G', Ix .ret (i + 1) G' W' ∧ Step G G' W W'
  | .exit id, _, W' => ∃ G', Ix (.exit id) (i + 1) G' W' ∧ Step G G' W W'
  | .goto t, _, W' => ∃ G', Ix (.goto t) (i + 1) G' W' ∧ Step G G' W W'
  | .panic _, _, _ => False
  | .outgrown, _, _ => False

/-- A loop over an iterator, in a function's own frame. -/
theorem wpIn_over {n : Nat} {P : Program} {g : Operand} {ps : Array Tmp} {assign body : Code} {Q : Exit → Act → World → Prop} {a : Act} {w : World} {gf : Nat} {lb : Array Value} (hg : a.eval g = .func (.func gf) #[] lb) (eg : ∀ args w, (callFunc gf args).run P w = .ok (.enter gf args) w)
    {K : Nat → Prop} {xs : List (Array Value)} {w0 : World} (hit : Iter P gf lb K xs w0) (hk0 : Keep K w0 w) (hps : ∀ x ∈ xs, x.size = ps.size) {G : Nat → Prop} (hK : ∀ k, K k → k < w.heap.size ∧ ¬ G k)
    (I : Nat → (Nat → Prop) → World → Prop) (Ix : Code → Nat → (Nat → Prop) → World → Prop) (hI : ∀ i G A B, I i G A → Turn w.heap.size A B → I i G B) (hIx : ∀ c i G A B, Ix c i G A → Turn w.heap.size A B → Ix c i G B) (hIl : ∀ i G A, I i G A → ∀ k, G k → k < A.heap.size) (h0 : I 0 G w)
    (hround : ∀ (l i : Nat) (x : Array Value) (G : Nat → Prop) (W : World), xs[i]? = some x → I i G W → w.heap.size ≤ W.heap.size →
      assign.wpIn (Fence.wide.inRound l) (n - 1 - 1) P (Exit.then (fun a₁ W₁ => Grown W W₁ ∧ ∀ W₂, Turn w.heap.size W₁ W₂ → w.heap.size ≤ W₂.heap.size → body.wpIn (Fence.wide.inRound l) (n - 1 - 1) P (itPost I Ix i G W₂) a₁ W₂) (fun _ _ _ => False))
        { tmps := (ps.zip x).foldl (fun t (p, v) => t.setIfInBounds p v) a.tmps, defers := [] } W)
    (hdone : ∀ (D : Nat) (G' : Nat → Prop) (W : World), w.heap.size ≤ D → I xs.length G' W → W.heap[D]? = some (.deferred (some [])) → Q .normal { a with defers := { target := .collected D, args := #[] } :: a.defers } W)
    (hstop : ∀ (D : Nat) (c : Code) (i : Nat) (G' : Nat → Prop) (W : World), w.heap.size ≤ D → i < xs.length → Ix c (i + 1) G' W → W.heap[D]? = some (.deferred (some [])) → c.wpIn Fence.wide n P Q { a with defers := { target := .collected D, args := #[] } :: a.defers } W) :
    (Code.rangeFunc g ps assign body).wpIn Fence.wide n P Q a w := by
  refine wpIn_rangeFunc fun fn hfn => ?_
  obtain ⟨rc, hrc⟩ : ∃ rc : LoopState → Option Code → Loop, rc = fun st pe => { state := st, pending := pe, fn, tmps := a.tmps, params := ps, assign, body, defers := w.heap.size } := ⟨_, rfl⟩
  obtain ⟨W1, hW1⟩ : ∃ W1, (w.alloc (.deferred (some []))).alloc (.loop (rc .ready none)) = W1 := ⟨_, rfl⟩
  have hsz : W1.heap.size = w.heap.size + 2 := by rw [← hW1]; simp
  have t1 : Turn w.heap.size w W1 := by rw [← hW1]; exact (Turn.alloc _ _ _ rfl).trans (Turn.alloc _ _ _ rfl)
  have hL1 : W1.heap[w.heap.size + 1]? = some (.loop (rc .ready none)) := by rw [← hW1]; have := World.alloc_heap_new (w.alloc (.deferred (some []))) (.loop (rc .ready none)); rwa [World.size_alloc] at this
  have hD1 : W1.heap[w.heap.size]? = some (.deferred (some [])) := by rw [← hW1]; exact (Below.heap_alloc _ _ _ (by simp)).trans (World.alloc_heap_new w _)
  have k1 : Keep K w W1 := Keep.of_turn t1 fun k hk => ⟨(hK k hk).1, (hK k hk).1⟩
  refine ⟨w.heap.size + 1, [{ target := .collected w.heap.size, args := #[] }], W1, { target := .fn (.func gf) lb, args := #[.func (.yield (w.heap.size + 1)) #[] #[]] }, W1, gf, #[.func (.yield (w.heap.size + 1)) #[] #[]] ++ lb, W1, ?_, ?_, ?_, ?_, fun h => (by cases h), ?_⟩
  · rw [← hW1, hrc]; exact run_enterLoop_outer _ _ _ _ _
  · simp only [resolve, hg]; simp [go_sem]
  · intro f' hf'; trivial
  · simp [invoke, go_sem, eg]
  -- the caller's blocks, and the loop's record beside them
  refine (hit (n - 1) (w.heap.size + 1)
    (fun i G' W => ∃ G0, I i G0 W ∧ G' = (fun k => G0 k ∨ k = w.heap.size + 1) ∧ ¬ G0 w.heap.size ∧ ¬ G0 (w.heap.size + 1) ∧ W.heap[w.heap.size + 1]? = some (.loop (rc .ready none)) ∧ W.heap[w.heap.size]? = some (.deferred (some [])))
    (fun i G' W => ∃ c G0, Ix c i G0 W ∧ W.heap[w.heap.size + 1]? = some (.loop (rc .done (some c))) ∧ W.heap[w.heap.size]? = some (.deferred (some [])))
    W1 (fun k => G k ∨ k = w.heap.size + 1) (hk0.trans k1) ?_ ?_ ?_ ?_ ?_ ⟨G, hI _ _ _ _ h0 t1, rfl, ?_, ?_, hL1, hD1⟩).mono ?_
  · intro k hk
    have := hK k hk
    exact ⟨by omega, fun h => by rcases h with h | h; exact this.2 h; omega⟩
  · rintro i G' A B ⟨G0, h1, h2, h3, h4, h5, h6⟩ t
    exact ⟨G0, hI _ _ _ _ h1 (t.wide (by omega)), h2, h3, h4, t.below h5 (by omega), t.below h6 (by omega)⟩
  · rintro i G' A B ⟨c, G0, h1, h5, h6⟩ t
    exact ⟨c, G0, hIx _ _ _ _ _ h1 (t.wide (by omega)), t.below h5 (by omega), t.below h6 (by omega)⟩
  · rintro i G' A ⟨G0, h1, rfl, h3, h4, h5, h6⟩ k (hk | rfl)
    · exact hIl _ _ _ h1 k hk
    · exact (Array.getElem?_eq_some_iff.1 h5).1
  · rintro m i x G' W hx ⟨G0, hi, rfl, hd0, hl0, hl, hd⟩ hsW
    refine yield_any (m := n - 1 - 1) m ?_
    have hy := run_yield (P := P) (args := x) hl (by rw [hrc]; exact hps x (List.mem_of_getElem? hx))
    rw [hrc] at hy
    refine ⟨fn, _, assign, body, hy, roundIn_of_wpIn hfn (wpIn_mono (hround (w.heap.size + 1) i x G0 W hx hi (by omega)) ?_)⟩
    rintro e a₁ Wa hp
    cases e with
    | normal =>
      obtain ⟨ga, hb⟩ := hp
      have hl2 := (grown_block ga (Array.getElem?_eq_some_iff.1 hl).1).trans hl
      have hd2 := (grown_block ga (Array.getElem?_eq_some_iff.1 hd).1).trans hd
      have hsa := ga.2.2
      have tb : Turn w.heap.size Wa (Wa.putObj (w.heap.size + 1) (.loop { rc .ready none with state := .busy })) := Turn.putObj _ hl2 rfl rfl (by omega)
      have ob : Out (fun k => G0 k ∨ k = w.heap.size + 1) W (Wa.putObj (w.heap.size + 1) (.loop { rc .ready none with state := .busy })) :=
        (Out.of_grown ga (fun k => G0 k ∨ k = w.heap.size + 1)).trans (G := fun k => k = w.heap.size + 1) ⟨rfl, rfl, froz_put _ _ _ _ hl2 rfl rfl, by simp, fun k _ hn => World.putObj_heap_other hn⟩ (fun k hk => Or.inl (Or.inr hk))
      refine ⟨_, run_beginRound hl2 (by rw [hrc]), wpIn_mono (hb _ tb (by simp; omega)) ?_⟩
      have hl3 : (Wa.putObj (w.heap.size + 1) (.loop { rc .ready none with state := .busy })).heap[w.heap.size + 1]? = some (.loop { rc .ready none with state := .busy }) := World.putObj_heap_same (Array.getElem?_eq_some_iff.1 hl2).1
      have hd3 : (Wa.putObj (w.heap.size + 1) (.loop { rc .ready none with state := .busy })).heap[w.heap.size]? = some (.deferred (some [])) := (World.putObj_heap_other (by omega)).trans hd2
      have fin : ∀ (jump : Option Code) (G2 : Nat → Prop) (W3 : World), Step G0 G2 (Wa.putObj (w.heap.size + 1) (.loop { rc .ready none with state := .busy })) W3 →
          ∃ W4, (Instr.endRound (w.heap.size + 1) jump).run P W3 = .ok (.bool jump.isNone) W4 ∧ Turn w.heap.size W3 W4 ∧ W4.heap[w.heap.size + 1]? = some (.loop (rc (if jump.isNone then .ready else .done) jump)) ∧ W4.heap[w.heap.size]? = some (.deferred (some [])) ∧ ¬ G2 w.heap.size ∧ ¬ G2 (w.heap.size + 1) ∧
            Step (fun k => G0 k ∨ k = w.heap.size + 1) (fun k => G2 k ∨ k = w.heap.size + 1) W W4 := fun jump G2 W3 s3 => by
        have hl4 := (s3.out.block _ (Array.getElem?_eq_some_iff.1 hl3).1 hl0).trans hl3
        have hd4 := (s3.out.block _ (Array.getElem?_eq_some_iff.1 hd3).1 hd0).trans hd3
        have hr := run_endRound (P := P) jump hl4
        have hps : (Wa.putObj (w.heap.size + 1) (.loop { rc .ready none with state := .busy })).heap.size = Wa.heap.size := by simp
        refine ⟨_, hr, Turn.putObj _ hl4 rfl rfl (by omega), ?_, (World.putObj_heap_other (by omega)).trans hd4, fun h => ?_, fun h => ?_, ⟨?_, fun k hk => ?_⟩⟩
        · rw [World.putObj_heap_same (Array.getElem?_eq_some_iff.1 hl4).1, hrc]
        · rcases s3.new _ h with h | h
          · exact hd0 h
          · omega
        · rcases s3.new _ h with h | h
          · exact hl0 h
          · omega
        · exact (ob.trans s3.out fun k hk => Or.inl (Or.inl hk)).trans (G := fun k => k = w.heap.size + 1) ⟨rfl, rfl, froz_put _ _ _ _ hl4 rfl rfl, by simp, fun k _ hn => World.putObj_heap_other hn⟩ (fun k hk => Or.inl (Or.inr hk))
        · rcases hk with hk | hk
          · rcases s3.new _ hk with h | h
            · exact Or.inl (Or.inl h)
            · exact Or.inr (by omega)
          · exact Or.inl (Or.inr hk)
      rintro e a3 W3 hq
      cases e with
      | normal =>
        obtain ⟨G2, hi3, s3⟩ := hq
        obtain ⟨W4, hr, t4, hl4, hd4, n1, n2, s4⟩ := fin none G2 W3 s3
        exact ⟨_, _, hr, Or.inl ⟨rfl, _, ⟨G2, hI _ _ _ _ hi3 t4, rfl, n1, n2, hl4, hd4⟩, s4⟩⟩
      | ret =>
        obtain ⟨G2, hi3, s3⟩ := hq
        obtain ⟨W4, hr, t4, hl4, hd4, n1, n2, s4⟩ := fin (some .ret) G2 W3 s3
        exact ⟨_, _, hr, Or.inr ⟨rfl, _, ⟨.ret, G2, hIx _ _ _ _ _ hi3 t4, hl4, hd4⟩, s4⟩⟩
      | exit id =>
        obtain ⟨G2, hi3, s3⟩ := hq
        obtain ⟨W4, hr, t4, hl4, hd4, n1, n2, s4⟩ := fin (some (.exit id)) G2 W3 s3
        exact ⟨_, _, hr, Or.inr ⟨rfl, _, ⟨.exit id, G2, hIx _ _ _ _ _ hi3 t4, hl4, hd4⟩, s4⟩⟩
      | goto t =>
        obtain ⟨G2, hi3, s3⟩ := hq
        obtain ⟨W4, hr, t4, hl4, hd4, n1, n2, s4⟩ := fin (some (.goto t)) G2 W3 s3
        exact ⟨_, _, hr, Or.inr ⟨rfl, _, ⟨.goto t, G2, hIx _ _ _ _ _ hi3 t4, hl4, hd4⟩, s4⟩⟩
      | panic ch => exact hq.elim
      | outgrown => exact hq.elim
    | exit id => exact hp.elim
    | goto t => exact hp.elim
    | ret => exact hp.elim
    | panic ch => exact hp.elim
    | outgrown => exact hp.elim
  · intro h; have := hIl _ _ _ h0 _ h; omega
  · intro h; have := hIl _ _ _ h0 _ h; omega
  · rintro e W2 ⟨⟨v, rfl⟩, (⟨G', G0, hi, _, _, _, hl, hd⟩ | ⟨i, G', hlt, c, G0, hi, hl, hd⟩)⟩
    · have hr := run_endLoop (P := P) hl (by rw [hrc]; simp)
      rw [show (rc .ready none).pending = none by rw [hrc]] at hr
      exact ⟨none, _, hr, hdone _ _ _ (Nat.le_refl _) (hI _ _ _ _ hi (Turn.putObj _ hl rfl rfl (by omega))) ((World.putObj_heap_other (by omega)).trans hd)⟩
    · have hr := run_endLoop (P := P) hl (by rw [hrc]; simp)
      rw [show (rc .done (some c)).pending = some c by rw [hrc]] at hr
      exact ⟨some c, _, hr, hstop _ c i _ _ (Nat.le_refl _) hlt (hIx _ _ _ _ _ hi (Turn.putObj _ hl rfl rfl (by omega))) ((World.putObj_heap_other (by omega)).trans hd)⟩
end Go.Proofs.Ytlmcopenbeammaa
