/-
  Slices that lie in a block of their own and grow by append; what calls that write into some blocks alone leave of the rest. No condition but those told at each sentence.
-/
import Derived.Test.YthjcdloaclailaaGenMem
import Derived.Laws.ResultCell
namespace Go.Proofs.Ythjcdloaclailaa
open Go.RowKit Go.Deep

/-- Of what was there nothing has turned but the blocks of F. -/
structure Out (F : Nat → Prop) (w w' : World) : Prop where
  os : w'.os = w.os
  output : w'.output = w.output
  froz : ∀ a : {x : Addr // x.block < w.heap.size}, w'.frozen? a.1 = w.frozen? a.1
  size : w.heap.size ≤ w'.heap.size
  block : ∀ k, k < w.heap.size → ¬ F k → w'.heap[k]? = w.heap[k]?

namespace Out
variable {F G : Nat → Prop} {w w' w'' W : World}
theorem refl (F : Nat → Prop) (w : World) : Out F w w := ⟨rfl, rfl, fun _ => rfl, Nat.le_refl _, fun _ _ _ => rfl⟩
/-- The second may touch what the first may, and what is new since. -/
theorem trans (h : Out F w w') (k : Out G w' w'') (hG : ∀ i, G i → F i ∨ w.heap.size ≤ i) : Out F w w'' :=
  ⟨k.os.trans h.os, k.output.trans h.output, fun a => (k.froz ⟨a.1, Nat.lt_of_lt_of_le a.2 h.size⟩).trans (h.froz a), Nat.le_trans h.size k.size, fun i hi hb => (k.block i (Nat.lt_of_lt_of_le hi h.size) (fun g => by rcases hG i g with e | e; exact hb e; omega)).trans (h.block i hi hb)⟩
theorem wide (h : Out F w w') (hG : ∀ i, i < w.heap.size → F i → G i) : Out G w w' := ⟨h.os, h.output, h.froz, h.size, fun k hk hn => h.block k hk (fun f => hn (hG k hk f))⟩
theorem drewN (h : Out F w w') (m : Nat) : Out F w (w'.drewN m) := ⟨h.os, h.output, h.froz, h.size, h.block⟩
theorem drew (h : Out F w w') : Out F w w'.drew := ⟨h.os, h.output, h.froz, h.size, h.block⟩
theorem of_grown (h : Grown w w') (F : Nat → Prop) : Out F w w' := ⟨h.1.1, h.1.2.1, h.2.1, h.2.2, fun _ hk _ => grown_block h hk⟩
theorem more (h : Out F w w') (g : Grown w' w'') : Out F w w'' := h.trans (of_grown g F) (fun _ => Or.inl)
theorem after (g : Grown w w') (h : Out F w' w'') : Out F w w'' := (of_grown g F).trans h (fun _ => Or.inl)
/-- Blocks that were not there at first count for nothing. -/
theorem grown (h : Out F w w') (g : Grown W w) (hb : ∀ k, F k → W.heap.size ≤ k) : Grown W w' :=
  ⟨keptBut_blocks (h.os.trans g.1.1) (h.output.trans g.1.2.1) (fun k hk => (h.block k (Nat.lt_of_lt_of_le hk g.2.2) (fun f => by have := hb k f; omega)).trans (grown_block g hk)), fun a => (h.froz ⟨a.1, Nat.lt_of_lt_of_le a.2 g.2.2⟩).trans (g.2.1 a), Nat.le_trans g.2.2 h.size⟩
theorem setCell (h : Out F w w') {a : Addr} (h1 : F a.block) (v : Value) : Out F w (w'.setCell a v) :=
  h.trans (G := F) ⟨rfl, rfl, fun x => World.frozen?_setCell _ _ _ _, by rw [nblk_setCell]; exact Nat.le_refl _, fun k _ hb => blk_setCell_other _ _ _ _ (fun e => hb (by rw [e]; exact h1))⟩ (fun _ => Or.inl)
theorem alloc (h : Out F w w') (c : Array Value) (t : TypeId) : Out F w (w'.alloc (.cells c t)) := h.more ((Grown.refl _).alloc c t)
theorem of_off {b : Nat} (h : Off b 1 w w') (hF : F b) : Out F w w' := ⟨h.os, h.output, h.froz, h.size, fun k hk hn => h.block k hk (by
  by_cases e : k = b
  · subst e; exact absurd hF hn
  · omega)⟩
end Out

/-- What a call leaves that may write into the blocks of F and into new ones: those of F' are its own then. -/
structure Step (F F' : Nat → Prop) (w w' : World) : Prop where
  out : Out F w w'
  new : ∀ k, F' k → F k ∨ w.heap.size ≤ k
namespace Step
variable {F F' F'' : Nat → Prop} {w w' w'' W : World}
theorem grown (F : Nat → Prop) (g : Grown w w') : Step F F w w' := ⟨Out.of_grown g F, fun _ => Or.inl⟩
theorem trans (h : Step F F' w w') (k : Step F' F'' w' w'') : Step F F'' w w'' :=
  ⟨h.out.trans k.out h.new, fun i hi => by
    rcases k.new i hi with e | e
    · exact h.new i e
    · exact Or.inr (Nat.le_trans h.out.size e)⟩
theorem more (h : Step F F' w w') (g : Grown w' w'') : Step F F' w w'' := h.trans (grown F' g)
theorem base {B : Nat} (h : Step F F' w w') (hF : ∀ k, F k → B ≤ k) (hB : B ≤ w.heap.size) : ∀ k, F' k → B ≤ k := fun k hk => by
  rcases h.new k hk with e | e
  · exact hF k e
  · omega
theorem keeps (h : Step F F' w w') (g : Grown W w) (hF : ∀ k, F k → W.heap.size ≤ k) : Grown W w' ∧ ∀ k, F' k → W.heap.size ≤ k := ⟨h.out.grown g hF, h.base hF g.2.2⟩
/-- What lay apart from the one's blocks, and was there, lies apart still. -/
theorem apart {G : Nat → Prop} (h : Step F F' w w') (hG : ∀ k, G k → k < w.heap.size) (hd : ∀ k, G k → ¬ F k) : ∀ k, G k → ¬ F' k := fun k hk hf => by
  rcases h.new k hf with e | e
  · exact hd k hk e
  · have := hG k hk; omega
end Step

/-- The block of a slice's first cell. -/
def In (p : Option Addr) (k : Nat) : Prop := p = some ⟨k, 0, none⟩
theorem In.no {k : Nat} : ¬ In none k := by intro h; cases h
theorem In.eq {B k : Nat} (h : In (some ⟨B, 0, none⟩) k) : k = B := by cases h; rfl
theorem In.self (B : Nat) : In (some ⟨B, 0, none⟩) B := rfl

/-- A slice of n elements of s cells each, which has a block of its own (or none): its cell j holds f j. -/
def Vec (w : World) (e : TypeId) (s : Nat) (p : Option Addr) (n c : Nat) (f : Nat → Value) : Prop :=
  (p = none ∧ n = 0 ∧ c = 0) ∨ ∃ B cur, p = some ⟨B, 0, none⟩ ∧ w.heap[B]? = some (.cells cur e (0, 0)) ∧ n ≤ c ∧ c ≤ maxLen ∧ cur.size = c * s ∧ ∀ j, j < n * s → cur[j]? = some (f j)

namespace Vec
variable {w w' : World} {e : TypeId} {s : Nat} {p : Option Addr} {n c B : Nat} {f g : Nat → Value}
theorem nil (w : World) (e : TypeId) (s : Nat) (f : Nat → Value) : Vec w e s none 0 0 f := Or.inl ⟨rfl, rfl, rfl⟩
theorem lt (h : Vec w e s p n c f) {k : Nat} (hk : In p k) : k < w.heap.size := by
  rcases h with ⟨rfl, _, _⟩ | ⟨B, cur, rfl, hb, _⟩
  · exact absurd hk In.no
  · rw [hk.eq]; exact (Array.getElem?_eq_some_iff.1 hb).1
theorem opens (h : Vec w e s p n c f) (hn : 0 < n) : ∃ B, p = some ⟨B, 0, none⟩ ∧ B < w.heap.size ∧ (∀ j, j < n * s → w.cell? ⟨B, j, none⟩ = some (f j)) ∧ (∀ j, w.frozen? ⟨B, j, none⟩ = false) ∧ n ≤ c := by
  rcases h with ⟨_, h0, _⟩ | ⟨B, cur, rfl, hb, hc, _, _, hj⟩
  · omega
  · exact ⟨B, rfl, (Array.getElem?_eq_some_iff.1 hb).1, fun j hjn => by simp [World.cell?, hb, hj j hjn], fun j => by simp [World.frozen?, hb], hc⟩
theorem out {F : Nat → Prop} (h : Vec w e s p n c f) (o : Out F w w') (hF : ∀ k, In p k → ¬ F k) : Vec w' e s p n c f := by
  rcases h with h | ⟨B, cur, rfl, hb, h⟩
  · exact Or.inl h
  · exact Or.inr ⟨B, cur, rfl, (o.block B (Array.getElem?_eq_some_iff.1 hb).1 (hF B (In.self B))).trans hb, h⟩
theorem grown (h : Vec w e s p n c f) (g : Grown w w') : Vec w' e s p n c f := h.out (Out.of_grown g fun _ => False) (fun _ _ => id)
theorem congr (h : Vec w e s p n c f) (hg : ∀ j, j < n * s → f j = g j) : Vec w e s p n c g := by
  rcases h with h | ⟨B, cur, h1, h2, h3, h4, h5, h6⟩
  · exact Or.inl h
  · exact Or.inr ⟨B, cur, h1, h2, h3, h4, h5, fun j hj => by rw [h6 j hj, hg j hj]⟩
theorem take (h : Vec w e s p n c f) {m : Nat} (hm : m ≤ n) : Vec w e s p m c f := by
  rcases h with ⟨h1, h2, h3⟩ | ⟨B, cur, h1, h2, h3, h4, h5, h6⟩
  · exact Or.inl ⟨h1, by omega, h3⟩
  · exact Or.inr ⟨B, cur, h1, h2, by omega, h4, h5, fun j hj => h6 j (Nat.lt_of_lt_of_le hj (Nat.mul_le_mul_right _ hm))⟩
theorem set (h : Vec w e s (some ⟨B, 0, none⟩) n c f) (i : Nat) (v : Value) : Vec (w.setCell ⟨B, i, none⟩ v) e s (some ⟨B, 0, none⟩) n c (fun j => if j = i then v else f j) := by
  rcases h with ⟨h1, _⟩ | ⟨B', cur, h1, h2, h3, h4, h5, h6⟩
  · cases h1
  · cases h1
    refine Or.inr ⟨B, cur.setIfInBounds i v, rfl, ?_, h3, h4, by simpa using h5, fun j hj => ?_⟩
    · simp [World.setCell, Array.getElem?_modify, h2]
    · rw [Array.getElem?_setIfInBounds]
      by_cases e : j = i
      · subst e
        have hlt : j < cur.size := by rw [h5]; exact Nat.lt_of_lt_of_le hj (Nat.mul_le_mul_right _ h3)
        simp [hlt]
      · rw [if_neg (fun h => e h.symm)]
        show cur[j]? = some (if j = i then v else f j)
        rw [if_neg e]
        exact h6 j hj
theorem made (w : World) (e : TypeId) (z : Array Value) (n s : Nat) (hn : n ≤ maxLen) (f : Nat → Value) (hf : ∀ j, j < n * s → (madeCells z n)[j]? = some (f j)) (hz : (madeCells z n).size = n * s) :
    Vec (w.alloc (.cells (madeCells z n) e)) e s (some ⟨w.heap.size, 0, none⟩) n n f :=
  Or.inr ⟨w.heap.size, _, rfl, blk_alloc_new _ _, Nat.le_refl _, hn, hz, hf⟩
/-- A new block that holds just these. -/
theorem laid (w : World) (e : TypeId) (cur : Array Value) (n s : Nat) (hn : n ≤ maxLen) (hz : cur.size = n * s) (f : Nat → Value) (hf : ∀ j, j < n * s → cur[j]? = some (f j)) :
    Vec (w.alloc (.cells cur e)) e s (some ⟨w.heap.size, 0, none⟩) n n f :=
  Or.inr ⟨w.heap.size, _, rfl, blk_alloc_new _ _, Nat.le_refl _, hn, hz, hf⟩
end Vec

theorem list_get {m : Nat} (g : Nat → Value) {j : Nat} {u : Value} (h : ((List.range m).map g)[j]? = some u) : j < m ∧ u = g j := by
  obtain ⟨hlt, he⟩ := List.getElem?_eq_some_iff.1 h
  simp at hlt he
  exact ⟨hlt, he.symm⟩
theorem get_lists (f g : Nat → Value) (a b j : Nat) (zs : Array Value) (hj : j < a + b) :
    (((List.range a).map f).toArray ++ ((List.range b).map g).toArray ++ zs)[j]? = some (if j < a then f j else g (j - a)) := by
  rw [Array.getElem?_append_left (by simp; omega)]
  by_cases h : j < a
  · rw [Array.getElem?_append_left (by simp; omega), if_pos h]
    simp [h]
  · rw [Array.getElem?_append_right (by simp; omega), if_neg h]
    simp [show j - a < b by omega]

/-- append to a slice that has a block of its own. -/
theorem run_append_vec {P : Program} {w : World} {t e : TypeId} (ty : TypeId) {z : Value} {s bytes : Nat} (ht : P.underlying t = some (.slice e)) (hinfo : (P.info? e).map (fun i => (i.zero, i.size, i.bytes)) = some (some z, s, bytes)) (hzs : z.cells.size = s)
    {p : Option Addr} {n c : Nat} {f : Nat → Value} (h : Vec w e s p n c f)
    {ad : Addr} {m cx : Nat} {g : Nat → Value} (hm : 0 < m) (hc : ∀ j, j < m * s → w.cell? (ad.add j) = some (g j)) (h1 : ∀ j, j < m * s → (g j).oneCell' = true) (hb : (n + m) * bytes ≤ 140737488355328) (h63 : n + m ≤ 9223372036854775807) :
    ∃ p' c' w', (Builtin.append_ #[t, t] ty #[.slice p n c, .slice (some ad) m cx]).run P w = .ok (.slice p' (n + m) c') w' ∧ Vec w' e s p' (n + m) c' (fun j => if j < n * s then f j else g (j - n * s)) ∧ Out (In p) w w' ∧ (p' = p ∨ p' = some ⟨w.heap.size, 0, none⟩) := by
  obtain ⟨i, hi, hz, hsz, hby⟩ := info_parts hinfo
  subst hsz
  subst hby
  have hmx : n + m ≤ maxLen := by simp only [maxLen]; omega
  have hl : ((List.range (m * i.size)).map g).length = m * i.size := by simp
  have hn : ∀ j u, ((List.range (m * i.size)).map g)[j]? = some u → w.cell? (ad.add j) = some u := fun j u hu => by
    obtain ⟨h1, h2⟩ := list_get g hu
    rw [hc j h1, h2]
  have fresh : ∀ old, (w.drew.alloc (.cells (((List.range (n * i.size)).map f).toArray ++ ((List.range (m * i.size)).map g).toArray ++ Builtin.zeroCells z.cells (grownCap w (n + m) old e - (n + m))) e)).heap[w.heap.size]? = some (.cells (((List.range (n * i.size)).map f).toArray ++ ((List.range (m * i.size)).map g).toArray ++ Builtin.zeroCells z.cells (grownCap w (n + m) old e - (n + m))) e (0, 0)) := fun old => blk_alloc_new w.drew _
  have fv : ∀ old, Vec (w.drew.alloc (.cells (((List.range (n * i.size)).map f).toArray ++ ((List.range (m * i.size)).map g).toArray ++ Builtin.zeroCells z.cells (grownCap w (n + m) old e - (n + m))) e)) e i.size (some ⟨w.heap.size, 0, none⟩) (n + m) (grownCap w (n + m) old e) (fun j => if j < n * i.size then f j else g (j - n * i.size)) := fun old => by
    have hge := grownCap_ge w (n + m) old e
    refine Or.inr ⟨_, _, rfl, fresh old, hge, grownCap_le_maxLen w (n + m) old e hmx, ?_, fun j hj => ?_⟩
    · simp only [Array.size_append, List.size_toArray, List.length_map, List.length_range, size_zeroCells, hzs, ← Nat.add_mul]
      congr 1
      omega
    · exact get_lists f g _ _ j _ (by rw [Nat.add_mul] at hj; exact hj)
  rcases h with ⟨rfl, rfl, rfl⟩ | ⟨B, cur, rfl, hb', hc', hcm, hcs, hcur⟩
  · have hr := run_append_nil (P := P) w t ty e i z ht hi hz ad m cx _ hl hn (by omega) (by omega) (by have hb := hb; simp only [Nat.zero_add] at hb; omega)
    have hv := fv 0
    simp only [Nat.zero_add, Nat.zero_mul, List.range_zero, List.map_nil, Array.empty_append] at hv hr ⊢
    exact ⟨_, _, _, hr, hv, ((Out.refl _ _).drew.alloc _ _), Or.inr rfl⟩
  · by_cases hroom : n + m ≤ c
    · have hfit : n * i.size + ((List.range (m * i.size)).map g).length ≤ cur.size := by rw [hl, hcs, ← Nat.add_mul]; exact Nat.mul_le_mul_right _ hroom
      have hr := run_append_room (P := P) w t ty e i ht hi B n c cur hb' ad m cx _ hl hn (fun u hu => by
        obtain ⟨j, hj, rfl⟩ := List.mem_map.1 hu
        exact h1 j (by simpa using hj)) hroom hfit
      refine ⟨_, _, _, hr, Or.inr ⟨B, _, rfl, setRow_heap w B cur _ e _ hb', hroom, hcm, ?_, fun j hj => ?_⟩, Out.of_off (off_setRow hb') (In.self B), Or.inl rfl⟩
      · simp only [List.size_toArray, List.length_append, List.length_take, List.length_drop, Array.length_toList]
        omega
      · rw [Nat.add_mul] at hj
        rw [hl] at hfit
        have hlen : (cur.toList.take (n * i.size)).length = n * i.size := by rw [List.length_take, Array.length_toList]; omega
        simp only [List.getElem?_toArray]
        by_cases e1 : j < n * i.size
        · rw [List.append_assoc, List.getElem?_append_left (by omega), List.getElem?_take, if_pos e1, if_pos e1, Array.getElem?_toList]
          exact hcur j e1
        · rw [List.append_assoc, List.getElem?_append_right (by omega), hlen, if_neg e1, List.getElem?_append_left (by rw [hl]; omega), List.getElem?_map, List.getElem?_range (by omega)]
          rfl
    · have holds : ∀ j u, ((List.range (n * i.size)).map f)[j]? = some u → w.cell? ((⟨B, 0, none⟩ : Addr).add j) = some u := fun j u hu => by
        obtain ⟨h1, h2⟩ := list_get f hu
        have hadd : (⟨B, 0, none⟩ : Addr).add j = ⟨B, j, none⟩ := by unfold Addr.add; split <;> simp_all
        rw [hadd, h2]
        simp [World.cell?, hb', hcur j h1]
      have hr := run_append_grow (P := P) w t ty e i z ht hi hz ⟨B, 0, none⟩ n c _ (by simp) holds ad m cx _ hl hn (by omega) (by omega) (growslice_fits (by omega) hb)
      exact ⟨_, _, _, hr, fv c, ((Out.refl _ _).drew.alloc _ _), Or.inr rfl⟩

theorem wpList_append_vec {P : Program} {w : World} {ops : Array Oper} {rest : List Oper} {o : Oper} {a : Act} {Q : Exit → Act → World → Prop}
    (hg : o.guard = none) (so xo : Operand) (t : TypeId) (hop : o.op = Op.call { callee := Callee.builtin Builtin.append, args := #[so, xo], argTypes := #[t, t] })
    {e : TypeId} {z : Value} {s bytes : Nat} (ht : P.underlying t = some (.slice e)) (hinfo : (P.info? e).map (fun i => (i.zero, i.size, i.bytes)) = some (some z, s, bytes)) (hzs : z.cells.size = s)
    {p : Option Addr} {n c : Nat} {f : Nat → Value} (hs : a.eval so = .slice p n c) (h : Vec w e s p n c f)
    {ad : Addr} {m cx : Nat} {g : Nat → Value} (hx : a.eval xo = .slice (some ad) m cx) (hm : 0 < m) (hc : ∀ j, j < m * s → w.cell? (ad.add j) = some (g j)) (h1 : ∀ j, j < m * s → (g j).oneCell' = true) (hb : (n + m) * bytes ≤ 140737488355328) (h63 : n + m ≤ 9223372036854775807)
    (hK : ∀ p' c' w', Vec w' e s p' (n + m) c' (fun j => if j < n * s then f j else g (j - n * s)) → Out (In p) w w' → (p' = p ∨ p' = some ⟨w.heap.size, 0, none⟩) → wpList P ops Q rest (a.put o.dst (.slice p' (n + m) c')) w') :
    wpList P ops Q (o :: rest) a w := by
  refine wpList_plain hg fun K hK' => ?_
  obtain ⟨p', c', w', hr, h2, h3, h4⟩ := run_append_vec (P := P) o.type ht hinfo hzs h (cx := cx) hm hc h1 hb h63
  unfold Oper.wp execOp
  simp only [hop, resolve, invoke, builtin, Sem.run_bind, Sem.run_pure, Result.andThen_ok, List.map_toArray, List.map_cons, List.map_nil, hs, hx, hr]
  exact hK' _ _ (hK p' c' w' h2 h3 h4)

/-- append, at a step of a region that draws its order. -/
theorem step_append_vec {P : Program} {w : World} {ops : Array Oper} {o : Oper} {a : Act} {K : Act → World → Prop} {Q : Exit → Act → World → Prop} {E : Prop}
    (hg : o.guard = none) (so xo : Operand) (t : TypeId) (hop : o.op = Op.call { callee := Callee.builtin Builtin.append, args := #[so, xo], argTypes := #[t, t] })
    {e : TypeId} {z : Value} {s bytes : Nat} (ht : P.underlying t = some (.slice e)) (hinfo : (P.info? e).map (fun i => (i.zero, i.size, i.bytes)) = some (some z, s, bytes)) (hzs : z.cells.size = s)
    {p : Option Addr} {n c : Nat} {f : Nat → Value} (hs : a.eval so = .slice p n c) (h : Vec w e s p n c f)
    {ad : Addr} {m cx : Nat} {g : Nat → Value} (hx : a.eval xo = .slice (some ad) m cx) (hm : 0 < m) (hc : ∀ j, j < m * s → w.cell? (ad.add j) = some (g j)) (h1 : ∀ j, j < m * s → (g j).oneCell' = true) (hb : (n + m) * bytes ≤ 140737488355328) (h63 : n + m ≤ 9223372036854775807)
    (hK : ∀ p' c' w', Vec w' e s p' (n + m) c' (fun j => if j < n * s then f j else g (j - n * s)) → Out (In p) w w' → (p' = p ∨ p' = some ⟨w.heap.size, 0, none⟩) → K (a.put o.dst (.slice p' (n + m) c')) w') :
    if Region.wanted o (yielded ops a.tmps) = true then Oper.wp P o a w K Q else E := by
  have hw : Region.wanted o (yielded ops a.tmps) = true := by simp [Region.wanted, hg]
  rw [if_pos hw]
  obtain ⟨p', c', w', hr, h2, h3, h4⟩ := run_append_vec (P := P) o.type ht hinfo hzs h (cx := cx) hm hc h1 hb h63
  unfold Oper.wp execOp
  simp only [hop, resolve, invoke, builtin, Sem.run_bind, Sem.run_pure, Result.andThen_ok, List.map_toArray, List.map_cons, List.map_nil, hs, hx, hr]
  exact hK p' c' w' h2 h3 h4

/-- append to a slice that lies in block b, and the slice stored there again. -/
theorem boxed_append {W w' : World} {b : Nat} {tb : TypeId} {e : TypeId} {s : Nat} {p p' : Option Addr} {n n' c c' : Nat} {f' : Nat → Value} {tmp : Array Value} {ty : TypeId} (hb : W.heap[b]? = some (.cells #[.slice p n c] tb (0, 0))) (hbp : ¬ In p b)
    (hv : Vec w' e s p' n' c' f') (ho : Out (In p) (W.alloc (.cells tmp ty)) w') (hp : p' = p ∨ p' = some ⟨(W.alloc (.cells tmp ty)).heap.size, 0, none⟩) :
    w'.heap[b]? = some (.cells #[.slice p n c] tb (0, 0)) ∧ (w'.setCell ⟨b, 0, none⟩ (.slice p' n' c')).heap[b]? = some (.cells #[.slice p' n' c'] tb (0, 0)) ∧ Vec (w'.setCell ⟨b, 0, none⟩ (.slice p' n' c')) e s p' n' c' f' ∧
      Out (fun k => k = b ∨ In p k) W (w'.setCell ⟨b, 0, none⟩ (.slice p' n' c')) ∧ (∀ k, In p' k → In p k ∨ W.heap.size < k) := by
  have hlt : b < W.heap.size := (Array.getElem?_eq_some_iff.1 hb).1
  have h1 : w'.heap[b]? = some (.cells #[.slice p n c] tb (0, 0)) := (ho.block b (by rw [nblk_alloc]; omega) hbp).trans ((grown_block ((Grown.refl W).alloc _ _) hlt).trans hb)
  have hnew : ∀ k, In p' k → In p k ∨ W.heap.size < k := fun k hk => by
    rcases hp with rfl | rfl
    · exact Or.inl hk
    · rw [hk.eq, nblk_alloc]; exact Or.inr (by omega)
  refine ⟨h1, by simp [World.setCell, Array.getElem?_modify, h1], hv.out (F := fun k => k = b) ⟨rfl, rfl, fun x => World.frozen?_setCell _ _ _ _, by rw [nblk_setCell]; exact Nat.le_refl _, fun k _ hk => blk_setCell_other _ _ _ _ hk⟩ (fun k hk e => ?_), ?_, hnew⟩
  · subst e
    rcases hnew _ hk with h | h
    · exact hbp h
    · omega
  · exact ((Out.after ((Grown.refl W).alloc _ _) (ho.wide (G := fun k => k = b ∨ In p k) fun k _ h => Or.inr h)).setCell (a := ⟨b, 0, none⟩) (Or.inl rfl) _)
theorem ret_i {k : IntKind} {a b : Int} (h : a = b) : Ending.returned (.int k a) = .returned (.int k b) := by rw [h]
theorem ret_b {a b : Bool} (h : a = b) : Ending.returned (.bool a) = .returned (.bool b) := by rw [h]
/-- Results: a struct's or an array's block, and a slot. -/
theorem results_row_tmp {P : Program} {fn : Func} {p u : Tmp} {ty : TypeId} (h : fn.results = #[.cell p ty, .tmp u]) (tmps : Array Value) (w : World) (g : Nat) (t : TypeId) (cs : Array Value) (fr : Nat × Nat) (d : TypeDesc)
    (hp : tmps.getD p undef = .pointer (some ⟨g, 0, none⟩)) (hg : w.heap[g]? = some (.cells cs t fr))
    (hu : P.underlying ty = some d) (hd : (match d with | .struct _ | .array _ _ => true | _ => false) = true) (hi : (P.info? ty).map (·.size) = some cs.size) :
    (results fn tmps).run P w = .ok (.tuple #[.agg cs, tmps.getD u undef]) w := by
  have hp' : tmps[p]?.getD undef = .pointer (some ⟨g, 0, none⟩) := by simpa using hp
  rw [results_cell_tmp h]
  simp [hp', asAddr, run_loadVar_row w g t ty cs fr d hg hu hd hi, Result.andThen]
end Go.Proofs.Ythjcdloaclailaa
