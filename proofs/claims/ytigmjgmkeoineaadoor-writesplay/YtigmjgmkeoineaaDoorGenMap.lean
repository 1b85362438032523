/-
  Maps keyed by ints, told by what stands at each key: made, looked up, written, deleted from. No condition but those told at each sentence.
-/
import Derived.Test.YtigmjgmkeoineaaDoorGenVec
import Derived.Maps.OwnSet
namespace Go.Proofs.YtigmjgmkeoineaaDoor
open Go.RowKit Go.Deep Go.Maps

/-- Numbers below n, none twice, are n at most. -/
theorem few_nat : ∀ (n : Nat) (l : List Nat), l.Nodup → (∀ x ∈ l, x < n) → l.length ≤ n
  | 0, l, _, h => by
    cases l with
    | nil => exact Nat.le_refl _
    | cons x r => exact absurd (h x (List.mem_cons_self ..)) (by omega)
  | n + 1, l, hd, h => by
    have ih := few_nat n (l.erase n) (hd.erase n) (fun x hx => by
      have h1 := h x (List.mem_of_mem_erase hx)
      have h2 : x ≠ n := fun e => by subst e; exact absurd hx (List.Nodup.not_mem_erase hd)
      omega)
    have := List.length_erase (a := n) (l := l)
    split at this <;> omega
/-- Whole numbers from lo to hi, none twice, are that many at most. -/
theorem few_int {lo hi : Int} (l : List Int) (hd : l.Nodup) (h : ∀ x ∈ l, lo ≤ x ∧ x ≤ hi) : l.length ≤ (hi + 1 - lo).toNat := by
  have := few_nat (hi + 1 - lo).toNat (l.map fun x => (x - lo).toNat) ?_ ?_
  · simpa using this
  · refine List.pairwise_map.2 (List.Pairwise.imp_of_mem (fun {a b} ha hb hne => ?_) hd)
    have := h a ha
    have := h b hb
    omega
  · intro x hx
    obtain ⟨y, hy, rfl⟩ := List.mem_map.1 hx
    have := h y hy
    omega

/-- An element, as it is. -/
def heldV (v : Value) : Option (DataW Value × List MemPlace) := some (.held v, [])
def keysIn (lo hi : Int) (D : DataW Value) : Prop := ∃ es, D = .map es ∧ ∀ p ∈ es, ∃ x : Int, p.1 = .int .i64 x ∧ lo ≤ x ∧ x ≤ hi
/-- Block B is a map whose keys are from lo to hi; at key x stands m x, which is z if there is none. -/
def MapV (P : Program) (k : TypeId) (w : World) (B : Nat) (lo hi : Int) (z : Value) (m : Int → Value) : Prop :=
  ∃ n D, w.ownsMap P k heldV B n D ∧ keysIn lo hi D ∧ ∀ x : Int, (Lit.int .i64 x).wf = true → D.atKey (.int .i64 x) (.held z) = .held (m x)

theorem out_turned {w w' : World} {B : Nat} (h : w.mapTurned w' B) : Out (· = B) w w' :=
  ⟨h.grown.os, h.grown.output, h.frozen, h.grown.size, fun k hk hn => h.grown.block k hk (by intro e; cases e; exact hn rfl)⟩
namespace MapV
variable {P : Program} {k t e : TypeId} {w w' : World} {B : Nat} {lo hi : Int} {z : Value} {m : Int → Value}
theorem made (P : Program) (k : TypeId) (w : World) (lo hi : Int) (z : Value) : MapV P k (w.alloc (.map #[] 0)) w.heap.size lo hi z (fun _ => z) :=
  ⟨0, .map [], World.ownsMap_made w P k _, ⟨[], rfl, fun _ hp => absurd hp List.not_mem_nil⟩, fun _ _ => rfl⟩
theorem obj (h : MapV P k w B lo hi z m) : ∃ es c, w.heap[B]? = some (.map es c) := by
  obtain ⟨n, D, ⟨es, c, hb, _⟩, _⟩ := h
  exact ⟨es, c, hb⟩
theorem lt (h : MapV P k w B lo hi z m) : B < w.heap.size := by
  obtain ⟨es, c, hb⟩ := h.obj
  exact (Array.getElem?_eq_some_iff.1 hb).1
theorem keep (h : MapV P k w B lo hi z m) (hb : w'.heap[B]? = w.heap[B]?) : MapV P k w' B lo hi z m := by
  obtain ⟨n, D, ⟨es, c, hb', h1⟩, h2⟩ := h
  exact ⟨n, D, ⟨es, c, hb.trans hb', h1⟩, h2⟩
theorem congr {m' : Int → Value} (h : MapV P k w B lo hi z m) (hm : ∀ x, m x = m' x) : MapV P k w B lo hi z m' := by
  rw [← show m = m' from funext hm]; exact h
theorem apart (h : MapV P k w B lo hi z m) {X : Nat} {c : Array Value} {ty : TypeId} {f : Nat × Nat} (hx : w.heap[X]? = some (.cells c ty f)) : X ≠ B := fun e => by
  obtain ⟨es, c', hb⟩ := h.obj
  rw [← e, hx] at hb
  cases hb
theorem size_le {D : DataW Value} (hD : keysIn lo hi D) (ht : Tidy D) : Maps.size D ≤ (hi + 1 - lo).toNat := by
  obtain ⟨es, rfl, hk⟩ := hD
  obtain ⟨es', he, hp⟩ := ht
  cases he
  have := few_int (lo := lo) (hi := hi) (es.map fun p => match p.1 with | .int _ x => x | _ => 0) ?_ ?_
  · simpa [Maps.size] using this
  · refine List.pairwise_map.2 (List.Pairwise.imp_of_mem (fun {a b} ha hb hne => ?_) hp)
    obtain ⟨x, hx, _⟩ := hk a ha
    obtain ⟨y, hy, _⟩ := hk b hb
    rw [hx, hy] at hne ⊢
    intro e
    exact hne (by simpa using e)
  · intro x hx
    obtain ⟨p, hp, rfl⟩ := List.mem_map.1 hx
    obtain ⟨y, hy, h1⟩ := hk p hp
    rw [hy]
    exact h1
theorem look (h : MapV P k w B lo hi z m) (hk : P.underlying k = some (.int .i64)) (ht : P.underlying t = some (.map k e)) (hz : (zeroValue e).run P w = .ok z w) {x : Int} (hx : (Lit.int .i64 x).wf = true) :
    (Instr.lookup t (.map (some B)) (.int .i64 x) false).run P w = .ok (m x) w := by
  obtain ⟨n, D, ho, _, hm⟩ := h
  obtain ⟨v, ps, hr, hv⟩ := ho.lookup (int_keyed hk) ht hz (zd := .held z) (zp := []) rfl (keyOf_int_mk hk hx)
  rw [hm x hx] at hv
  unfold heldV at hv
  cases hv
  exact hr
theorem store (h : MapV P k w B lo hi z m) (hk : P.underlying k = some (.int .i64)) (ht : P.underlying t = some (.map k e)) {x : Int} (hx : (Lit.int .i64 x).wf = true) (h1 : lo ≤ x) (h2 : x ≤ hi) (hc : hi - lo < 1000000) (v : Value) :
    ∃ w', (Instr.mapUpdate t (.map (some B)) (.int .i64 x) v).run P w = .ok () w' ∧ MapV P k w' B lo hi z (fun y => if y = x then v else m y) ∧ Out (· = B) w w' := by
  obtain ⟨n, D, ho, hks, hm⟩ := h
  have hsz := size_le hks (ho.tidy (int_keyed hk))
  have ho' : w.ownsMap P k heldV B (Maps.size D) D := by
    obtain ⟨es, c, hb, F, _, hD⟩ := ho
    exact ⟨es, c, hb, F, by rw [hD]; simp [Maps.size, length_sorted], hD⟩
  obtain ⟨w', hr, ho1, ht1⟩ := ho'.store (int_keyed hk) ht (by unfold maxLen; omega) (keyOf_int_mk hk hx) (d := .held v) (ps := []) rfl
  refine ⟨w', hr, ⟨_, _, ho1, ?_, fun y hy => ?_⟩, out_turned ht1⟩
  · obtain ⟨es, rfl, hes⟩ := hks
    refine ⟨_, rfl, fun p hp => ?_⟩
    rcases ChangeMaps.mem_insert_iff.1 hp with rfl | hp
    · exact ⟨x, rfl, h1, h2⟩
    · exact hes p (List.mem_filter.1 hp).1
  · by_cases e : y = x
    · subst e
      rw [atKey_put_same ho.isMap (show WideAt.IsKeyLit (.int .i64 y) from trivial)]
      simp
    · rw [atKey_put_other (fun h => e (by cases h; rfl)), hm y hy]
      simp [e]
theorem drop (h : MapV P k w B lo hi z m) (hk : P.underlying k = some (.int .i64)) (ht : P.underlying t = some (.map k e)) {x : Int} (hx : (Lit.int .i64 x).wf = true) (ty : TypeId) :
    ∃ w', (Builtin.delete_ #[t, k] ty #[.map (some B), .int .i64 x]).run P w = .ok (.tuple #[]) w' ∧ MapV P k w' B lo hi z (fun y => if y = x then z else m y) ∧ Out (· = B) w w' := by
  obtain ⟨n, D, ho, hks, hm⟩ := h
  obtain ⟨w', hr, ho1, ht1⟩ := ho.drop (int_keyed hk) ht (keyOf_int_mk hk hx) ty
  refine ⟨w', hr, ⟨_, _, ho1, ?_, fun y hy => ?_⟩, out_turned ht1⟩
  · obtain ⟨es, rfl, hes⟩ := hks
    exact ⟨_, rfl, fun p hp => hes p (List.mem_filter.1 hp).1⟩
  · by_cases e : y = x
    · subst e
      rw [atKey_del_same]
      simp
    · rw [atKey_del_other (fun h => e (by cases h; rfl)), hm y hy]
      simp [e]
end MapV

section
variable {P : Program} {w : World} {ops : Array Oper} {rest : List Oper} {o : Oper} {a : Act} {Q : Exit → Act → World → Prop} {k t e : TypeId} {B : Nat} {lo hi : Int} {z : Value} {m : Int → Value}
theorem wpList_look_map (hg : o.guard = none) (mo x : Operand) (t : TypeId) (hop : o.op = Op.lookup t mo x false) (hk : P.underlying k = some (.int .i64)) (ht : P.underlying t = some (.map k e)) (hz : (zeroValue e).run P w = .ok z w) (h : MapV P k w B lo hi z m)
    (hm : a.eval mo = .map (some B)) {id : Int} (hx : a.eval x = .int .i64 id) (hid : (Lit.int .i64 id).wf = true) {v : Value} (hv : m id = v) (hK : wpList P ops Q rest (a.put o.dst v) w) : wpList P ops Q (o :: rest) a w := by
  refine wpList_plain hg fun K' hK' => ?_
  have hr := h.look hk ht hz hid
  unfold Oper.wp
  simp [execOp, hop, hm, hx, hr, Result.andThen]
  rw [hv]
  exact hK' _ _ hK
theorem wpList_store_map (hg : o.guard = none) (mo x vo : Operand) (t : TypeId) (hop : o.op = Op.mapUpdate t mo x vo) (hk : P.underlying k = some (.int .i64)) (ht : P.underlying t = some (.map k e)) (h : MapV P k w B lo hi z m)
    (hm : a.eval mo = .map (some B)) {id : Int} (hx : a.eval x = .int .i64 id) (hid : (Lit.int .i64 id).wf = true) (h1 : lo ≤ id) (h2 : id ≤ hi) (hc : hi - lo < 1000000) {v : Value} (hv : a.eval vo = v)
    (hK : ∀ w', MapV P k w' B lo hi z (fun y => if y = id then v else m y) → Out (· = B) w w' → wpList P ops Q rest (a.put o.dst undef) w') : wpList P ops Q (o :: rest) a w := by
  refine wpList_plain hg fun K' hK' => ?_
  obtain ⟨w', hr, r1, r2⟩ := h.store hk ht hid h1 h2 hc v
  unfold Oper.wp
  simp [execOp, hop, hm, hx, hv, hr, Result.andThen]
  exact hK' _ _ (hK w' r1 r2)
theorem wpList_drop_map (hg : o.guard = none) (mo x : Operand) (t k : TypeId) (hop : o.op = Op.call { callee := Callee.builtin Builtin.delete, args := #[mo, x], argTypes := #[t, k] }) (hk : P.underlying k = some (.int .i64)) (ht : P.underlying t = some (.map k e)) (h : MapV P k w B lo hi z m)
    (hm : a.eval mo = .map (some B)) {id : Int} (hx : a.eval x = .int .i64 id) (hid : (Lit.int .i64 id).wf = true)
    (hK : ∀ w', MapV P k w' B lo hi z (fun y => if y = id then z else m y) → Out (· = B) w w' → wpList P ops Q rest (a.put o.dst (.tuple #[])) w') : wpList P ops Q (o :: rest) a w := by
  refine wpList_plain hg fun K' hK' => ?_
  obtain ⟨w', hr, r1, r2⟩ := h.drop hk ht hid o.type
  unfold Oper.wp
  simp [execOp, hop, resolve, invoke, builtin, hm, hx, hr, Result.andThen]
  exact hK' _ _ (hK w' r1 r2)
end
end Go.Proofs.YtigmjgmkeoineaaDoor
