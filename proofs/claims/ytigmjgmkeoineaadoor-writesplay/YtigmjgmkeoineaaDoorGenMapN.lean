/-
  Maps keyed by ints, told by what stands at each key, if anything does, and by how many they hold: made, counted, looked up, written, deleted from; the operations of a drawn region that do so. No condition but those told at each sentence.
-/
import Derived.Test.YtigmjgmkeoineaaDoorGenMapO
namespace Go.Proofs.YtigmjgmkeoineaaDoor
open Go.RowKit Go.Deep Go.Maps

/-- Block B is a map of s entries; at key x stands m x, if anything; z is what is told else. -/
def MapN (P : Program) (k : TypeId) (w : World) (B s : Nat) (z : Value) (m : Int → Option Value) : Prop :=
  ∃ D, w.ownsMap P k heldV B s D ∧ Maps.size D = s ∧ ∀ x : Int, (Lit.int .i64 x).wf = true → has D (.int .i64 x) = (m x).isSome ∧ D.atKey (.int .i64 x) (.held z) = .held ((m x).getD z)
theorem owns_size {P : Program} {k : TypeId} {w : World} {B n : Nat} {D : DataW Value} (h : w.ownsMap P k heldV B n D) : w.ownsMap P k heldV B (Maps.size D) D := by
  obtain ⟨es, c, hb, F, _, hD⟩ := h
  exact ⟨es, c, hb, F, by rw [hD]; simp [Maps.size, length_sorted], hD⟩
namespace MapN
variable {P : Program} {k t e : TypeId} {w w' : World} {B s : Nat} {z : Value} {m : Int → Option Value}
theorem made (P : Program) (k : TypeId) (w : World) (z : Value) : MapN P k (w.alloc (.map #[] 0)) w.heap.size 0 z (fun _ => none) :=
  ⟨.map [], World.ownsMap_made w P k _, rfl, fun _ _ => ⟨rfl, rfl⟩⟩
theorem obj (h : MapN P k w B s z m) : ∃ es c, w.heap[B]? = some (.map es c) := by
  obtain ⟨D, ⟨es, c, hb, _⟩, _⟩ := h
  exact ⟨es, c, hb⟩
theorem lt (h : MapN P k w B s z m) : B < w.heap.size := by
  obtain ⟨es, c, hb⟩ := h.obj
  exact (Array.getElem?_eq_some_iff.1 hb).1
theorem keep (h : MapN P k w B s z m) (hb : w'.heap[B]? = w.heap[B]?) : MapN P k w' B s z m := by
  obtain ⟨D, ⟨es, c, hb', h1⟩, h2⟩ := h
  exact ⟨D, ⟨es, c, hb.trans hb', h1⟩, h2⟩
theorem congr {m' : Int → Option Value} (h : MapN P k w B s z m) (hm : ∀ x, m x = m' x) : MapN P k w B s z m' := by
  rw [← show m = m' from funext hm]; exact h
theorem apart (h : MapN P k w B s z m) {X : Nat} {c : Array Value} {ty : TypeId} {f : Nat × Nat} (hx : w.heap[X]? = some (.cells c ty f)) : X ≠ B := fun e => by
  obtain ⟨es, c', hb⟩ := h.obj
  rw [← e, hx] at hb
  cases hb
theorem len (h : MapN P k w B s z m) (ht : P.underlying t = some (.map k e)) (ty : TypeId) : (Builtin.len_ #[t] ty #[.map (some B)]).run P w = .ok (.int .i64 (s : Int)) w := by
  obtain ⟨D, ho, hs, _⟩ := h
  rw [← hs]
  exact ho.len ht ty
theorem look (h : MapN P k w B s z m) (hk : P.underlying k = some (.int .i64)) (ht : P.underlying t = some (.map k e)) (hz : (zeroValue e).run P w = .ok z w) {x : Int} (hx : (Lit.int .i64 x).wf = true) :
    (Instr.lookup t (.map (some B)) (.int .i64 x) false).run P w = .ok ((m x).getD z) w := by
  obtain ⟨D, ho, _, hm⟩ := h
  obtain ⟨v, ps, hr, hv⟩ := ho.lookup (int_keyed hk) ht hz (zd := .held z) (zp := []) rfl (keyOf_int_mk hk hx)
  rw [(hm x hx).2] at hv
  unfold heldV at hv
  cases hv
  exact hr
theorem look_ok (h : MapN P k w B s z m) (hk : P.underlying k = some (.int .i64)) (ht : P.underlying t = some (.map k e)) (hz : (zeroValue e).run P w = .ok z w) {x : Int} (hx : (Lit.int .i64 x).wf = true) :
    (Instr.lookup t (.map (some B)) (.int .i64 x) true).run P w = .ok (.tuple #[(m x).getD z, .bool (m x).isSome]) w := by
  obtain ⟨D, ho, _, hm⟩ := h
  obtain ⟨v, ps, hr, hv⟩ := ho.look_ok (int_keyed hk) ht hz (zd := .held z) (zp := []) rfl (keyOf_int_mk hk hx)
  rw [(hm x hx).1] at hr
  rw [(hm x hx).2] at hv
  unfold heldV at hv
  cases hv
  exact hr
theorem store (h : MapN P k w B s z m) (hk : P.underlying k = some (.int .i64)) (ht : P.underlying t = some (.map k e)) {x : Int} (hx : (Lit.int .i64 x).wf = true) (hc : s < 1000000) (v : Value) :
    ∃ w', (Instr.mapUpdate t (.map (some B)) (.int .i64 x) v).run P w = .ok () w' ∧ MapN P k w' B (if (m x).isSome then s else s + 1) z (fun y => if y = x then some v else m y) ∧ Out (· = B) w w' := by
  obtain ⟨D, ho, hs, hm⟩ := h
  obtain ⟨w', hr, ho1, ht1⟩ := ho.store (int_keyed hk) ht (by unfold maxLen; omega) (keyOf_int_mk hk hx) (d := .held v) (ps := []) rfl
  have e1 : Maps.size (D.put (.int .i64 x) (.held v)) = if (m x).isSome then s else s + 1 := by rw [size_put (ho.tidy (int_keyed hk)), (hm x hx).1, hs]
  refine ⟨w', hr, ⟨_, e1 ▸ owns_size ho1, e1, fun y hy => ?_⟩, out_turned ht1⟩
  by_cases e : y = x
  · subst e
    rw [atKey_put_same ho.isMap (show WideAt.IsKeyLit (.int .i64 y) from trivial), has_put_same ho.isMap (show WideAt.IsKeyLit (.int .i64 y) from trivial)]
    simp
  · rw [atKey_put_other (fun h => e (by cases h; rfl)), has_put_other (fun h => e (by cases h; rfl)), (hm y hy).1, (hm y hy).2]
    simp [e]
theorem drop (h : MapN P k w B s z m) (hk : P.underlying k = some (.int .i64)) (ht : P.underlying t = some (.map k e)) {x : Int} (hx : (Lit.int .i64 x).wf = true) (ty : TypeId) :
    ∃ w', (Builtin.delete_ #[t, k] ty #[.map (some B), .int .i64 x]).run P w = .ok (.tuple #[]) w' ∧ MapN P k w' B (if (m x).isSome then s - 1 else s) z (fun y => if y = x then none else m y) ∧ Out (· = B) w w' := by
  obtain ⟨D, ho, hs, hm⟩ := h
  obtain ⟨w', hr, ho1, ht1⟩ := ho.drop (int_keyed hk) ht (keyOf_int_mk hk hx) ty
  have e1 : Maps.size (D.del (.int .i64 x)) = if (m x).isSome then s - 1 else s := by
    have := size_del (k := .int .i64 x) (ho.tidy (int_keyed hk))
    rw [(hm x hx).1, hs] at this
    split at this <;> rename_i hh <;> simp only [hh] <;> simp <;> omega
  refine ⟨w', hr, ⟨_, e1 ▸ owns_size ho1, e1, fun y hy => ?_⟩, out_turned ht1⟩
  by_cases e : y = x
  · subst e
    rw [atKey_del_same, has_del_same]
    simp
  · rw [atKey_del_other (fun h => e (by cases h; rfl)), has_del_other (fun h => e (by cases h; rfl)), (hm y hy).1, (hm y hy).2]
    simp [e]
end MapN

section
variable {P : Program} {w w' : World} {o : Oper} {A : Act} {k t e : TypeId} {B s : Nat} {z v : Value} {m : Int → Option Value}
/-- 'len' of a map, wherever it stands. -/
theorem exec_len_map {mo : Operand} (hop : o.op = Op.call { callee := Callee.builtin Builtin.len, args := #[mo], argTypes := #[t] }) (hm : A.eval mo = .map (some B)) (h : MapN P k w B s z m) (ht : P.underlying t = some (.map k e)) : (execOp A.eval o).run P w = .ok (.value (.int .i64 (s : Int))) w := by
  unfold execOp
  simp [hop, resolve, invoke, builtin, hm, h.len ht]
theorem exec_look_ok {mo x : Operand} (hop : o.op = Op.lookup t mo x true) (hk : P.underlying k = some (.int .i64)) (ht : P.underlying t = some (.map k e)) (hz : (zeroValue e).run P w = .ok z w) (h : MapN P k w B s z m) (hm : A.eval mo = .map (some B)) {id : Int} (hx : A.eval x = .int .i64 id) (hid : (Lit.int .i64 id).wf = true) {b : Bool} (hv : (m id).getD z = v) (hb : (m id).isSome = b) :
    (execOp A.eval o).run P w = .ok (.value (.tuple #[v, .bool b])) w := by
  have hr := h.look_ok hk ht hz hid
  unfold execOp
  simp [hop, hm, hx, hr]
  exact ⟨hv, hb⟩
theorem exec_update {mo x vo : Operand} (hop : o.op = Op.mapUpdate t mo x vo) (hm : A.eval mo = .map (some B)) {id : Int} (hx : A.eval x = .int .i64 id) (hv : A.eval vo = v) (hr : (Instr.mapUpdate t (.map (some B)) (.int .i64 id) v).run P w = .ok () w') :
    (execOp A.eval o).run P w = .ok .skip w' := by
  unfold execOp
  simp [hop, hm, hx, hv, hr]
theorem exec_drop {mo x : Operand} (hop : o.op = Op.call { callee := Callee.builtin Builtin.delete, args := #[mo, x], argTypes := #[t, k] }) (hm : A.eval mo = .map (some B)) {id : Int} (hx : A.eval x = .int .i64 id) (hr : (Builtin.delete_ #[t, k] o.type #[.map (some B), .int .i64 id]).run P w = .ok (.tuple #[]) w') :
    (execOp A.eval o).run P w = .ok (.value (.tuple #[])) w' := by
  unfold execOp
  simp [hop, resolve, invoke, builtin, hm, hx, hr]
end
end Go.Proofs.YtigmjgmkeoineaaDoor
