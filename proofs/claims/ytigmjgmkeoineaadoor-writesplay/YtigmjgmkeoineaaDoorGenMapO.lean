/-
  Maps keyed by ints, told by what stands at each key, if anything does: made, looked up (with and without 'is'), written, deleted from. No condition but those told at each sentence.
-/
import Derived.Test.YtigmjgmkeoineaaDoorGenMap
namespace Go.Proofs.YtigmjgmkeoineaaDoor
open Go.RowKit Go.Deep Go.Maps

/-- Block B is a map whose keys are from lo to hi; at key x stands m x, if anything; z is what is told else. -/
def MapO (P : Program) (k : TypeId) (w : World) (B : Nat) (lo hi : Int) (z : Value) (m : Int → Option Value) : Prop :=
  ∃ n D, w.ownsMap P k heldV B n D ∧ keysIn lo hi D ∧ ∀ x : Int, (Lit.int .i64 x).wf = true → has D (.int .i64 x) = (m x).isSome ∧ D.atKey (.int .i64 x) (.held z) = .held ((m x).getD z)
namespace MapO
variable {P : Program} {k t e : TypeId} {w w' : World} {B : Nat} {lo hi : Int} {z : Value} {m : Int → Option Value}
theorem made (P : Program) (k : TypeId) (w : World) (lo hi : Int) (z : Value) : MapO P k (w.alloc (.map #[] 0)) w.heap.size lo hi z (fun _ => none) :=
  ⟨0, .map [], World.ownsMap_made w P k _, ⟨[], rfl, fun _ hp => absurd hp List.not_mem_nil⟩, fun _ _ => ⟨rfl, rfl⟩⟩
theorem plain (h : MapO P k w B lo hi z m) : MapV P k w B lo hi z (fun x => (m x).getD z) := by
  obtain ⟨n, D, h1, h2, h3⟩ := h
  exact ⟨n, D, h1, h2, fun x hx => (h3 x hx).2⟩
theorem obj (h : MapO P k w B lo hi z m) : ∃ es c, w.heap[B]? = some (.map es c) := h.plain.obj
theorem lt (h : MapO P k w B lo hi z m) : B < w.heap.size := h.plain.lt
theorem keep (h : MapO P k w B lo hi z m) (hb : w'.heap[B]? = w.heap[B]?) : MapO P k w' B lo hi z m := by
  obtain ⟨n, D, ⟨es, c, hb', h1⟩, h2⟩ := h
  exact ⟨n, D, ⟨es, c, hb.trans hb', h1⟩, h2⟩
theorem apart (h : MapO P k w B lo hi z m) {X : Nat} {c : Array Value} {ty : TypeId} {f : Nat × Nat} (hx : w.heap[X]? = some (.cells c ty f)) : X ≠ B := h.plain.apart hx
theorem look (h : MapO P k w B lo hi z m) (hk : P.underlying k = some (.int .i64)) (ht : P.underlying t = some (.map k e)) (hz : (zeroValue e).run P w = .ok z w) {x : Int} (hx : (Lit.int .i64 x).wf = true) :
    (Instr.lookup t (.map (some B)) (.int .i64 x) false).run P w = .ok ((m x).getD z) w := h.plain.look hk ht hz hx
theorem look_ok (h : MapO P k w B lo hi z m) (hk : P.underlying k = some (.int .i64)) (ht : P.underlying t = some (.map k e)) (hz : (zeroValue e).run P w = .ok z w) {x : Int} (hx : (Lit.int .i64 x).wf = true) :
    (Instr.lookup t (.map (some B)) (.int .i64 x) true).run P w = .ok (.tuple #[(m x).getD z, .bool (m x).isSome]) w := by
  obtain ⟨n, D, ho, _, hm⟩ := h
  obtain ⟨v, ps, hr, hv⟩ := ho.look_ok (int_keyed hk) ht hz (zd := .held z) (zp := []) rfl (keyOf_int_mk hk hx)
  rw [(hm x hx).1] at hr
  rw [(hm x hx).2] at hv
  unfold heldV at hv
  cases hv
  exact hr
theorem store (h : MapO P k w B lo hi z m) (hk : P.underlying k = some (.int .i64)) (ht : P.underlying t = some (.map k e)) {x : Int} (hx : (Lit.int .i64 x).wf = true) (h1 : lo ≤ x) (h2 : x ≤ hi) (hc : hi - lo < 1000000) (v : Value) :
    ∃ w', (Instr.mapUpdate t (.map (some B)) (.int .i64 x) v).run P w = .ok () w' ∧ MapO P k w' B lo hi z (fun y => if y = x then some v else m y) ∧ Out (· = B) w w' := by
  obtain ⟨n, D, ho, hks, hm⟩ := h
  have hsz := MapV.size_le hks (ho.tidy (int_keyed hk))
  have ho' : w.ownsMap P k heldV B (Maps.size D) D := by
    obtain ⟨es, c, hb, F, _, hD⟩ := ho
    exact ⟨es, c, hb, F, by rw [hD]; simp [Maps.size, length_sorted], hD⟩
  obtain ⟨w', hr, ho1, ht1⟩ := ho'.store (int_keyed hk) ht (by unfold maxLen; omega) (keyOf_int_mk hk hx) (d := .held v) (ps := []) rfl
  refine ⟨w', hr, ⟨_, _, ho1, ?_, fun y hy => ?_⟩, out_turned ht1⟩
  · obtain ⟨es, rfl, hes⟩ := hks
    refine ⟨_, rfl, fun p hp => ?_⟩
    rcases ChangeMaps.mem_insert_iff.1 hp with rfl | hp
    · exact ⟨x, rfl, h1, h2⟩
    · exact hes p (List.mem_filter.1 hp).1
  · by_cases e : y = x
    · subst e
      rw [atKey_put_same ho.isMap (show WideAt.IsKeyLit (.int .i64 y) from trivial), has_put_same ho.isMap (show WideAt.IsKeyLit (.int .i64 y) from trivial)]
      simp
    · rw [atKey_put_other (fun h => e (by cases h; rfl)), has_put_other (fun h => e (by cases h; rfl)), (hm y hy).1, (hm y hy).2]
      simp [e]
theorem drop (h : MapO P k w B lo hi z m) (hk : P.underlying k = some (.int .i64)) (ht : P.underlying t = some (.map k e)) {x : Int} (hx : (Lit.int .i64 x).wf = true) (ty : TypeId) :
    ∃ w', (Builtin.delete_ #[t, k] ty #[.map (some B), .int .i64 x]).run P w = .ok (.tuple #[]) w' ∧ MapO P k w' B lo hi z (fun y => if y = x then none else m y) ∧ Out (· = B) w w' := by
  obtain ⟨n, D, ho, hks, hm⟩ := h
  obtain ⟨w', hr, ho1, ht1⟩ := ho.drop (int_keyed hk) ht (keyOf_int_mk hk hx) ty
  refine ⟨w', hr, ⟨_, _, ho1, ?_, fun y hy => ?_⟩, out_turned ht1⟩
  · obtain ⟨es, rfl, hes⟩ := hks
    exact ⟨_, rfl, fun p hp => hes p (List.mem_filter.1 hp).1⟩
  · by_cases e : y = x
    · subst e
      rw [atKey_del_same, has_del_same]
      simp
    · rw [atKey_del_other (fun h => e (by cases h; rfl)), has_del_other (fun h => e (by cases h; rfl)), (hm y hy).1, (hm y hy).2]
      simp [e]
end MapO

section
variable {P : Program} {w : World} {ops : Array Oper} {rest : List Oper} {o : Oper} {a : Act} {Q : Exit → Act → World → Prop} {k t e : TypeId} {B : Nat} {lo hi : Int} {z : Value} {m : Int → Option Value}
theorem wpList_look_mapo (hg : o.guard = none) (mo x : Operand) (t : TypeId) (hop : o.op = Op.lookup t mo x false) (hk : P.underlying k = some (.int .i64)) (ht : P.underlying t = some (.map k e)) (hz : (zeroValue e).run P w = .ok z w) (h : MapO P k w B lo hi z m)
    (hm : a.eval mo = .map (some B)) {id : Int} (hx : a.eval x = .int .i64 id) (hid : (Lit.int .i64 id).wf = true) {v : Value} (hv : (m id).getD z = v) (hK : wpList P ops Q rest (a.put o.dst v) w) : wpList P ops Q (o :: rest) a w := by
  refine wpList_plain hg fun K' hK' => ?_
  have hr := h.look hk ht hz hid
  unfold Oper.wp
  simp [execOp, hop, hm, hx, hr, Result.andThen]
  rw [hv]
  exact hK' _ _ hK
theorem wpList_look_ok_mapo (hg : o.guard = none) (mo x : Operand) (t : TypeId) (hop : o.op = Op.lookup t mo x true) (hk : P.underlying k = some (.int .i64)) (ht : P.underlying t = some (.map k e)) (hz : (zeroValue e).run P w = .ok z w) (h : MapO P k w B lo hi z m)
    (hm : a.eval mo = .map (some B)) {id : Int} (hx : a.eval x = .int .i64 id) (hid : (Lit.int .i64 id).wf = true) {v : Value} (hv : (m id).getD z = v) {b : Bool} (hb : (m id).isSome = b) (hK : wpList P ops Q rest (a.put o.dst (.tuple #[v, .bool b])) w) : wpList P ops Q (o :: rest) a w := by
  refine wpList_plain hg fun K' hK' => ?_
  have hr := h.look_ok hk ht hz hid
  unfold Oper.wp
  simp [execOp, hop, hm, hx, hr, Result.andThen]
  rw [hv, hb]
  exact hK' _ _ hK
theorem wpList_drop_mapo (hg : o.guard = none) (mo x : Operand) (t k : TypeId) (hop : o.op = Op.call { callee := Callee.builtin Builtin.delete, args := #[mo, x], argTypes := #[t, k] }) (hk : P.underlying k = some (.int .i64)) (ht : P.underlying t = some (.map k e)) (h : MapO P k w B lo hi z m)
    (hm : a.eval mo = .map (some B)) {id : Int} (hx : a.eval x = .int .i64 id) (hid : (Lit.int .i64 id).wf = true)
    (hK : ∀ w', MapO P k w' B lo hi z (fun y => if y = id then none else m y) → Out (· = B) w w' → wpList P ops Q rest (a.put o.dst (.tuple #[])) w') : wpList P ops Q (o :: rest) a w := by
  refine wpList_plain hg fun K' hK' => ?_
  obtain ⟨w', hr, r1, r2⟩ := h.drop hk ht hid o.type
  unfold Oper.wp
  simp [execOp, hop, resolve, invoke, builtin, hm, hx, hr, Result.andThen]
  exact hK' _ _ (hK w' r1 r2)
end
end Go.Proofs.YtigmjgmkeoineaaDoor
