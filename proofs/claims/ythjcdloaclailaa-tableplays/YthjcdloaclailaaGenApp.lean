/-
  append of nothing: the slice as it was, whatever it lies in. No condition.
-/
import Derived.Test.YthjcdloaclailaaGenVec
namespace Go.Proofs.Ythjcdloaclailaa
open Go.RowKit Go.Deep

/-- append of nothing. -/
theorem run_append_nothing {P : Program} {w : World} {t e : TypeId} (ty : TypeId) {z : Value} {s bytes : Nat} (ht : P.underlying t = some (.slice e)) (hinfo : (P.info? e).map (fun i => (i.zero, i.size, i.bytes)) = some (some z, s, bytes))
    {p q : Option Addr} {n c c2 : Nat} (h : n ≤ c) :
    (Builtin.append_ #[t, t] ty #[.slice p n c, .slice q 0 c2]).run P w = .ok (.slice p n c) w := by
  obtain ⟨i, hi, hz, hsz, hby⟩ := info_parts hinfo
  cases q with
  | none =>
    cases p <;> simp [Builtin.append_, run_underlying ht, sizeOf, typeInfo, hi, Builtin.lenOf, h, Builtin.firstCells, storeCells]
  | some a =>
    have hfc := run_firstCells_some (P := P) w i.size 0 a 0 c2 [] (by simp) (fun j u hu => by simp at hu)
    cases p <;> simp [Builtin.append_, run_underlying ht, sizeOf, typeInfo, hi, Builtin.lenOf, h, hfc, storeCells]
theorem wpList_append_nothing {P : Program} {w : World} {ops : Array Oper} {rest : List Oper} {o : Oper} {a : Act} {Q : Exit → Act → World → Prop}
    (hg : o.guard = none) (so xo : Operand) (t : TypeId) (hop : o.op = Op.call { callee := Callee.builtin Builtin.append, args := #[so, xo], argTypes := #[t, t] })
    {e : TypeId} {z : Value} {s bytes : Nat} (ht : P.underlying t = some (.slice e)) (hinfo : (P.info? e).map (fun i => (i.zero, i.size, i.bytes)) = some (some z, s, bytes))
    {p q : Option Addr} {n c c2 : Nat} (hs : a.eval so = .slice p n c) (hx : a.eval xo = .slice q 0 c2) (h : n ≤ c) (hK : wpList P ops Q rest (a.put o.dst (.slice p n c)) w) : wpList P ops Q (o :: rest) a w := by
  refine wpList_plain hg fun K hK' => ?_
  have hr := run_append_nothing (P := P) (w := w) (p := p) (q := q) (c2 := c2) o.type ht hinfo h
  unfold Oper.wp execOp
  simp only [hop, resolve, invoke, builtin, Sem.run_bind, Sem.run_pure, Result.andThen_ok, List.map_toArray, List.map_cons, List.map_nil, hs, hx, hr]
  exact hK' _ _ hK
end Go.Proofs.Ythjcdloaclailaa
