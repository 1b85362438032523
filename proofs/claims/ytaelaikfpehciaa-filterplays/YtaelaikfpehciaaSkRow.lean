/-
  What Row of package sketch does when it is called: a new row of the counters; and an append to a new row that has room.
-/
import Derived.Test.YtaelaikfpehciaaSkAdd
import Derived.Deep.RegionWith
namespace Go.Proofs.Ytaelaikfpehciaa
open Go.RowKit Go.Deep

/-- append to a row of the call's own that has room. -/
theorem wpList_append_row {P : Program} (w : World) {ops : Array Oper} {rest : List Oper} {o : Oper} {a : Act} {Q : Exit → Act → World → Prop}
    (hg : o.guard = none) (s x : Operand) (t : TypeId) (hop : o.op = Op.call { callee := Callee.builtin Builtin.append, args := #[s, x], argTypes := #[t, t] })
    (e : TypeId) (z : Value) (bytes : Nat) (h1 : P.underlying t = some (.slice e)) (hinfo : (P.info? e).map (fun i => (i.zero, i.size, i.bytes)) = some (some z, 1, bytes))
    (g k cap : Nat) (f : Nat → Value) (hs : a.eval s = .slice (some ⟨g, 0, none⟩) k cap) (hrow : w.rowIs g e cap f)
    (ad : Addr) (m c : Nat) (nf : Nat → Value) (hx : a.eval x = .slice (some ad) m c)
    (hc : ∀ j, j < m → w.cell? (ad.add j) = some (nf j)) (h1c : ∀ j, j < m → (nf j).oneCell' = true) (b1 : k + m ≤ cap)
    (hK : ∀ w', w'.rowIs g e cap (fun j => if j < k then f j else if j < k + m then nf (j - k) else f j) → Off g 1 w w' → wpList P ops Q rest (a.put o.dst (.slice (some ⟨g, 0, none⟩) (k + m) cap)) w') :
    wpList P ops Q (o :: rest) a w := by
  refine wpList_plain hg fun K hK' => ?_
  obtain ⟨i, hi, hz, hsz, hb⟩ := info_parts hinfo
  obtain ⟨cur, hh, hcs, hcur⟩ := hrow
  have hl : ((List.range m).map nf).length = m * i.size := by rw [hsz]; simp
  have hrun := run_append_room (P := P) w t o.type e i h1 hi g k cap cur hh ad m c ((List.range m).map nf) hl (fun j u hj => by
      obtain ⟨hlt, he⟩ := List.getElem?_eq_some_iff.1 hj
      simp at hlt
      rw [hc j hlt, ← he]; simp) (fun u hu => by
      obtain ⟨j, hj, rfl⟩ := List.mem_map.1 hu
      exact h1c j (by simpa using hj)) b1 (by rw [hl, hsz, hcs]; omega)
  unfold Oper.wp
  simp [execOp, hop, resolve, invoke, builtin, hs, hx, hrun, Result.andThen]
  refine hK' _ _ (hK _ ⟨_, setRow_heap w g cur _ e _ hh, ?_, fun j hj => ?_⟩ (off_setRow hh))
  · simp [hsz]; omega
  · have hlen : ((cur.toList.take (k * i.size)).length) = k := by simp [hsz]; omega
    rw [hsz]
    simp only [List.getElem?_toArray]
    rw [hsz] at hlen
    by_cases e1 : j < k
    · rw [List.getElem?_append_left (by omega), List.getElem?_take, if_pos (by omega), if_pos e1, Array.getElem?_toList]
      exact hcur j hj
    · rw [List.getElem?_append_right (by omega), hlen, if_neg e1]
      by_cases e2 : j < k + m
      · rw [List.getElem?_append_left (by simp; omega), if_pos e2, List.getElem?_map, List.getElem?_range (by omega)]
        rfl
      · rw [List.getElem?_append_right (by simp; omega), if_neg e2, List.getElem?_drop, Array.getElem?_toList]
        simp only [List.length_map, List.length_range, Nat.mul_one]
        rw [show k + m + (j - k - m) = j by omega]
        exact hcur j hj

theorem run_make_cap (P : Program) (t e : TypeId) (z : Value) (bytes : Nat) (ht : P.underlying t = some (.slice e)) (hinfo : (P.info? e).map (fun i => (i.zero, i.size, i.bytes)) = some (some z, 1, bytes)) (hz1 : z.cells = #[z])
    (n : Nat) (hbytes : bytes * n ≤ 281474976710656) (h63 : n ≤ 9223372036854775807) (C : Int) (hC : C = (n : Int)) (w : World) :
    (Instr.makeSlice t (.int .i64 0) (.int .i64 C)).run P w = .ok (.slice (some ⟨w.heap.size, 0, none⟩) 0 n) (w.alloc (.cells (madeCells #[z] n) e)) := by
  obtain ⟨i, hi, hz, hs, hb⟩ := info_parts hinfo
  subst hC
  have hb' : (i.bytes : Int) * (n : Int) ≤ 281474976710656 := by
    have h : ((i.bytes * n : Nat) : Int) ≤ 281474976710656 := by rw [hb]; omega
    rwa [Int.natCast_mul] at h
  have hr := run_make (P := P) w t e i z ht hi hz .i64 .i64 0 n (by omega) (by omega) hb' (by omega)
  simp only [Int.toNat_natCast, hs, Nat.mul_one, hz1, Int.toNat_zero] at hr
  exact hr

/-- The first j words' counters; zeros behind. -/
def rowK (f : Nat → Nat → BitVec 64) (i j t : Nat) : Value := .int .i64 (if t < 16 * j then gI (f i (t / 16)) (t % 16) else 0)
theorem row_start (f : Nat → Nat → BitVec 64) (i m : Nat) (w : World) : (w.alloc (.cells (madeCells #[.int .i64 0] (16 * m)) 3)).drew.rowIs w.heap.size 3 (16 * m) (rowK f i 0) :=
  ((World.rowIs_made w (.int .i64 0) (16 * m) 3).congr fun t _ => by unfold rowK; rw [if_neg (by omega)]).drew
theorem row_end {f : Nat → Nat → BitVec 64} {i m B : Nat} {w : World} (h : w.rowIs B 3 (16 * m) (rowK f i m)) : w.rowIs B 3 (16 * m) (fun t => .int .i64 (gI (f i (t / 16)) (t % 16))) :=
  h.congr fun t ht => by unfold rowK; rw [if_pos ht]

theorem row_kept {f : Nat → Nat → BitVec 64} {i j M B : Nat} {wr w1 : World} (h : wr.rowIs B 3 M (rowK f i j)) (g : Grown wr w1) (c : Array Value) (t : TypeId) : (w1.alloc (.cells c t)).rowIs B 3 M (rowK f i j) :=
  (h.of_block (grown_block g h.lt)).alloc _
theorem row_cells (x : BitVec 64) (w1 : World) (k : Nat) (hk : k < 16) : (w1.alloc (.cells (row (gI x)) 83)).cell? ((⟨w1.heap.size, 0, none⟩ : Addr).add k) = some (.int .i64 (gI x k)) := by
  have e : (⟨w1.heap.size, 0, none⟩ : Addr).add k = ⟨w1.heap.size, k, none⟩ := by simp [Addr.add]; omega
  rw [e]
  simp only [World.cell?, blk_alloc_new]
  exact row_get _ k hk
theorem row_step {f : Nat → Nat → BitVec 64} {i j m B : Nat} {w2 : World}
    (h : w2.rowIs B 3 (16 * m) (fun t => if t < 16 * j then rowK f i j t else if t < 16 * j + 16 then .int .i64 (gI (f i j) (t - 16 * j)) else rowK f i j t)) : w2.rowIs B 3 (16 * m) (rowK f i (j + 1)) := by
  refine h.congr fun t ht => ?_
  show (if t < 16 * j then _ else _) = _
  unfold rowK
  by_cases e1 : t < 16 * j
  · rw [if_pos e1, if_pos e1, if_pos (by omega)]
  · rw [if_neg e1, if_neg e1]
    by_cases e2 : t < 16 * j + 16
    · rw [if_pos e2, if_pos (by omega), show t / 16 = j by omega, show t % 16 = t - 16 * j by omega]
    · rw [if_neg e2, if_neg (by omega)]
theorem row_sk {w wr w1 w2 : World} {b : Nat} {seed n : Int} {m : Nat} {f : Nat → Nat → BitVec 64} (h : Sk wr b seed n m f) (h0 : Sk w b seed n m f) (g : Grown wr w1) (c : Array Value) (t : TypeId) (o : Off w.heap.size 1 (w1.alloc (.cells c t)) w2) : Sk w2 b seed n m f :=
  Tb.off (Tb.grown h (g.alloc c t)) o (by have := Tb.last h0; omega)
theorem row_grown {w wr w1 w2 : World} (h : Grown w wr) (g : Grown wr w1) (c : Array Value) (t : TypeId) (o : Off w.heap.size 1 (w1.alloc (.cells c t)) w2) : Grown w w2 := o.grown (grownTrans h (g.alloc c t)) (Nat.le_refl _)

end Go.Proofs.Ytaelaikfpehciaa
