/-
  What Play of package climb does when it is called: the climb and the quota told here, of any capacity, any period, and any slice of bools that was there; memory has at most new blocks. Condition: the numbers are of the Go type int.
-/
import Derived.Test.YtlmcopenbeammaaClTurn
import Derived.Test.YtlmcopenbeammaaGenFlow
import Derived.Test.YtlmcopenbeammaaGrQt
namespace Go.Proofs.Ytlmcopenbeammaa.Cm
open Go.RowKit Go.Deep

theorem results_row_row {P : Program} {fn : Func} {p q : Tmp} {ty uy : TypeId} (h : fn.results = #[.cell p ty, .cell q uy]) (tmps : Array Value) (w : World) (g i : Nat) (t u : TypeId) (cs ds : Array Value) (fr gr : Nat × Nat) (d e : TypeDesc)
    (hp : tmps.getD p undef = .pointer (some ⟨g, 0, none⟩)) (hg : w.heap[g]? = some (.cells cs t fr)) (hq : tmps.getD q undef = .pointer (some ⟨i, 0, none⟩)) (hi : w.heap[i]? = some (.cells ds u gr))
    (hu : P.underlying ty = some d) (hd : (match d with | .struct _ | .array _ _ => true | _ => false) = true) (hs : (P.info? ty).map (·.size) = some cs.size)
    (hv : P.underlying uy = some e) (he : (match e with | .struct _ | .array _ _ => true | _ => false) = true) (hr : (P.info? uy).map (·.size) = some ds.size) :
    (results fn tmps).run P w = .ok (.tuple #[.agg cs, .agg ds]) w := by
  have hp' : tmps[p]?.getD undef = .pointer (some ⟨g, 0, none⟩) := by simpa using hp
  have hq' : tmps[q]?.getD undef = .pointer (some ⟨i, 0, none⟩) := by simpa using hq
  simp [results, h, hp', hq', asAddr, run_loadVar_row w g t ty cs fr d hg hu hd hs, run_loadVar_row w i u uy ds gr e hi hv he hr]

theorem hmx : Try.prog.follows .mixedOrders = true := by kernel_rfl
/-- A climb and a window. -/
structure Cq where
  h : Int
  m : Int
  l : Int
  s : Int
  x : Int
/-- Behind one hit, or miss, more: a climb as it is counted. -/
def Cq.cnt (q : Cq) (b : Bool) : Cq := ⟨if b then cc (cc q.h + 1) else cc q.h, if b then cc q.m else cc (cc q.m + 1), cr q.l, cs q.s, q.x⟩
def Cq.trn (q : Cq) (c : Int) : Cq := ⟨0, 0, rt (cc q.h) (cc q.m), st (fa q.h q.m q.l q.s) (rt (cc q.h) (cc q.m) - cr q.l) c, ws (wh c) q.x (fa q.h q.m q.l q.s)⟩
def Cq.nx (q : Cq) (c p : Int) (b : Bool) : Cq := if 1 ≤ p ∧ p ≤ cc (q.cnt b).h + cc (q.cnt b).m then (q.cnt b).trn c else q.cnt b
/-- Behind the first of a row. -/
def pst (c p : Int) (z : Nat → Bool) : Nat → Cq
  | 0 => ⟨0, 0, 0, fs c, wo c⟩
  | k + 1 => (pst c p z k).nx c p (z k)

/-- A slice of bools that is there: it has none, or they lie in a block. -/
def Sb (w : World) (a : Option Addr) (len : Nat) (z : Nat → Bool) : Prop := len = 0 ∨ ∃ b off, a = some ⟨b, off, none⟩ ∧ b < w.heap.size ∧ ∀ i, i < len → w.cell? ⟨b, off + i, none⟩ = some (.bool (z i))
theorem Sb.grown {w w' : World} {a : Option Addr} {len : Nat} {z : Nat → Bool} (h : Sb w a len z) (g : Grown w w') : Sb w' a len z := by
  rcases h with h | ⟨b, off, e, hb, hc⟩
  · exact .inl h
  · exact .inr ⟨b, off, e, Nat.lt_of_lt_of_le hb g.2.2, fun i hi => keys_cell (hc i hi) hb g⟩
theorem _root_.Go.Proofs.Ytlmcopenbeammaa.Qb.free {w : World} {b : Nat} {c x p : Int} (h : Qb w b c x p) : w.frozen? ⟨b, 0, none⟩ = false ∧ w.frozen? ⟨b, 1, none⟩ = false ∧ w.frozen? ⟨b, 2, none⟩ = false := by
  unfold Qb at h
  simp [World.frozen?, h]
theorem _root_.Go.Proofs.Ytlmcopenbeammaa.Qb.other {w : World} {b : Nat} {c x p : Int} (k : Qb w b c x p) {a : Addr} (hne : b ≠ a.block) (v : Value) : Qb (w.setCell a v) b c x p := (blk_setCell_other _ _ _ _ hne).trans k
theorem _root_.Go.Proofs.Ytlmcopenbeammaa.Qb.off {w W : World} {b d n : Nat} {c x p : Int} (k : Qb w b c x p) (o : Off d n w W) (hne : b < d ∨ d + n ≤ b) : Qb W b c x p := (o.block b k.lt hne).trans k
theorem _root_.Go.Proofs.Ytlmcopenbeammaa.Qb.set3 {w : World} {b : Nat} {c x p : Int} (k : Qb w b c x p) (c' x' p' : Int) :
    Qb (((w.setCell ⟨b, 0, none⟩ (.int .i64 c')).setCell ⟨b, 1, none⟩ (.int .i64 x')).setCell ⟨b, 2, none⟩ (.int .i64 p')) b c' x' p' := blk_set (blk_set (blk_set k 0 _) 1 _) 2 _
/-- What Play keeps while it goes over its row: its climb and its quota in the blocks B and D, the results' in A and A + 1. -/
structure Pl (w wr : World) (B D : Nat) (c : Int) (q : Cq) : Prop where
  cb : Cb wr B q.h q.m q.l q.s
  qb : Qb wr D (wh c) q.x (pr (wh c) q.x)
  ra : Cb wr w.heap.size 0 0 0 0
  rq : Qb wr (w.heap.size + 1) 0 0 0
  g : Grown w wr
theorem Pl.grown {w wr W : World} {B D : Nat} {c : Int} {q : Cq} (h : Pl w wr B D c q) (g : Grown wr W) : Pl w W B D c q :=
  ⟨h.cb.grown g, (h.qb).grown g, h.ra.grown g, h.rq.grown g, grownTrans h.g g⟩
/-- Its climb is stored anew. -/
theorem Pl.climb {w wr W : World} {B D : Nat} {c : Int} {q : Cq} (k : Pl w wr B D c q) {h m l s : Int} (hb : w.heap.size + 2 ≤ B) (hd : B < D) (kb : Cb W B h m l s) (o : Off B 1 wr W) : Pl w W B D c ⟨h, m, l, s, q.x⟩ :=
  ⟨kb, k.qb.off o (by omega), k.ra.off o (by omega), k.rq.off o (by omega), o.grown k.g (by omega)⟩

/-- Its quota is stored anew. -/
theorem Pl.quota {w wr W : World} {B D : Nat} {c : Int} {q : Cq} (k : Pl w wr B D c q) {x : Int} (hb : w.heap.size + 2 ≤ B) (hd : B < D) (kb : Qb W D (wh c) x (pr (wh c) x)) (o : Off D 1 wr W) : Pl w W B D c ⟨q.h, q.m, q.l, q.s, x⟩ :=
  ⟨k.cb.off o (by omega), kb, k.ra.off o (by omega), k.rq.off o (by omega), o.grown k.g (by omega)⟩

end Go.Proofs.Ytlmcopenbeammaa.Cm
