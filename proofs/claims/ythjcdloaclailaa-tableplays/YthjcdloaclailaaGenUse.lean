/-
  What texts of several layers use: cells of a block, rows of numbers, append of one and of a whole slice, effects of a drawn region that are told by their slot, slices of numbers beside other objects, the sizes that Ceil gives. No condition but those told at each sentence.
-/
import Derived.Test.YthjcdloaclailaaMixCeil
import Derived.Test.YthjcdloaclailaaGenFlow
import Derived.Test.YthjcdloaclailaaGenApp
import Derived.Test.YthjcdloaclailaaGenSep
import Derived.Deep.Quiet
import Derived.BigQuiet
namespace Go.Proofs.Ythjcdloaclailaa.Us
open Go.RowKit Go.Deep

theorem hmx : Try.prog.follows .mixedOrders = true := by kernel_rfl
theorem cell_of {w : World} {b : Nat} {c : Array Value} {t : TypeId} {f : Nat × Nat} (h : w.heap[b]? = some (.cells c t f)) {k : Nat} {v : Value} (hk : c[k]? = some v) : w.cell? ⟨b, k, none⟩ = some v := by
  simp [World.cell?, h, hk]
theorem lt_of {w : World} {b : Nat} {o : Obj} (h : w.heap[b]? = some o) : b < w.heap.size := (Array.getElem?_eq_some_iff.1 h).1
theorem blk_set {w : World} {b : Nat} {cs : Array Value} {t : TypeId} (h : w.heap[b]? = some (.cells cs t (0, 0))) (j : Nat) (v : Value) : (w.setCell ⟨b, j, none⟩ v).heap[b]? = some (.cells (cs.setIfInBounds j v) t (0, 0)) := by
  simp [World.setCell, Array.getElem?_modify, h]
/-- The cells of a row of numbers. -/
def ivL (l : List Int) (j : Nat) : Value := .int .i64 (l.getD j 0)
theorem fr0 {w : World} {b : Nat} {c : Array Value} {t : TypeId} (h : w.heap[b]? = some (.cells c t (0, 0))) (k : Nat) : w.frozen? ⟨b, k, none⟩ = false := by simp [World.frozen?, h]
theorem cell_lt {w : World} {a : Addr} {v : Value} (h : w.cell? a = some v) : a.block < w.heap.size := by
  unfold World.cell? at h
  by_cases e : a.block < w.heap.size
  · exact e
  · rw [Array.getElem?_eq_none (by omega)] at h
    cases h
theorem infoN : (Try.prog.info? 3).map (fun i => (i.zero, i.size, i.bytes)) = some (some (.int .i64 0), 1, 8) := by kernel_rfl
theorem new_int (w : World) (u : Value) (y : TypeId) : ∀ j, j < 1 * 1 → (w.alloc (.cells #[u] y)).cell? ((⟨w.heap.size, 0, none⟩ : Addr).add j) = some u := fun j hj => by
  obtain rfl : j = 0 := by omega
  have e : (⟨w.heap.size, 0, none⟩ : Addr).add 0 = ⟨w.heap.size, 0, none⟩ := by unfold Addr.add; split <;> simp_all
  rw [e]
  exact cell_of (blk_alloc_new _ _) rfl
theorem ivL_push (q : List Int) (n : Int) : ∀ j, j < (q.length + 1) * 1 → (if j < q.length * 1 then ivL q j else .int .i64 n) = ivL (q ++ [n]) j := fun j hj => by
  by_cases h : j < q.length
  · rw [if_pos (by omega)]; simp [ivL, List.getElem?_append_left h]
  · rw [if_neg (by omega), show j = q.length by omega]; simp [ivL]
/-- append of none or more to a slice that has a block of its own. -/
theorem wpList_append_any {P : Program} {w : World} {ops : Array Oper} {rest : List Oper} {o : Oper} {a : Act} {Q : Exit → Act → World → Prop}
    (hg : o.guard = none) (so xo : Operand) (t : TypeId) (hop : o.op = Op.call { callee := Callee.builtin Builtin.append, args := #[so, xo], argTypes := #[t, t] })
    {e : TypeId} {z : Value} {s bytes : Nat} (ht : P.underlying t = some (.slice e)) (hinfo : (P.info? e).map (fun i => (i.zero, i.size, i.bytes)) = some (some z, s, bytes)) (hzs : z.cells.size = s)
    {p : Option Addr} {n c : Nat} {f : Nat → Value} (hs : a.eval so = .slice p n c) (h : Vec w e s p n c f)
    {xp : Option Addr} {m cx : Nat} {g : Nat → Value} (hx : a.eval xo = .slice xp m cx) (hc : 0 < m → ∃ ad, xp = some ad ∧ ∀ j, j < m * s → w.cell? (ad.add j) = some (g j)) (h1 : ∀ j, j < m * s → (g j).oneCell' = true) (hb : (n + m) * bytes ≤ 140737488355328) (h63 : n + m ≤ 9223372036854775807)
    (hK : ∀ p' c' w', Vec w' e s p' (n + m) c' (fun j => if j < n * s then f j else g (j - n * s)) → Out (In p) w w' → (p' = p ∨ p' = some ⟨w.heap.size, 0, none⟩) → wpList P ops Q rest (a.put o.dst (.slice p' (n + m) c')) w') :
    wpList P ops Q (o :: rest) a w := by
  by_cases hm : 0 < m
  · obtain ⟨ad, rfl, hc'⟩ := hc hm
    exact wpList_append_vec hg so xo t hop ht hinfo hzs hs h hx hm hc' h1 hb h63 hK
  · obtain rfl : m = 0 := by omega
    have hnc : n ≤ c := by
      rcases h with ⟨_, h1, h2⟩ | ⟨_, _, _, _, h3, _⟩
      · omega
      · exact h3
    exact wpList_append_nothing hg so xo t hop ht hinfo hs hx hnc (hK p c w (h.congr fun j hj => by rw [if_pos hj]) (Out.refl _ _) (.inl rfl))
theorem flow_val {P : Program} {ops : Array Oper} {Q : Exit → Act → World → Prop} {eff : List Nat} {e : Nat} {es : List Nat} {A : Act} {w : World} (d : Option Tmp) (v : Value) (w' : World) (o : Oper) (ho : ops[e]? = some o) (hd : o.dst = d) (hr : Runs P ops eff A w) (he : (execOp A.eval o).run P w = .ok (.value v) w') (hn : Flow P ops eff Q es (A.put d v) w') : Flow P ops eff Q (e :: es) A w := by
  subst hd
  exact flow_cons o v w' ho hr (Or.inl he) hn
theorem flow_ent {P : Program} {ops : Array Oper} {Q : Exit → Act → World → Prop} {eff : List Nat} {e : Nat} {es : List Nat} {A : Act} {w : World} (d : Option Tmp) (f : FuncId) (args : Array Value) (o : Oper) (ho : ops[e]? = some o) (hd : o.dst = d) (hr : Runs P ops eff A w) (he : (execOp A.eval o).run P w = .ok (.enter f args) w) (hn : Calls P f args w fun e w' => ∃ v, e = .returned v ∧ Flow P ops eff Q es (A.put d v) w') : Flow P ops eff Q (e :: es) A w := by
  subst hd
  exact flow_call o f args ho hr he hn
def obV (p : Option Addr) (c : Nat) (q : List Int) : Ob := obVec 3 1 p q.length c (ivL q)
variable {W w w' : World} {l : List Ob} {i j b A N c d : Nat} {p r : Option Addr} {q : List Int} {L : Int}
/-- Two slices that hold the same numbers. -/
theorem ints_g {w : World} {p r : Option Addr} {n c d : Nat} {q : List Int} (hp : Vec w 3 1 p n c (ivL q)) (hq : Vec w 3 1 r n d (ivL q)) (hn : n ≤ 1000000) :
    Calls Try.prog 23 #[.slice p n c, .slice r n d] w fun e w' => e = .returned (.bool true) ∧ ∃ m, w' = w.drewN m := by
  have hx : ((n : Int) != (n : Int)) = false := by simp
  go_enter Try.func23, Try.ntmps23
  go_wp2
  go_loopw [5] (fun i wr => ∃ k d : Nat, k ≤ n ∧ i = .int .i64 k ∧ wr = w.drewN d) (fun i _ => n - (intOf i).toNat)
  case atStart => exact ⟨0, 0, by omega, rfl, rfl⟩
  case round =>
    obtain ⟨k, m, hk, rfl, rfl⟩ := hrel
    by_cases hlt : k < n
    · obtain ⟨A, rfl, lA, hA, _, nA⟩ := hp.opens (by omega)
      obtain ⟨B, rfl, lB, hB, _, nB⟩ := hq.opens (by omega)
      have c1 : w.cell? ⟨A, k, none⟩ = some (.int .i64 (q.getD k 0)) := hA k (by omega)
      have c2 : w.cell? ⟨B, k, none⟩ = some (.int .i64 (q.getD k 0)) := hB k (by omega)
      obtain ⟨z, hz⟩ : ∃ z, z = q.getD k 0 := ⟨_, rfl⟩
      rw [← hz] at c1 c2
      have hd : decide ((k : Int) < (n : Int)) = true := by rw [decide_eq_true_eq]; omega
      have hzz : (z != z) = false := by simp
      clear hp hq hA hB hz
      go_wp2
      go_quiet (fail)
      go_wp2
      go_roundw
      case rel => exact ⟨k + 1, _, by omega, by go_num, rfl⟩
      case measure => simp [intOf]; omega
    · obtain rfl : k = n := by omega
      have hd : decide ((k : Int) < (k : Int)) = false := by rw [decide_eq_false_iff_not]; omega
      go_wp2
      go_ret
      exact ⟨rfl, _, rfl⟩
theorem ints_s (h : Apt W w l) (hi : l[i]? = some (obV p c q)) (hj : l[j]? = some (obV r d q)) (hn : q.length ≤ 1000000) :
    Calls Try.prog 23 #[.slice p q.length c, .slice r q.length d] w fun e w' => e = .returned (.bool true) ∧ Apt W w' l := by
  refine (ints_g (h.all i _ hi) (h.all j _ hj) hn).mono ?_
  rintro e w' ⟨rfl, m, rfl⟩
  exact ⟨rfl, h.drewN m⟩
/-- What a slice brings to append. -/
theorem src_s (h : Apt W w l) (hi : l[i]? = some (obV p c q)) {n : Nat} (hn : n = q.length) (hp : 0 < n) : ∃ ad, p = some ad ∧ ∀ j, j < n * 1 → w.cell? (ad.add j) = some (ivL q j) := by
  have hv : Vec w 3 1 p q.length c (ivL q) := h.all i _ hi
  obtain ⟨B, rfl, lB, cB, _, _⟩ := hv.opens (by omega)
  refine ⟨_, rfl, fun j hj => ?_⟩
  have e : (⟨B, 0, none⟩ : Addr).add j = ⟨B, j, none⟩ := by unfold Addr.add; split <;> simp_all
  rw [e]
  exact cB j (by omega)
/-- append of one number. -/
theorem appended_s {x : Int} {tmp : Array Value} {y : TypeId} {p' : Option Addr} {c' : Nat} {w2 : World} (h : Apt W w l) (hi : l[i]? = some (obV p c q)) (hv : Vec w2 3 1 p' (q.length + 1) c' (fun j => if j < q.length * 1 then ivL q j else .int .i64 x)) (o : Out (In p) (w.alloc (.cells tmp y)) w2)
    (hp : p' = p ∨ p' = some ⟨(w.alloc (.cells tmp y)).heap.size, 0, none⟩) : Apt W w2 (l.set i (obV p' c' (q ++ [x]))) := by
  have g : Grown w (w.alloc (.cells tmp y)) := (Grown.refl w).alloc _ _
  have hv' : Vec w2 3 1 p' (q ++ [x]).length c' (ivL (q ++ [x])) := by
    rw [List.length_append]
    exact hv.congr (ivL_push q x)
  refine h.upd hi hv' ⟨Out.after g o, fun k hk => ?_⟩
  rcases hp with rfl | rfl
  · exact .inl hk
  · have hk : In (some ⟨(w.alloc (.cells tmp y)).heap.size, 0, none⟩) k := hk
    rw [hk.eq, nblk_alloc]; exact .inr (by omega)
/-- append of a whole slice. -/
theorem joined_s {z : List Int} {p' : Option Addr} {c' : Nat} {w2 : World} (h : Apt W w l) (hi : l[i]? = some (obV p c q)) (hv : Vec w2 3 1 p' (q.length + z.length) c' (fun j => if j < q.length * 1 then ivL q j else ivL z (j - q.length * 1))) (o : Out (In p) w w2)
    (hp : p' = p ∨ p' = some ⟨w.heap.size, 0, none⟩) : Apt W w2 (l.set i (obV p' c' (q ++ z))) := by
  have hv' : Vec w2 3 1 p' (q ++ z).length c' (ivL (q ++ z)) := by
    rw [List.length_append]
    refine hv.congr fun j hj => ?_
    by_cases e : j < q.length
    · rw [if_pos (by omega)]; simp [ivL, List.getElem?_append_left e]
    · rw [if_neg (by omega)]; simp [ivL, List.getElem?_append_right (Nat.le_of_not_lt e)]
  refine h.upd hi hv' ⟨o, fun k hk => ?_⟩
  rcases hp with rfl | rfl
  · exact .inl hk
  · have hk : In (some ⟨w.heap.size, 0, none⟩) k := hk
    rw [hk.eq]; exact .inr (Nat.le_refl _)
def lenV : Value → Nat
  | .slice _ n _ => n
  | _ => 0
/-- The first k numbers. -/
def upto (k : Nat) : List Int := (List.range k).map fun i : Nat => (i : Int)
theorem upto_len (k : Nat) : (upto k).length = k := by simp [upto]
theorem upto_succ (k : Nat) : upto (k + 1) = upto k ++ [(k : Int)] := by simp [upto, List.range_succ]
theorem upto_get {k i : Nat} (h : i < k) : (upto k).getD i 0 = (i : Int) := by simp [upto, List.getD_eq_getElem?_getD, h]
/-- Its size is a power of two, the least that is as many. -/
theorem size_all (n : Int) : ∃ N : Nat, 1 ≤ N ∧ N ≤ 4096 ∧ ceilI n 1 4096 = (N : Int) ∧ (bits .and .i64 (N : Int) ((N : Int) - 1) == 0) = true ∧ (n ≤ (N : Int) ∨ N = 4096) ∧ (N = 1 ∨ (N : Int) / 2 < n) := by
  obtain ⟨h1, h2, h3, h4, h5⟩ := Up.props 62 1 (Up.start (n := n) (l := 1) (m := 4096) (by decide) (by decide) (by decide) (by decide))
  obtain ⟨c, hc⟩ : ∃ c, c = ceilI n 1 4096 := ⟨_, rfl⟩
  rw [← hc] at h1 h2 h3 h4 h5 ⊢
  have e : ((c.toNat : Nat) : Int) = c := by omega
  refine ⟨c.toNat, by omega, by omega, e.symm, ?_, by omega, by omega⟩
  rw [e, isP_bits c (by omega) (by omega)]
  exact h1
end Go.Proofs.Ythjcdloaclailaa.Us
