/-
  What Drain of package ring does when it is called. No condition but those told at each sentence.
-/
import Derived.Test.YtbboomhgigaobaaRgMem
import Derived.Laws.CopyOwn
namespace Go.Proofs.Ytbboomhgigaobaa.Rn
open Go.RowKit Go.Deep
variable {w w' : World} {b N f : Nat} {q : List Int} {L : Int}

/-- copy into a block, from place off on. -/
theorem run_copy_blk {P : Program} {w : World} {T e : TypeId} (ty : TypeId) (hu : P.underlying T = some (.slice e)) (hsz : (P.info? e).map (·.size) = some 1) {g off : Nat} {cur : Array Value} {t : TypeId} (hg : w.heap[g]? = some (.cells cur t (0, 0))) (cs : List Value)
    {dp sp : Option Addr} {dLen dCap sLen sCap : Nat} (hn : cs.length = Nat.min sLen dLen) (hpos : 0 < cs.length → dp = some ⟨g, off, none⟩ ∧ ∃ ad, sp = some ad ∧ ∀ j v, cs[j]? = some v → w.cell? (ad.add j) = some v)
    (hfit : off + cs.length ≤ cur.size) (h1 : ∀ v ∈ cs, v.oneCell' = true) :
    ∃ w' cur', (Builtin.copy_ #[T, T] ty #[.slice dp dLen dCap, .slice sp sLen sCap]).run P w = .ok (goInt cs.length) w' ∧ w'.heap[g]? = some (.cells cur' t (0, 0)) ∧ cur'.size = cur.size ∧ (∀ j, cur'[j]? = if off ≤ j ∧ j < off + cs.length then cs[j - off]? else cur[j]?) ∧ Out (· = g) w w' := by
  by_cases h0 : cs.length = 0
  · obtain rfl : cs = [] := List.eq_nil_of_length_eq_zero h0
    refine ⟨w, cur, run_copy_none (P := P) w T T ty e dp sp dLen dCap sLen sCap hu hsz (by simpa using hn.symm), hg, rfl, fun j => ?_, Out.refl _ _⟩
    rw [if_neg (fun x => by have := x.2; simp at this; omega)]
  · obtain ⟨rfl, ad, rfl, hsrc⟩ := hpos (by omega)
    refine ⟨_, _, run_copy_row (P := P) w T T ty e g off dLen dCap ad sLen sCap cur t cs hu hsz hg hn hsrc hfit h1, setRow_heap w g cur _ t _ hg, ?_, fun j => ?_, Out.of_off (off_setRow hg) rfl⟩
    · simp; omega
    · simp only [List.getElem?_toArray, List.append_assoc]
      have hl : (cur.toList.take off).length = off := by simp; omega
      by_cases e1 : j < off
      · rw [if_neg (by omega), List.getElem?_append_left (by omega), List.getElem?_take, if_pos e1, Array.getElem?_toList]
      · rw [List.getElem?_append_right (by omega), hl]
        by_cases e2 : j < off + cs.length
        · rw [if_pos ⟨by omega, e2⟩, List.getElem?_append_left (by omega)]
        · rw [if_neg (by omega), List.getElem?_append_right (by omega), List.getElem?_drop, Array.getElem?_toList]
          congr 1; omega
theorem exec_copy {P : Program} {o : Oper} {A : Act} {w w' : World} {d s : Operand} {T : TypeId} {x y v : Value} (hop : o.op = Op.call { callee := Callee.builtin Builtin.copy, args := #[d, s], argTypes := #[T, T] }) (hd : A.eval d = x) (hs : A.eval s = y) (hr : (Builtin.copy_ #[T, T] o.type #[x, y]).run P w = .ok v w') : (execOp A.eval o).run P w = .ok (.value v) w' := by
  unfold execOp
  simp only [hop, resolve, invoke, builtin, Sem.run_bind, Sem.run_pure, Result.andThen_ok, List.map_toArray, List.map_cons, List.map_nil, hd, hs, hr]
theorem flow_val {P : Program} {ops : Array Oper} {Q : Exit → Act → World → Prop} {eff : List Nat} {e : Nat} {es : List Nat} {A : Act} {w : World} (d : Option Tmp) (v : Value) (w' : World) (o : Oper) (ho : ops[e]? = some o) (hd : o.dst = d) (hr : Runs P ops eff A w) (he : (execOp A.eval o).run P w = .ok (.value v) w') (hn : Flow P ops eff Q es (A.put d v) w') : Flow P ops eff Q (e :: es) A w := by
  subst hd
  exact flow_cons o v w' ho hr (Or.inl he) hn
theorem flow_ent {P : Program} {ops : Array Oper} {Q : Exit → Act → World → Prop} {eff : List Nat} {e : Nat} {es : List Nat} {A : Act} {w : World} (d : Option Tmp) (f : FuncId) (args : Array Value) (o : Oper) (ho : ops[e]? = some o) (hd : o.dst = d) (hr : Runs P ops eff A w) (he : (execOp A.eval o).run P w = .ok (.enter f args) w) (hn : Calls P f args w fun e w' => ∃ v, e = .returned v ∧ Flow P ops eff Q es (A.put d v) w') : Flow P ops eff Q (e :: es) A w := by
  subst hd
  exact flow_call o f args ho hr he hn
def ints (l : List Int) : List Value := l.map (.int .i64)
theorem ints_get {l : List Int} {j : Nat} (h : j < l.length) : (ints l)[j]? = some (ivL l j) := by
  unfold ints ivL
  rw [List.getElem?_map, List.getD_eq_getElem?_getD, List.getElem?_eq_getElem h]; rfl
theorem ints_one {l : List Int} : ∀ v ∈ ints l, v.oneCell' = true := fun v hv => by
  obtain ⟨x, _, rfl⟩ := List.mem_map.1 hv; rfl
theorem ints_len (l : List Int) : (ints l).length = l.length := by simp [ints]

theorem drain_g (h : Rg w b N f q L) :
    Calls Try.prog 60 #[ptr (b + 1)] w fun e w' => e = .returned (.slice (some ⟨w.heap.size, 0, none⟩) q.length q.length) ∧ Vec w' 3 1 (some ⟨w.heap.size, 0, none⟩) q.length q.length (ivL q) ∧ Rg w' b N 0 [] L ∧ Out (rgF b) w w' := by
  obtain ⟨c0, c1, c2, c3⟩ := h.cells
  have hf := h.lt
  have hle := h.le
  have hm := h.most
  have hb := h.last
  have H : Hid (Rg w b N f q L) := h
  obtain ⟨k, hk⟩ : ∃ k, Hid (k = q.length) := ⟨_, rfl⟩
  rw [← hk.out] at c2 hle ⊢
  have hmk := run_make_row' (P := Try.prog) 32 3 (.int .i64 0) 8 Try.underlying32 infoN rfl .i64 .i64 k (by omega) (by omega)
  have hmx : Try.prog.follows .mixedOrders = true := by kernel_rfl
  clear h
  unfold ptr at *
  go_enter Try.func60, Try.ntmps60
  go_wp2
  have hnf : ¬ N = f := by omega
  obtain ⟨n1, h1⟩ : ∃ n1, n1 = min (N - f) k := ⟨_, rfl⟩
  have hlq : k = q.length := hk.out
  have gA : Grown w (w.alloc (.cells (madeCells #[Value.int .i64 0] k) 3)).drew := ((Grown.refl w).alloc _ _).drew
  have KA : Rg (w.alloc (.cells (madeCells #[Value.int .i64 0] k) 3)).drew b N f q L := H.out.grown gA
  have hg0 : (w.alloc (.cells (madeCells #[Value.int .i64 0] k) 3)).drew.heap[w.heap.size]? = some (.cells (madeCells #[Value.int .i64 0] k) 3 (0, 0)) := blk_alloc_new w _
  have addB : ∀ (B o j : Nat), (⟨B, o, none⟩ : Addr).add j = ⟨B, o + j, none⟩ := fun B o j => by unfold Addr.add; split <;> simp_all
  have l1 : (ints (q.take n1)).length = n1 := by rw [ints_len, List.length_take]; omega
  have l2 : (ints (q.drop n1)).length = k - n1 := by rw [ints_len, List.length_drop]; omega
  obtain ⟨w2, cur2, r2, g2, z2, v2, o2⟩ := run_copy_blk (P := Try.prog) (T := 32) (e := 3) 3 Try.underlying32 (by kernel_rfl) hg0 (off := 0) (ints (q.take n1)) (dp := some ⟨w.heap.size, 0, none⟩) (sp := some ⟨b, f, none⟩) (dLen := k) (dCap := k) (sLen := N - f) (sCap := N - f)
    (by rw [l1]; exact h1) (fun _ => ⟨rfl, _, rfl, fun j v hj => by
      have hjl : j < n1 := by rw [← l1]; exact (List.getElem?_eq_some_iff.1 hj).1
      rw [ints_get (by rw [List.length_take]; omega)] at hj
      rw [addB, ← hj, show f + j = pl f j N by unfold pl; rw [if_pos (by omega)], KA.get (by omega)]
      unfold ivL
      rw [List.getD_eq_getElem?_getD, List.getD_eq_getElem?_getD, List.getElem?_take, if_pos hjl]⟩) (by rw [l1, madeSize]; omega) ints_one
  rw [l1] at r2
  have oA : Out (fun x => w.heap.size ≤ x) w w2 := (Out.of_grown gA _).trans o2 (fun x hx => Or.inr (by omega))
  have K2 : Rg w2 b N f q L := H.out.out oA fun x hx hf => by have := H.out.foot_lt hx; omega
  have hg2 : w2.drew.heap[w.heap.size]? = some (.cells cur2 3 (0, 0)) := g2
  obtain ⟨ad, had, HAD⟩ : ∃ ad : Addr, ((if k = n1 then some ⟨w.heap.size, 0, none⟩ else some ⟨w.heap.size, n1, none⟩) : Option Addr) = some ad ∧ Hid (n1 < k → ad = ⟨w.heap.size, n1, none⟩) := by
    by_cases e : k = n1
    · exact ⟨_, if_pos e, fun x => by omega⟩
    · exact ⟨_, if_neg e, fun _ => rfl⟩
  obtain ⟨w3, cur3, r3, g3, z3, v3, o3⟩ := run_copy_blk (P := Try.prog) (T := 32) (e := 3) 3 Try.underlying32 (by kernel_rfl) hg2 (off := n1) (ints (q.drop n1)) (dp := some ad) (sp := some ⟨b, 0, none⟩) (dLen := k - n1) (dCap := k - n1) (sLen := N) (sCap := N)
    (by rw [l2]; show k - n1 = min N (k - n1); omega) (fun hp => ⟨by rw [HAD.out (by rw [l2] at hp; omega)], _, rfl, fun j v hj => by
      have hjl : j < k - n1 := by rw [← l2]; exact (List.getElem?_eq_some_iff.1 hj).1
      rw [ints_get (by rw [List.length_drop]; omega)] at hj
      rw [addB, ← hj, show 0 + j = pl f (n1 + j) N by unfold pl; rw [if_neg (by omega)]; omega, (K2.grown (Grown.refl _).drew).get (by omega)]
      unfold ivL
      rw [List.getD_eq_getElem?_getD, List.getD_eq_getElem?_getD, List.getElem?_drop]⟩) (by rw [l2, z2, madeSize]; omega) ints_one
  rw [l2] at r3
  have oB : Out (fun x => w.heap.size ≤ x) w w3 := (oA.drewN 1).trans o3 (fun x hx => Or.inr (by omega))
  have K3 : Rg w3 b N f q L := H.out.out oB fun x hx hf => by have := H.out.foot_lt hx; omega
  have HV : Hid (Vec w3 3 1 (some ⟨w.heap.size, 0, none⟩) k k (ivL q)) := by
    refine Or.inr ⟨_, cur3, rfl, g3, Nat.le_refl _, by simp only [maxLen]; omega, by rw [z3, z2, madeSize]; omega, fun j hj => ?_⟩
    rw [v3 j, v2 j, l1, l2]
    have hj : j < k := by omega
    by_cases e : n1 ≤ j
    · rw [if_pos ⟨e, by omega⟩, ints_get (by rw [List.length_drop]; omega)]
      unfold ivL
      rw [List.getD_eq_getElem?_getD, List.getD_eq_getElem?_getD, List.getElem?_drop, Nat.add_sub_of_le e]
    · rw [if_neg (by omega), if_pos ⟨by omega, by omega⟩, ints_get (by rw [List.length_take]; omega)]
      unfold ivL
      rw [List.getD_eq_getElem?_getD, List.getD_eq_getElem?_getD, List.getElem?_take, if_pos (by omega)]; rfl
  have HK : Hid (Rg w3 b N f q L ∧ Out (fun x => w.heap.size ≤ x) w w3) := ⟨K3, oB⟩
  have hn1 : n1 ≤ k := by omega
  obtain ⟨a0, a1, _, _⟩ := KA.cells
  have m0 : w2.drew.cell? ⟨b + 1, 0, none⟩ = some (.slice (some ⟨b, 0, none⟩) N N) := K2.cells.1
  have m1 : w2.cell? ⟨b + 1, 0, none⟩ = some (.slice (some ⟨b, 0, none⟩) N N) := K2.cells.1
  have m2 : w2.cell? ⟨b + 1, 1, none⟩ = some (.int .i64 (f : Int)) := K2.cells.2.1
  have hb2 := K2.last
  have hb3 := K3.last
  have f1 := K3.free 1
  have f2 := K3.free 2
  have d1 := K3.cells.2.1
  have d2 : w3.cell? ⟨b + 1, 2, none⟩ = some (.int .i64 (k : Int)) := by rw [hlq]; exact K3.cells.2.2.1
  have n1N : n1 ≤ N := by omega
  have hfk : f ≤ N := by omega
  clear c0 c1 c2 c3 hg0 hg2 gA KA addB l1 l2 z2 v2 z3 v3 g2 g3 oA oB o2 o3 K2 K3 hlq hmk h1
  refine region_fill [10, 11] [(10, .slice (some ⟨w.heap.size, 0, none⟩) k k), (11, .pointer (some ⟨b + 1, 0, none⟩)), (12, .pointer (some ⟨b + 1, 0, none⟩)), (13, .pointer (some ⟨b + 1, 0, none⟩)), (14, .slice (some ⟨b, 0, none⟩) N N), (15, .pointer (some ⟨b + 1, 0, none⟩)), (16, .pointer (some ⟨b + 1, 0, none⟩)), (17, .pointer (some ⟨b + 1, 1, none⟩)), (18, .int .i64 (f : Int)), (19, .slice (some ⟨b, f, none⟩) (N - f) (N - f))] hmx (by kernel_rfl) (by kernel_rfl) ?_
  simp only [fills, Act.put, List.setIfInBounds_toArray, List.set_cons_zero, List.set_cons_succ]
  refine flow_val (some 20) (.int .i64 (n1 : Int)) w2 _ rfl rfl ?run (exec_copy rfl rfl rfl r2) ?next
  case run =>
    clear r2 r3
    intro i o ho hi
    iterate 12 (rcases i with _ | i; · first | (exact absurd hi (by decide)) | (cases ho; go_simp))
    cases ho
  case next =>
    clear r2 a0 a1
    simp only [Act.put, List.setIfInBounds_toArray, List.set_cons_zero, List.set_cons_succ]
    refine flow_val (some 4) (.int .i64 (n1 : Int)) w2 _ rfl rfl ?run (by go_simp) ?next
    case run =>
      clear r3
      intro i o ho hi
      iterate 12 (rcases i with _ | i; · first | (exact absurd hi (by decide)) | (cases ho; go_simp))
      cases ho
    case next =>
      simp only [Act.put, List.setIfInBounds_toArray, List.set_cons_zero, List.set_cons_succ]
      show Exit.then _ _ Exit.normal _ _
      go_wp2
      refine region_fill [7] [(21, .slice (some ⟨w.heap.size, 0, none⟩) k k), (22, .int .i64 (n1 : Int)), (23, .slice (some ad) (k - n1) (k - n1)), (24, .pointer (some ⟨b + 1, 0, none⟩)), (25, .pointer (some ⟨b + 1, 0, none⟩)), (26, .pointer (some ⟨b + 1, 0, none⟩)), (27, .slice (some ⟨b, 0, none⟩) N N)] hmx (by kernel_rfl) (by kernel_rfl) ?_
      simp only [fills, Act.put, List.setIfInBounds_toArray, List.set_cons_zero, List.set_cons_succ]
      refine flow_val (some 28) (.int .i64 ((k - n1 : Nat) : Int)) w3 _ rfl rfl ?run (exec_copy rfl rfl rfl r3) ?next
      case run =>
        clear r3 m1 m2
        intro i o ho hi
        iterate 8 (rcases i with _ | i; · first | (exact absurd hi (by decide)) | (cases ho; go_simp))
        cases ho
      case next =>
        clear r3
        simp only [Act.put, List.setIfInBounds_toArray, List.set_cons_zero, List.set_cons_succ]
        show Exit.then _ _ Exit.normal _ _
        go_wp2
        go_ret
        have ow : Out (rgF b) w3 ((w3.setCell ⟨b + 1, 1, none⟩ (.int .i64 0)).setCell ⟨b + 1, 2, none⟩ (.int .i64 0)) := ((Out.refl _ _).setCell (Or.inr rfl) _).setCell (Or.inr rfl) _
        refine ⟨rfl, HV.out.out ow fun x hx hf => ?_, HK.out.1.wipe, (HK.out.2.wide fun x h1 h2 => by omega).trans ow fun _ => Or.inl⟩
        have := hx.eq
        rcases hf with e | e <;> omega
theorem wipe_nil (h : Rg w b N f q L) : 0 < N := by have := h.lt; omega
end Go.Proofs.Ytbboomhgigaobaa.Rn
