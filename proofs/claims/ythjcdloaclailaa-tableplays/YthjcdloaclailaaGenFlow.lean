/-
  A region that draws its order and whose operations are calm ones, which read what nothing in it turns, and effects, each of which waits for the one ahead: one walk serves every order. No condition but those told at each sentence.
-/
import Derived.Test.YthjcdloaclailaaGenCalm
import Derived.Orders
import Derived.Laws.Tables
import Derived.Laws.Rows
namespace Go.Proofs.Ythjcdloaclailaa

variable {P : Program} {md : Region.Mode} {ops : Array Oper} {eff : List Nat} {Q : Exit → Act → World → Prop}
def opOk (md : Region.Mode) (ops : Array Oper) (eff : List Nat) (i : Nat) : Bool :=
  match ops[i]? with
  | some o => o.guard.isNone && plainOp o.op && (deps md ops i).all (fun j => decide (j < i)) && (eff.contains i || o.dst.isSome) &&
      o.op.operands.toList.all (fun x => match x with | .tmp d => (List.range ops.size).all (fun j => (ops[j]?.bind (·.dst)) != some d || (deps md ops i).contains j || eff.contains j) | _ => true)
  | none => false
def chainB (md : Region.Mode) (ops : Array Oper) : List Nat → Bool
  | e :: e' :: r => (deps md ops e').contains e && decide (e < e') && chainB md ops (e' :: r)
  | _ => true
/-- (round 11) But for e each operation is one that another waits for: so e is the last. -/
def lastB (md : Region.Mode) (ops : Array Oper) (e : Nat) : Bool := (List.range ops.size).all fun j => decide (j = e) || (List.range ops.size).any fun i => decide (j < i) && (deps md ops i).contains j
theorem last_all {listed : Array Bool} {e : Nat} (h : lastB md ops e = true) (he : listed.getD e true = true) (hc : ∀ i, i < ops.size → listed.getD i true = true → ∀ j ∈ deps md ops i, listed.getD j true = true) : ∀ n j, ops.size - j ≤ n → j < ops.size → listed.getD j true = true
  | 0, j, hn, hj => by omega
  | n + 1, j, hn, hj => by
    unfold lastB at h
    have h' := h
    simp only [List.all_eq_true, List.mem_range, Bool.or_eq_true, decide_eq_true_eq, List.any_eq_true, Bool.and_eq_true, List.contains_iff_mem] at h'
    rcases h' j hj with q | ⟨i, hi, h1, h2⟩
    · rw [q]; exact he
    · exact hc i hi (last_all h he hc n i (by omega) hi) j h2
def flowB (md : Region.Mode) (ops : Array Oper) (eff : List Nat) : Bool := (List.range ops.size).all (opOk md ops eff) && chainB md ops eff && eff.all (fun e => decide (e < ops.size)) && (match eff.getLast? with | some e => lastB md ops e | none => false)

theorem chain_lt : ∀ {l : List Nat}, chainB md ops l = true → l.Pairwise (· < ·)
  | [], _ => List.Pairwise.nil
  | [_], _ => List.pairwise_singleton _ _
  | e :: e' :: r, h => by
    unfold chainB at h
    simp only [Bool.and_eq_true, decide_eq_true_eq] at h
    have ih := chain_lt h.2
    refine List.pairwise_cons.2 ⟨fun x hx => ?_, ih⟩
    rcases List.mem_cons.1 hx with rfl | hx
    · exact h.1.2
    · exact Nat.lt_trans h.1.2 ((List.pairwise_cons.1 ih).1 x hx)
theorem chain_tail {e : Nat} : ∀ {l : List Nat}, chainB md ops (e :: l) = true → chainB md ops l = true
  | [], _ => rfl
  | e' :: r, h => by
    unfold chainB at h
    simp only [Bool.and_eq_true] at h
    exact h.2
theorem chain_pred {i : Nat} : ∀ {e : Nat} {l : List Nat}, chainB md ops (e :: l) = true → i ∈ l → ∃ p ∈ e :: l, p ∈ deps md ops i
  | e, [], _, h => absurd h List.not_mem_nil
  | e, e' :: r, hc, h => by
    rcases List.mem_cons.1 h with rfl | h
    · unfold chainB at hc
      simp only [Bool.and_eq_true, List.contains_iff_mem] at hc
      exact ⟨e, by simp, hc.1.1⟩
    · obtain ⟨p, hp, hd⟩ := chain_pred (chain_tail hc) h
      exact ⟨p, List.mem_cons_of_mem _ hp, hd⟩

/-- The calm operations come to what the frame holds. -/
def Runs (P : Program) (ops : Array Oper) (eff : List Nat) (A : Act) (w : World) : Prop :=
  ∀ i o, ops[i]? = some o → eff.contains i = false → (execOp A.eval o).run P w = .ok (.value (A.eval (.tmp (o.dst.getD 0)))) w
/-- The effects, one behind the other. -/
def Flow (P : Program) (ops : Array Oper) (eff : List Nat) (Q : Exit → Act → World → Prop) : List Nat → Act → World → Prop
  | [], A, w => Q .normal A w
  | e :: es, A, w => Runs P ops eff A w ∧ ∃ o, ops[e]? = some o ∧ ((∃ v w', ((execOp A.eval o).run P w = .ok (.value v) w' ∨ ((execOp A.eval o).run P w = .ok .skip w' ∧ v = undef)) ∧ Flow P ops eff Q es (A.put o.dst v) w') ∨
      ∃ f args, (execOp A.eval o).run P w = .ok (.enter f args) w ∧ Calls P f args w fun e w' => ∃ v, e = .returned v ∧ Flow P ops eff Q es (A.put o.dst v) w')
/-- a is A but for the slots of calm ones that have not come up. -/
structure Alike (ops : Array Oper) (eff : List Nat) (A : Act) (listed : Array Bool) (a : Act) : Prop where
  defers : a.defers = A.defers
  size : a.tmps.size = A.tmps.size
  slot : ∀ d, (∀ i o, ops[i]? = some o → listed.getD i true = false → eff.contains i = false → o.dst ≠ some d) → a.tmps[d]? = A.tmps[d]?

theorem put_slot (a : Act) (d : Option Tmp) (v : Value) (t : Nat) : (a.put d v).tmps[t]? = if d = some t ∧ t < a.tmps.size then some v else a.tmps[t]? := by
  cases d with
  | none => simp [Act.put]
  | some d =>
    show (a.tmps.setIfInBounds d v)[t]? = _
    by_cases e : d = t
    · subst e
      rw [Array.getElem?_setIfInBounds_self]
      by_cases h : d < a.tmps.size
      · simp [h]
      · simp [h]
    · rw [Array.getElem?_setIfInBounds_ne e]
      simp [e]
theorem put_size (a : Act) (d : Option Tmp) (v : Value) : (a.put d v).tmps.size = a.tmps.size := by
  cases d with
  | none => rfl
  | some d => show (a.tmps.setIfInBounds d v).size = _; simp
theorem put_defers (a : Act) (d : Option Tmp) (v : Value) : (a.put d v).defers = a.defers := by cases d <;> rfl

theorem wpAny_flow (hB1 : ∀ i, i < ops.size → opOk md ops eff i = true) : ∀ (f : Nat) (listed : Array Bool) (a A : Act) (w : World) (rest : List Nat), left listed ops.size = f → listed.size = ops.size → chainB md ops rest = true → (∀ i ∈ rest, eff.contains i = true ∧ i < ops.size ∧ listed.getD i true = false) → (∀ i, eff.contains i = true → i < ops.size → i ∉ rest → listed.getD i true = true) → (∀ i, i < ops.size → listed.getD i true = true → ∀ j ∈ deps md ops i, listed.getD j true = true) →
    Alike ops eff A listed a → Flow P ops eff Q rest A w → (rest = [] → f = 0) → (∀ es e, rest = es ++ [e] → lastB md ops e = true) → wpAny P md ops Q f listed a w := by
  intro f
  induction f with
  | zero =>
    intro listed a A w rest hl hs _ hrest _ _ hlike hflow _ _
    have h0 := left_zero hl
    have ha : a = A := by
      obtain ⟨t, d⟩ := a
      obtain ⟨t', d'⟩ := A
      have h1 := hlike.defers
      have h2 := hlike.slot
      simp only at h1
      subst h1
      congr 1
      exact Array.ext_getElem? fun i => h2 i fun k o ho hf _ => by rw [h0 k (Array.getElem?_eq_some_iff.1 ho).1] at hf; cases hf
    subst ha
    cases rest with
    | cons e es =>
      obtain ⟨_, h1, h2⟩ := hrest e (by simp)
      rw [h0 e h1] at h2; cases h2
    | nil =>
      refine ⟨?_, hflow⟩
      cases hr : Region.ready md ops listed with
      | nil => rfl
      | cons j js =>
        have hj : j ∈ Region.ready md ops listed := by rw [hr]; simp
        obtain ⟨hju, o, ho, _⟩ := mem_ready.1 hj
        rw [h0 j (Array.getElem?_eq_some_iff.1 ho).1] at hju; cases hju
  | succ f ih =>
    intro listed a A w rest hl hs hch hrest hdone hcl hlike hflow hnil0 hlast
    obtain ⟨i0, hi0, hu0, hmin⟩ := left_pos (listed := listed) (k := ops.size) (by omega)
    have okOf : ∀ i o, ops[i]? = some o → o.guard = none ∧ plainOp o.op = true ∧ (∀ j ∈ deps md ops i, j < i) ∧ (eff.contains i = true ∨ o.dst.isSome = true) ∧ ∀ t, .tmp t ∈ o.op.operands → ∀ j oj, ops[j]? = some oj → oj.dst = some t → j ∈ deps md ops i ∨ eff.contains j = true := fun i o ho => by
      have h1 := hB1 i (Array.getElem?_eq_some_iff.1 ho).1
      unfold opOk at h1
      rw [ho] at h1
      simp only [Bool.and_eq_true, List.all_eq_true, decide_eq_true_eq, Bool.or_eq_true] at h1
      obtain ⟨⟨⟨⟨g1, g2⟩, g3⟩, g4⟩, g5⟩ := h1
      refine ⟨Option.isNone_iff_eq_none.1 g1, g2, g3, g4, fun t ht j oj hj hjt => ?_⟩
      have h2 := g5 (.tmp t) (by simpa using ht)
      simp only [List.all_eq_true, List.mem_range] at h2
      have h3 := h2 j (Array.getElem?_eq_some_iff.1 hj).1
      rw [hj] at h3
      simpa [hjt, Bool.or_eq_true] using h3
    refine ⟨fun hnil => ?_, fun i hi => ?_⟩
    · obtain ⟨o, ho⟩ : ∃ o, ops[i0]? = some o := ⟨_, Array.getElem?_eq_getElem hi0⟩
      have : i0 ∈ Region.ready md ops listed := mem_ready.2 ⟨hu0, o, ho, fun e he hb => by
        have h2 := (okOf i0 o ho).2.2.1 e.on ((mem_deps ho).2 ⟨e, he, hb, rfl⟩)
        rw [getD_in (by omega)]
        exact hmin _ h2⟩
      rw [hnil] at this
      cases this
    · obtain ⟨hiu, o, ho, hdep⟩ := mem_ready.1 hi
      have his : i < ops.size := (Array.getElem?_eq_some_iff.1 ho).1
      obtain ⟨hg, hpl, _, hdst, hrd⟩ := okOf i o ho
      have hd : ∀ j ∈ deps md ops i, j < ops.size → listed.getD j true = true := fun j hj hjs => by
        obtain ⟨e, he, hb, rfl⟩ := (mem_deps ho).1 hj
        rw [← getD_in (by omega)]
        exact hdep e he hb
      have hev : ∀ x ∈ o.op.operands, a.eval x = A.eval x := fun x hx => by
        cases x with
        | tmp t =>
          show a.tmps.getD t undef = A.tmps.getD t undef
          rw [Array.getD_eq_getD_getElem?, Array.getD_eq_getD_getElem?, hlike.slot t fun j oj hj hju hjc hjt => ?_]
          have h1 := hd j ((hrd t hx j oj hj hjt).resolve_right (by rw [hjc]; decide)) (Array.getElem?_eq_some_iff.1 hj).1
          rw [h1] at hju; cases hju
        | const v => rfl
        | global g => rfl
        | func f => rfl
      have hex : execOp a.eval o = execOp A.eval o := execOp_congr o (plainOp_select hpl) hev
      have hcl' : ∀ k, k < ops.size → (listed.setIfInBounds i true).getD k true = true → ∀ j ∈ deps md ops k, (listed.setIfInBounds i true).getD j true = true := fun k hk hkl j hj => by
        by_cases q : j = i
        · rw [q]; exact getD_set_self
        · rw [getD_set_ne true (fun h => q h.symm)]
          have hjk : j < ops.size := by
            have := (okOf k _ (Array.getElem?_eq_getElem hk)).2.2.1 j hj
            omega
          by_cases p : k = i
          · subst p; exact hd j hj hjk
          · rw [getD_set_ne true (fun h => p h.symm)] at hkl
            exact hcl k hk hkl j hj
      have hlft : left (listed.setIfInBounds i true) ops.size = f := by have := left_set (listed := listed) hiu (k := ops.size) his; omega
      have hwant : Region.wanted o (yielded ops a.tmps) = true := by
        unfold Region.wanted
        rw [hg]
      unfold wpOp
      rw [ho]
      show if Region.wanted o (yielded ops a.tmps) = true then _ else _
      rw [if_pos hwant]
      left
      unfold Oper.wp
      rw [hex]
      by_cases he : eff.contains i = true
      · have hir : i ∈ rest := by
          apply Decidable.byContradiction; intro hn
          rw [hdone i he his hn] at hiu; cases hiu
        cases rest with
        | nil => exact absurd hir List.not_mem_nil
        | cons e es =>
          have hie : i = e := by
            rcases List.mem_cons.1 hir with h | h
            · exact h
            · obtain ⟨p, hp, hpd⟩ := chain_pred hch h
              obtain ⟨_, h1, h2⟩ := hrest p hp
              rw [hd p hpd h1] at h2; cases h2
          subst hie
          obtain ⟨hrun, o', ho', hstep⟩ := hflow
          rw [ho] at ho'
          cases ho'
          have hnext : ∀ v w', Flow P ops eff Q es (A.put o.dst v) w' → wpAny P md ops Q f (listed.setIfInBounds i true) (a.put o.dst v) w' := by
            intro v w' hfl
            refine ih (listed.setIfInBounds i true) (a.put o.dst v) (A.put o.dst v) w' es hlft (by simpa using hs) (chain_tail hch) (fun j hj => ?_) (fun j hje hjs hjn => ?_) hcl' ⟨by rw [put_defers, put_defers]; exact hlike.defers, by rw [put_size, put_size]; exact hlike.size, fun t ht => ?_⟩ hfl (fun hes => ?_) (fun es' e' h => hlast (i :: es') e' (by rw [h]; rfl))
            · obtain ⟨h1, h2, h3⟩ := hrest j (List.mem_cons_of_mem _ hj)
              have hne : i ≠ j := fun q => by
                have := (List.pairwise_cons.1 (chain_lt hch)).1 j hj
                omega
              exact ⟨h1, h2, by rw [getD_set_ne true hne]; exact h3⟩
            · by_cases q : j = i
              · rw [q]; exact getD_set_self
              · rw [getD_set_ne true (fun h => q h.symm)]
                exact hdone j hje hjs (fun h => by
                  rcases List.mem_cons.1 h with h | h
                  · exact q h
                  · exact hjn h)
            · rw [put_slot, put_slot, hlike.size]
              split
              · rfl
              · refine hlike.slot t fun j oj hj hju hjc => ht j oj hj ?_ hjc
                have hne : i ≠ j := fun q => by rw [← q, he] at hjc; cases hjc
                rw [getD_set_ne true hne]; exact hju
            · have hlb := hlast [] i (by rw [hes]; rfl)
              apply Decidable.byContradiction; intro hf0
              obtain ⟨j, hj, hju, _⟩ := left_pos (listed := listed.setIfInBounds i true) (k := ops.size) (by omega)
              rw [last_all hlb getD_set_self hcl' _ j (Nat.le_refl _) hj] at hju
              cases hju
          rcases hstep with ⟨v, w', hr, hfl⟩ | ⟨f', args, hr, hcall⟩
          · rcases hr with hr | ⟨hr, hv⟩
            · rw [hr, Oper.upon_value]; exact hnext _ _ hfl
            · rw [hr, Oper.upon_skip, ← hv]; exact hnext _ _ hfl
          · rw [hr, Oper.upon_enter]
            refine hcall.mono ?_
            rintro e w' ⟨v, rfl, hfl⟩
            exact hnext _ _ hfl
      · have he' : eff.contains i = false := by simpa using he
        obtain ⟨d, hdd⟩ := Option.isSome_iff_exists.1 (hdst.resolve_left he)
        have hrn : rest ≠ [] := fun h => by have := hnil0 h; omega
        have hruns : Runs P ops eff A w := by
          cases rest with
          | nil => exact absurd rfl hrn
          | cons e es => exact hflow.1
        have hr := hruns i o ho he'
        rw [hr, Oper.upon_value, hdd]
        refine ih _ _ A w rest hlft (by simpa using hs) hch (fun j hj => ?_) (fun j hje hjs hjn => ?_) hcl' ⟨by rw [put_defers]; exact hlike.defers, by rw [put_size]; exact hlike.size, fun t ht => ?_⟩ hflow (fun h => absurd h hrn) hlast
        · obtain ⟨h1, h2, h3⟩ := hrest j hj
          have hne : i ≠ j := fun q => by rw [q, h1] at he'; cases he'
          exact ⟨h1, h2, by rw [getD_set_ne true hne]; exact h3⟩
        · by_cases q : j = i
          · rw [q]; exact getD_set_self
          · rw [getD_set_ne true (fun h => q h.symm)]; exact hdone j hje hjs hjn
        · rw [put_slot]
          by_cases e : d = t
          · subst e
            by_cases hsz : d < a.tmps.size
            · rw [if_pos ⟨rfl, hsz⟩]
              show some (A.tmps.getD d undef) = A.tmps[d]?
              rw [hlike.size] at hsz
              simp [hsz]
            · rw [if_neg (fun h => hsz h.2), Array.getElem?_eq_none (Nat.le_of_not_lt hsz), Array.getElem?_eq_none (by rw [← hlike.size]; exact Nat.le_of_not_lt hsz)]
          · rw [if_neg (fun h => e (by cases h.1; rfl))]
            refine hlike.slot t fun j oj hj hju hjc hjt => ?_
            by_cases q : j = i
            · subst q
              rw [ho] at hj
              cases hj
              rw [hdd] at hjt
              cases hjt
              exact e rfl
            · exact ht j oj hj (by rw [getD_set_ne true (fun h => q h.symm)]; exact hju) hjc hjt

theorem left_all : ∀ (k N : Nat), k ≤ N → left (Array.replicate N false) k = k
  | 0, _, _ => rfl
  | k + 1, N, h => by
    unfold left
    rw [left_all k N (by omega)]
    simp [show k < N by omega]
/-- A: the frame with all that the calm operations come to. -/
theorem region_flow {id : Nat} {a A : Act} {w : World} (eff : List Nat) (hm : P.follows .mixedOrders = true) (hB : flowB .any ops eff = true) (hlike : Alike ops eff A (Array.replicate ops.size false) a) (hflow : Flow P ops eff Q eff A w.drew) : (Code.region id ops true).wp P Q a w := by
  have hB' := hB
  unfold flowB at hB
  simp only [Bool.and_eq_true, List.all_eq_true, List.mem_range, decide_eq_true_eq] at hB
  obtain ⟨⟨⟨h1, h2⟩, h3⟩, h4⟩ := hB
  have hne : eff ≠ [] := fun h => by rw [h] at h4; cases h4
  have hbef : ∀ i ∈ eff, eff.contains i = true ∧ i < ops.size ∧ (Array.replicate ops.size false).getD i true = false := fun i hi => ⟨by simpa using hi, h3 i hi, by simp [h3 i hi]⟩
  exact wp_region_any hm (wpAny_flow (P := P) (Q := Q) h1 ops.size (Array.replicate ops.size false) a A w.drew eff (left_all _ _ (Nat.le_refl _)) (by simp) h2 hbef (fun i hi _ hn => absurd (by simpa using hi) hn) (fun i hi hl => by rw [show (Array.replicate ops.size false).getD i true = false by simp [hi]] at hl; cases hl) hlike hflow (fun h => absurd h hne) (fun es e h => by rw [h, List.getLast?_concat] at h4; exact h4))

theorem flow_cons {eff : List Nat} {e : Nat} {es : List Nat} {A : Act} {w : World} (o : Oper) (v : Value) (w' : World) (ho : ops[e]? = some o) (hr : Runs P ops eff A w) (he : (execOp A.eval o).run P w = .ok (.value v) w' ∨ ((execOp A.eval o).run P w = .ok .skip w' ∧ v = undef)) (hn : Flow P ops eff Q es (A.put o.dst v) w') : Flow P ops eff Q (e :: es) A w := ⟨hr, o, ho, .inl ⟨v, w', he, hn⟩⟩
/-- (round 10) An effect that is a call. -/
theorem flow_call {eff : List Nat} {e : Nat} {es : List Nat} {A : Act} {w : World} (o : Oper) (f : FuncId) (args : Array Value) (ho : ops[e]? = some o) (hr : Runs P ops eff A w) (he : (execOp A.eval o).run P w = .ok (.enter f args) w) (hn : Calls P f args w fun e w' => ∃ v, e = .returned v ∧ Flow P ops eff Q es (A.put o.dst v) w') : Flow P ops eff Q (e :: es) A w := ⟨hr, o, ho, .inr ⟨f, args, he, hn⟩⟩
/-- (round 10) An effect that stores a row whole. -/
theorem flow_row {eff : List Nat} {e : Nat} {es : List Nat} {A : Act} {w : World} (o : Oper) (ho : ops[e]? = some o) (hr : Runs P ops eff A w) (hd : o.dst = none) (ty : TypeId) (x y : Operand) (hop : o.op = .store ty x y)
    (g : Nat) (cells : Array Value) (hx : A.eval x = .pointer (some ⟨g, 0, none⟩)) (hy : A.eval y = .agg cells) (t : TypeId) (old : Array Value) (hg : w.heap[g]? = some (.cells old t (0, 0))) (hi : (P.info? ty).map (·.size) = some cells.size)
    (hold : old.size = cells.size) (h1 : cells.all (·.oneCell') = true) (hn : Flow P ops eff Q es A (w.setRow g cells)) : Flow P ops eff Q (e :: es) A w := by
  refine ⟨hr, o, ho, .inl ⟨undef, w.setRow g cells, .inr ⟨?_, rfl⟩, by rw [hd]; exact hn⟩⟩
  unfold execOp
  simp only [hop, hx, hy, Instr.storeAt, Instr.sureAddr, Sem.run_bind, Sem.run_pure, Result.andThen_ok, run_storeVar_row w g t ty old cells hg hi hold h1]
/-- (round 10) A calm operation that loads a row whole. -/
theorem exec_load_row {o : Oper} {A : Act} {w : World} (ty : TypeId) (x : Operand) (ho : o.op = .load ty x) (g : Nat) (hx : A.eval x = .pointer (some ⟨g, 0, none⟩)) (t : TypeId) (cs : Array Value) (fr : Nat × Nat) (d : TypeDesc) (hg : w.heap[g]? = some (.cells cs t fr))
    (hu : P.underlying ty = some d) (hd : (match d with | .struct _ | .array _ _ => true | _ => false) = true) (hi : (P.info? ty).map (·.size) = some cs.size) : (execOp A.eval o).run P w = .ok (.value (.agg cs)) w := by
  unfold execOp
  simp only [ho, hx, Instr.loadAt, Instr.sureAddr, Sem.run_bind, Sem.run_pure, Result.andThen_ok, run_loadVar_row w g t ty cs fr d hg hu hd hi]
theorem exec_append {o : Oper} {A : Act} {w w' : World} {so xo : Operand} {t : TypeId} {s x v : Value} (hop : o.op = Op.call { callee := Callee.builtin Builtin.append, args := #[so, xo], argTypes := #[t, t] }) (hs : A.eval so = s) (hx : A.eval xo = x) (hr : (Builtin.append_ #[t, t] o.type #[s, x]).run P w = .ok v w') : (execOp A.eval o).run P w = .ok (.value v) w' := by
  unfold execOp
  simp only [hop, resolve, invoke, builtin, Sem.run_bind, Sem.run_pure, Result.andThen_ok, List.map_toArray, List.map_cons, List.map_nil, hs, hx, hr]
/-- A frame with these slots laid in. -/
def fills (a : Act) : List (Tmp × Value) → Act
  | [] => a
  | (d, v) :: r => fills (a.put (some d) v) r
def fillsB (ops : Array Oper) (eff : List Nat) (l : List (Tmp × Value)) : Bool := l.all fun p => (List.range ops.size).any fun i => !eff.contains i && decide ((ops[i]?.bind (·.dst)) = some p.1)
theorem fills_alike {eff : List Nat} : ∀ (l : List (Tmp × Value)) (a : Act), fillsB ops eff l = true → Alike ops eff (fills a l) (Array.replicate ops.size false) a
  | [], a, _ => ⟨rfl, rfl, fun _ _ => rfl⟩
  | (d, v) :: r, a, h => by
    unfold fillsB at h
    rw [List.all_cons, Bool.and_eq_true] at h
    have ih := fills_alike r (a.put (some d) v) h.2
    refine ⟨by rw [← put_defers a (some d) v]; exact ih.defers, by rw [← put_size a (some d) v]; exact ih.size, fun t ht => ?_⟩
    rw [show fills a ((d, v) :: r) = fills (a.put (some d) v) r from rfl, ← ih.slot t ht, put_slot, if_neg]
    rintro ⟨e, _⟩
    obtain ⟨i, hi, hj⟩ := List.any_eq_true.1 h.1
    simp only [Bool.and_eq_true, decide_eq_true_eq, Bool.not_eq_true'] at hj
    have his := List.mem_range.1 hi
    obtain ⟨o, ho⟩ : ∃ o, ops[i]? = some o := ⟨_, Array.getElem?_eq_getElem his⟩
    rw [ho] at hj
    exact ht i o ho (by simp [his]) hj.1 (by rw [← e]; exact hj.2)
theorem region_fill {id : Nat} {a : Act} {w : World} (eff : List Nat) (l : List (Tmp × Value)) (hm : P.follows .mixedOrders = true) (hB : flowB .any ops eff = true) (hl : fillsB ops eff l = true) (hflow : Flow P ops eff Q eff (fills a l) w.drew) : (Code.region id ops true).wp P Q a w :=
  region_flow eff hm hB (fills_alike l a hl) hflow
end Go.Proofs.Ythjcdloaclailaa
