/-
  A region that draws its order and whose operations ahead of one of them only read and are all wanted by it: one walk of the lexical order serves, up to that one. No condition but those told at each sentence.
-/
import Derived.Test.YthjcdloaclailaaRows
import Derived.OrdersIn
import Derived.TacticsIn
namespace Go.Proofs.Ythjcdloaclailaa

def plainOp : Op → Bool
  | .defer _ => false
  | .select _ _ => false
  | _ => true
theorem plainOp_defer {o : Op} (h : plainOp o = true) : ∀ c, o ≠ .defer c := fun c e => by subst e; cases h
theorem plainOp_select {o : Op} (h : plainOp o = true) : ∀ cs b, o ≠ .select cs b := fun c b e => by subst e; cases h

variable {md : Region.Mode} {ops : Array Oper}
/-- What operation i waits for. -/
def deps (md : Region.Mode) (ops : Array Oper) (i : Nat) : List Nat :=
  match ops[i]? with
  | some o => (o.after.toList.filter (Region.binds md)).map (·.on)
  | none => []
def needs (md : Region.Mode) (ops : Array Oper) : Nat → List Nat → List Nat
  | 0, l => l
  | k + 1, l => l ++ needs md ops k (l.flatMap (deps md ops))
def calmOp (md : Region.Mode) (ops : Array Oper) (c i : Nat) : Bool :=
  match ops[i]? with
  | some o => o.guard.isNone && o.dst.isSome && plainOp o.op && (deps md ops i).all (fun j => decide (j < i)) &&
      o.op.operands.toList.all (fun x => match x with | .tmp d => (List.range c).all (fun j => (ops[j]?.bind (·.dst)) != some d || (deps md ops i).contains j) | _ => true)
  | none => false
def calmB (md : Region.Mode) (ops : Array Oper) (c : Nat) : Bool :=
  (List.range c).all (calmOp md ops c) && (List.range c).all (fun i => (needs md ops c (deps md ops c)).contains i) && (List.range ops.size).all (fun j => decide (j ≤ c) || (deps md ops j).any (fun k => decide (c ≤ k))) && decide (c < ops.size)

theorem mem_deps {i j : Nat} {o : Oper} (ho : ops[i]? = some o) : j ∈ deps md ops i ↔ ∃ e ∈ o.after, Region.binds md e = true ∧ e.on = j := by
  unfold deps
  rw [ho]
  simp [List.mem_map, List.mem_filter, and_assoc]

/-- How many of the first k have not come up. -/
def left (listed : Array Bool) : Nat → Nat
  | 0 => 0
  | k + 1 => left listed k + (if listed.getD k true = false then 1 else 0)
theorem left_same {listed : Array Bool} {i : Nat} : ∀ {k : Nat}, k ≤ i → left (listed.setIfInBounds i true) k = left listed k
  | 0, _ => rfl
  | k + 1, h => by
    unfold left
    rw [left_same (by omega), getD_set_ne true (by omega)]
theorem getD_set_self {listed : Array Bool} {i : Nat} : (listed.setIfInBounds i true).getD i true = true := by
  simp [Array.getD_eq_getD_getElem?, Array.getElem?_setIfInBounds]
  split <;> simp_all
theorem left_set {listed : Array Bool} {i : Nat} (h0 : listed.getD i true = false) : ∀ {k : Nat}, i < k → left (listed.setIfInBounds i true) k + 1 = left listed k
  | 0, h => by omega
  | k + 1, h => by
    unfold left
    by_cases e : k = i
    · subst e
      rw [left_same (Nat.le_refl _), getD_set_self, if_pos h0]
      simp
    · rw [getD_set_ne true (fun h => e h.symm), ← left_set h0 (k := k) (by omega)]
      omega
theorem left_zero {listed : Array Bool} : ∀ {k : Nat}, left listed k = 0 → ∀ i, i < k → listed.getD i true = true
  | 0, _, i, h => by omega
  | k + 1, h, i, hi => by
    unfold left at h
    by_cases e : i = k
    · subst e
      cases hb : listed.getD i true with
      | true => rfl
      | false => rw [hb] at h; simp at h
    · exact left_zero (Nat.eq_zero_of_add_eq_zero_right h) i (by omega)
theorem left_pos {listed : Array Bool} : ∀ {k : Nat}, 0 < left listed k → ∃ i, i < k ∧ listed.getD i true = false ∧ ∀ j, j < i → listed.getD j true = true
  | 0, h => by cases h
  | k + 1, h => by
    by_cases e : 0 < left listed k
    · obtain ⟨i, h1, h2⟩ := left_pos e
      exact ⟨i, by omega, h2⟩
    · have e0 : left listed k = 0 := by omega
      unfold left at h
      rw [e0] at h
      refine ⟨k, by omega, ?_, left_zero e0⟩
      cases hb : listed.getD k true with
      | false => rfl
      | true => rw [hb] at h; simp at h

theorem getD_in {listed : Array Bool} {i : Nat} (hi : i < listed.size) : listed.getD i false = listed.getD i true := by simp [hi]

/-- What came up, its needs came up too. -/
def Closed (md : Region.Mode) (ops : Array Oper) (listed : Array Bool) : Prop := ∀ i, i < ops.size → listed.getD i true = true → ∀ j ∈ deps md ops i, listed.getD j false = true
theorem Closed.needs {listed : Array Bool} (h : Closed md ops listed) (hs : listed.size = ops.size) : ∀ (k : Nat) (l : List Nat), (∀ j ∈ l, listed.getD j false = true) → ∀ j ∈ needs md ops k l, listed.getD j false = true
  | 0, l, hl => hl
  | k + 1, l, hl => fun j hj => by
    rcases List.mem_append.1 hj with hj | hj
    · exact hl j hj
    · refine Closed.needs h hs k _ (fun j' hj' => ?_) j hj
      obtain ⟨i, hi, hd⟩ := List.mem_flatMap.1 hj'
      have h1 := hl i hi
      have hlt : i < listed.size := by
        apply Decidable.byContradiction; intro hc
        simp [Array.getElem?_eq_none (show listed.size ≤ i by omega)] at h1
      exact h i (by omega) (by rw [← getD_in hlt]; exact h1) j' hd

/-- a is A but for the slots of those of the first c that have not come up. -/
structure Like (ops : Array Oper) (c : Nat) (A : Act) (listed : Array Bool) (a : Act) : Prop where
  defers : a.defers = A.defers
  size : a.tmps.size = A.tmps.size
  slot : ∀ d, (∀ i o, i < c → ops[i]? = some o → listed.getD i true = false → o.dst ≠ some d) → a.tmps[d]? = A.tmps[d]?

theorem wpAnyIn_calm {F : Fence} {n : Nat} {P : Program} {Q : Exit → Act → World → Prop} {c : Nat} {A : Act} {w : World} (hB : calmB md ops c = true)
    (hrun : ∀ i o, i < c → ops[i]? = some o → (execOp A.eval o).run P w = .ok (.value (A.eval (.tmp (o.dst.getD 0)))) w ∧ o.about P w A.eval = none)
    (hend : ∀ listed : Array Bool, listed.size = ops.size → (∀ i, i < ops.size → listed.getD i true = decide (i < c)) → wpAnyIn F n P md ops Q (ops.size - c) listed A w) :
    ∀ (m : Nat) (listed : Array Bool) (a : Act), left listed c = m → listed.size = ops.size → (∀ i, c ≤ i → i < ops.size → listed.getD i true = false) → Closed md ops listed → Like ops c A listed a →
      wpAnyIn F n P md ops Q (ops.size - c + m) listed a w := by
  unfold calmB at hB
  simp only [Bool.and_eq_true, List.all_eq_true, List.mem_range, decide_eq_true_eq, Bool.or_eq_true, List.any_eq_true] at hB
  obtain ⟨⟨⟨hB1, hB2⟩, hB3⟩, hB4⟩ := hB
  intro m
  induction m with
  | zero =>
    intro listed a hl hs hlate hcl hlike
    have h0 := left_zero hl
    have ha : a = A := by
      obtain ⟨t, d⟩ := a
      obtain ⟨t', d'⟩ := A
      have h1 := hlike.defers
      have h2 := hlike.slot
      simp only at h1
      subst h1
      congr 1
      exact Array.ext_getElem? fun i => h2 i fun k o hk _ hf => by rw [h0 k hk] at hf; cases hf
    subst ha
    refine hend listed hs fun i hi => ?_
    by_cases e : i < c
    · rw [h0 i e]; simp [e]
    · rw [hlate i (by omega) hi]; simp [e]
  | succ m ih =>
    intro listed a hl hs hlate hcl hlike
    obtain ⟨i0, hi0, hu0, hmin⟩ := left_pos (listed := listed) (k := c) (by omega)
    have hall : ∀ j ∈ Region.ready md ops listed, j < c := by
      intro j hj
      obtain ⟨hju, o, ho, hdep⟩ := mem_ready.1 hj
      have hjs : j < ops.size := (Array.getElem?_eq_some_iff.1 ho).1
      have hd : ∀ k ∈ deps md ops j, listed.getD k false = true := fun k hk => by
        obtain ⟨e, he, hb, rfl⟩ := (mem_deps ho).1 hk
        exact hdep e he hb
      apply Decidable.byContradiction; intro hjc
      rcases hB3 j hjs with h | ⟨k, hk, hck⟩
      · have : j = c := by omega
        subst this
        have h1 := hB2 i0 hi0
        have h2 := hcl.needs hs j _ hd i0 (by simpa using h1)
        rw [getD_in (by omega), hu0] at h2
        cases h2
      · have h1 := hd k hk
        have hks : k < listed.size := by
          apply Decidable.byContradiction; intro hc
          simp [Array.getElem?_eq_none (show listed.size ≤ k by omega)] at h1
        rw [getD_in hks, hlate k hck (by omega)] at h1
        cases h1
    refine ⟨fun hnil => ?_, fun j hj => ?_⟩
    · have h1 := hB1 i0 hi0
      unfold calmOp at h1
      cases ho : ops[i0]? with
      | none => rw [ho] at h1; cases h1
      | some o =>
        rw [ho] at h1
        simp only [Bool.and_eq_true, List.all_eq_true, decide_eq_true_eq] at h1
        have : i0 ∈ Region.ready md ops listed := mem_ready.2 ⟨hu0, o, ho, fun e he hb => by
          have h2 := h1.1.2 e.on ((mem_deps ho).2 ⟨e, he, hb, rfl⟩)
          rw [getD_in (by omega)]
          exact hmin _ h2⟩
        rw [hnil] at this
        cases this
    · have hjc := hall j hj
      obtain ⟨hju, o, ho, hdep⟩ := mem_ready.1 hj
      have h1 := hB1 j hjc
      unfold calmOp at h1
      rw [ho] at h1
      simp only [Bool.and_eq_true, List.all_eq_true, decide_eq_true_eq] at h1
      obtain ⟨⟨⟨⟨hg, hdst⟩, hpl⟩, hlt⟩, hops⟩ := h1
      obtain ⟨d, hd⟩ := Option.isSome_iff_exists.1 hdst
      have hev : ∀ x ∈ o.op.operands, a.eval x = A.eval x := by
        intro x hx
        cases x with
        | tmp t =>
          have h2 := hops (.tmp t) (by simpa using hx)
          simp only [List.all_eq_true, List.mem_range] at h2
          show a.tmps.getD t undef = A.tmps.getD t undef
          rw [Array.getD_eq_getD_getElem?, Array.getD_eq_getD_getElem?, hlike.slot t fun i oi hi hoi hui hdi => ?_]
          have h3 := h2 i hi
          rw [hoi] at h3
          simp [hdi] at h3
          obtain ⟨e, he, hb, hon⟩ := (mem_deps ho).1 h3
          have h4 := hdep e he hb
          rw [hon, getD_in (by omega), hui] at h4
          cases h4
        | const v => rfl
        | global g => rfl
        | func f => rfl
      obtain ⟨hr, hab⟩ := hrun j o hjc ho
      have hex : execOp a.eval o = execOp A.eval o := execOp_congr o (plainOp_select hpl) hev
      unfold wpOpIn
      simp only [ho]
      have hw : Region.wanted o (yielded ops a.tmps) = true := by
        unfold Region.wanted
        rw [Option.isNone_iff_eq_none.1 hg]
      rw [if_pos hw]
      refine ⟨fun f hf => ?_, ?_⟩
      · rw [about_congr o w hev, hab] at hf
        cases hf
      · rw [Oper.semAt_eq _ _ _ (plainOp_defer hpl), hex, hr, Oper.uponIn_value]
        refine ih _ _ (by have := left_set (listed := listed) hju (k := c) hjc; omega) (by simpa using hs) (fun i h2 h3 => ?_) (fun i h2 h3 k hk => ?_) ⟨?_, ?_, fun t ht => ?_⟩
        · rw [getD_set_ne true (by omega)]; exact hlate i h2 h3
        · have hin : ∀ k, listed.getD k false = true → (listed.setIfInBounds j true).getD k false = true := fun k hk => by
            by_cases e : k = j
            · subst e
              rw [getD_in (by simpa using (show k < listed.size by omega)), getD_set_self]
            · simp only [Array.getD_eq_getD_getElem?] at hk ⊢
              rw [Array.getElem?_setIfInBounds_ne (fun h => e h.symm)]
              exact hk
          by_cases e : i = j
          · subst e
            obtain ⟨ed, he, hb, rfl⟩ := (mem_deps ho).1 hk
            exact hin _ (hdep ed he hb)
          · rw [getD_set_ne true (fun h => e h.symm)] at h3
            exact hin _ (hcl i h2 h3 k hk)
        · rw [hd]; exact hlike.defers
        · rw [hd]; show (a.tmps.setIfInBounds d _).size = _; rw [Array.size_setIfInBounds]; exact hlike.size
        · rw [hd]
          show (a.tmps.setIfInBounds d _)[t]? = _
          by_cases e : d = t
          · subst e
            rw [Array.getElem?_setIfInBounds_self]
            show (if d < a.tmps.size then some (A.tmps.getD d undef) else none) = _
            rw [hlike.size]
            split
            · rename_i hlt'
              simp [hlt']
            · rename_i hlt'
              exact (Array.getElem?_eq_none (Nat.le_of_not_lt hlt')).symm
          · rw [Array.getElem?_setIfInBounds_ne e]
            refine hlike.slot t fun i oi hi hoi hui hdi => ?_
            by_cases e2 : i = j
            · subst e2
              rw [ho] at hoi
              cases hoi
              rw [hd] at hdi
              cases hdi
              exact e rfl
            · exact ht i oi hi hoi (by rw [getD_set_ne true (fun h => e2 h.symm)]; exact hui) hdi

theorem left_none : ∀ (k N : Nat), k ≤ N → left (Array.replicate N false) k = k
  | 0, _, _ => rfl
  | k + 1, N, h => by
    unfold left
    rw [left_none k N (by omega)]
    simp [show k < N by omega]
theorem listed_is {listed : Array Bool} {N c : Nat} (hs : listed.size = N) (hl : ∀ i, i < N → listed.getD i true = decide (i < c)) : listed = ((List.range N).map fun i => decide (i < c)).toArray := by
  apply Array.ext_getElem?
  intro i
  by_cases h : i < N
  · have := hl i h
    simp [show i < listed.size by omega] at this
    simp [h, show i < listed.size by omega, this]
  · rw [Array.getElem?_eq_none (by omega), Array.getElem?_eq_none (by simp; omega)]
/-- The first c operations of a region that draws its order, in whatever order. A: the frame behind them. -/
theorem region_calm {F : Fence} {n : Nat} {P : Program} {Q : Exit → Act → World → Prop} {id : Nat} {c : Nat} {a A : Act} {w : World} (hm : P.follows .mixedOrders = true) (hB : calmB .any ops c = true)
    (hlike : Like ops c A (Array.replicate ops.size false) a)
    (hrun : ∀ i o, i < c → ops[i]? = some o → (execOp A.eval o).run P w.drew = .ok (.value (A.eval (.tmp (o.dst.getD 0)))) w.drew ∧ o.about P w.drew A.eval = none)
    (hend : wpAnyIn F n P .any ops Q (ops.size - c) ((List.range ops.size).map fun i => decide (i < c)).toArray A w.drew) :
    (Code.region id ops true).wpIn F n P Q a w := by
  have hc : c < ops.size := by
    unfold calmB at hB
    simp only [Bool.and_eq_true, decide_eq_true_eq] at hB
    exact hB.2
  have h := wpAnyIn_calm (F := F) (n := n) (Q := Q) hB hrun (fun listed hs hl => by rw [show listed = ((List.range ops.size).map fun i => decide (i < c)).toArray from listed_is hs hl]; exact hend) c (Array.replicate ops.size false) a (left_none c _ (by omega)) (by simp) (fun i _ hi => by simp [hi]) (fun i hi h => by simp [hi] at h) hlike
  rw [show ops.size - c + c = ops.size by omega] at h
  exact wpIn_region_any hm h
end Go.Proofs.Ythjcdloaclailaa
