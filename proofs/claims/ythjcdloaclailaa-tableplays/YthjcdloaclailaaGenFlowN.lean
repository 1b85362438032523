/-
  A region that draws its order and whose effects wait for one another as they like, each with the calm operations that wait for it: every effect that may come next is walked. No condition but those told at each sentence.
-/
import Derived.Test.YthjcdloaclailaaGenFlow
namespace Go.Proofs.Ythjcdloaclailaa

variable {P : Program} {md : Region.Mode} {ops : Array Oper} {Q : Exit → Act → World → Prop}
def offs (rest : List (Nat × List Nat)) : List Nat := rest.flatMap (·.2)
def fillsL (ops : Array Oper) (L : List Nat) (l : List (Tmp × Value)) : Bool := l.all fun p => L.any fun i => decide ((ops[i]?.bind (·.dst)) = some p.1)
def lateB (md : Region.Mode) (ops : Array Oper) (eff : List Nat) (p : Nat × List Nat) : Bool := p.2.all fun j => !eff.contains j && decide (j < ops.size) && (deps md ops j).any fun d => decide (d < ops.size) && (decide (d = p.1) || p.2.contains d)
def flowNB (md : Region.Mode) (ops : Array Oper) (effs : List (Nat × List Nat)) (last : Nat) : Bool :=
  (List.range ops.size).all (opOk md ops (effs.map (·.1))) && effs.all (fun p => decide (p.1 < ops.size) && lateB md ops (effs.map (·.1)) p) && (effs.map (·.1)).contains last && lastB md ops last
def RunsN (P : Program) (ops : Array Oper) (eff off : List Nat) (A : Act) (w : World) : Prop :=
  ∀ i o, ops[i]? = some o → eff.contains i = false → off.contains i = false → (execOp A.eval o).run P w = .ok (.value (A.eval (.tmp (o.dst.getD 0)))) w
def FlowN (P : Program) (md : Region.Mode) (ops : Array Oper) (eff : List Nat) (Q : Exit → Act → World → Prop) : Nat → List (Nat × List Nat) → Act → World → Prop
  | 0, _, A, w => Q .normal A w
  | n + 1, rest, A, w => RunsN P ops eff (offs rest) A w ∧ ∀ p ∈ rest, (rest.all fun q => !(deps md ops p.1).contains q.1) = true → ∃ o, ops[p.1]? = some o ∧
      ((∃ v w', ((execOp A.eval o).run P w = .ok (.value v) w' ∨ ((execOp A.eval o).run P w = .ok .skip w' ∧ v = undef)) ∧ ∃ l, fillsL ops p.2 l = true ∧ FlowN P md ops eff Q n (rest.filter fun q => !(q.1 == p.1)) (fills (A.put o.dst v) l) w') ∨
      ∃ f args, (execOp A.eval o).run P w = .ok (.enter f args) w ∧ Calls P f args w fun e w' => ∃ v, e = .returned v ∧ ∃ l, fillsL ops p.2 l = true ∧ FlowN P md ops eff Q n (rest.filter fun q => !(q.1 == p.1)) (fills (A.put o.dst v) l) w')

theorem fills_defers : ∀ (l : List (Tmp × Value)) (a : Act), (fills a l).defers = a.defers
  | [], _ => rfl
  | (d, v) :: r, a => by rw [show fills a ((d, v) :: r) = fills (a.put (some d) v) r from rfl, fills_defers r, put_defers]
theorem fills_size : ∀ (l : List (Tmp × Value)) (a : Act), (fills a l).tmps.size = a.tmps.size
  | [], _ => rfl
  | (d, v) :: r, a => by rw [show fills a ((d, v) :: r) = fills (a.put (some d) v) r from rfl, fills_size r, put_size]
theorem fills_slot (t : Nat) : ∀ (l : List (Tmp × Value)) (a : Act), (∀ p ∈ l, p.1 ≠ t) → (fills a l).tmps[t]? = a.tmps[t]?
  | [], _, _ => rfl
  | (d, v) :: r, a, h => by
    rw [show fills a ((d, v) :: r) = fills (a.put (some d) v) r from rfl, fills_slot t r _ fun p hp => h p (List.mem_cons_of_mem _ hp), put_slot, if_neg]
    rintro ⟨e, _⟩
    exact h (d, v) (by simp) (by cases e; rfl)
theorem filter_length {rest : List (Nat × List Nat)} {p : Nat × List Nat} (hnd : (rest.map (·.1)).Nodup) (hp : p ∈ rest) : (rest.filter fun q => !(q.1 == p.1)).length + 1 = rest.length := by
  induction rest with
  | nil => cases hp
  | cons q r ih =>
    obtain ⟨h1, h2⟩ := List.nodup_cons.1 hnd
    rcases List.mem_cons.1 hp with e | hp
    · subst e
      rw [List.filter_cons]
      simp only [BEq.rfl, Bool.not_true, Bool.false_eq_true, if_false]
      rw [List.filter_eq_self.2]
      · rfl
      · intro x hx
        simp
        exact fun e => h1 (List.mem_map.2 ⟨x, hx, e⟩)
    · have hne : ¬ q.1 = p.1 := fun e => h1 (List.mem_map.2 ⟨p, hp, e.symm⟩)
      rw [List.filter_cons]
      simp only [hne, Bool.not_eq_true', beq_eq_false_iff_ne, ne_eq, not_false_eq_true, if_true, List.length_cons]
      rw [ih h2 hp]

theorem wpAny_flowN {eff : List Nat} {last : Nat} (hB1 : ∀ i, i < ops.size → opOk md ops eff i = true) (hlb : lastB md ops last = true) (hle : eff.contains last = true) (hls : last < ops.size) :
    ∀ (f : Nat) (n : Nat) (listed : Array Bool) (a A : Act) (w : World) (rest : List (Nat × List Nat)), left listed ops.size = f → listed.size = ops.size → rest.length = n → (rest.map (·.1)).Nodup →
      (∀ p ∈ rest, eff.contains p.1 = true ∧ p.1 < ops.size ∧ listed.getD p.1 true = false ∧ lateB md ops eff p = true ∧ ∀ j ∈ p.2, listed.getD j true = false) →
      (∀ i, eff.contains i = true → i < ops.size → (∀ p ∈ rest, p.1 ≠ i) → listed.getD i true = true) → (∀ i, i < ops.size → listed.getD i true = true → ∀ j ∈ deps md ops i, listed.getD j true = true) →
      Alike ops eff A listed a → FlowN P md ops eff Q n rest A w → wpAny P md ops Q f listed a w := by
  intro f
  induction f with
  | zero =>
    intro n listed a A w rest hl hs hn _ hrest _ _ hlike hflow
    have h0 := left_zero hl
    have ha : a = A := by
      obtain ⟨t, d⟩ := a
      obtain ⟨t', d'⟩ := A
      have h1 := hlike.defers
      have h2 := hlike.slot
      simp only at h1
      subst h1
      congr 1
      exact Array.ext_getElem? fun i => h2 i fun k o ho hf _ => by rw [h0 k (Array.getElem?_eq_some_iff.1 ho).1] at hf; cases hf
    subst ha
    cases rest with
    | cons p es =>
      obtain ⟨_, h1, h2, _⟩ := hrest p (by simp)
      rw [h0 p.1 h1] at h2; cases h2
    | nil =>
      subst hn
      refine ⟨?_, hflow⟩
      cases hr : Region.ready md ops listed with
      | nil => rfl
      | cons j js =>
        have hj : j ∈ Region.ready md ops listed := by rw [hr]; simp
        obtain ⟨hju, o, ho, _⟩ := mem_ready.1 hj
        rw [h0 j (Array.getElem?_eq_some_iff.1 ho).1] at hju; cases hju
  | succ f ih =>
    intro n listed a A w rest hl hs hn hnd hrest hdone hcl hlike hflow
    obtain ⟨i0, hi0, hu0, hmin⟩ := left_pos (listed := listed) (k := ops.size) (by omega)
    have okOf : ∀ i o, ops[i]? = some o → o.guard = none ∧ plainOp o.op = true ∧ (∀ j ∈ deps md ops i, j < i) ∧ (eff.contains i = true ∨ o.dst.isSome = true) ∧ ∀ t, .tmp t ∈ o.op.operands → ∀ j oj, ops[j]? = some oj → oj.dst = some t → j ∈ deps md ops i ∨ eff.contains j = true := fun i o ho => by
      have h1 := hB1 i (Array.getElem?_eq_some_iff.1 ho).1
      unfold opOk at h1
      rw [ho] at h1
      simp only [Bool.and_eq_true, List.all_eq_true, decide_eq_true_eq, Bool.or_eq_true] at h1
      obtain ⟨⟨⟨⟨g1, g2⟩, g3⟩, g4⟩, g5⟩ := h1
      refine ⟨Option.isNone_iff_eq_none.1 g1, g2, g3, g4, fun t ht j oj hj hjt => ?_⟩
      have h2 := g5 (.tmp t) (by simpa using ht)
      simp only [List.all_eq_true, List.mem_range] at h2
      have h3 := h2 j (Array.getElem?_eq_some_iff.1 hj).1
      rw [hj] at h3
      simpa [hjt, Bool.or_eq_true] using h3
    refine ⟨fun hnil => ?_, fun i hi => ?_⟩
    · obtain ⟨o, ho⟩ : ∃ o, ops[i0]? = some o := ⟨_, Array.getElem?_eq_getElem hi0⟩
      have : i0 ∈ Region.ready md ops listed := mem_ready.2 ⟨hu0, o, ho, fun e he hb => by
        have h2 := (okOf i0 o ho).2.2.1 e.on ((mem_deps ho).2 ⟨e, he, hb, rfl⟩)
        rw [getD_in (by omega)]
        exact hmin _ h2⟩
      rw [hnil] at this
      cases this
    · obtain ⟨hiu, o, ho, hdep⟩ := mem_ready.1 hi
      have his : i < ops.size := (Array.getElem?_eq_some_iff.1 ho).1
      obtain ⟨hg, hpl, _, hdst, hrd⟩ := okOf i o ho
      have hd : ∀ j ∈ deps md ops i, j < ops.size → listed.getD j true = true := fun j hj hjs => by
        obtain ⟨e, he, hb, rfl⟩ := (mem_deps ho).1 hj
        rw [← getD_in (by omega)]
        exact hdep e he hb
      have hev : ∀ x ∈ o.op.operands, a.eval x = A.eval x := fun x hx => by
        cases x with
        | tmp t =>
          show a.tmps.getD t undef = A.tmps.getD t undef
          rw [Array.getD_eq_getD_getElem?, Array.getD_eq_getD_getElem?, hlike.slot t fun j oj hj hju hjc hjt => ?_]
          have h1 := hd j ((hrd t hx j oj hj hjt).resolve_right (by rw [hjc]; decide)) (Array.getElem?_eq_some_iff.1 hj).1
          rw [h1] at hju; cases hju
        | const v => rfl
        | global g => rfl
        | func f => rfl
      have hex : execOp a.eval o = execOp A.eval o := execOp_congr o (plainOp_select hpl) hev
      have hcl' : ∀ k, k < ops.size → (listed.setIfInBounds i true).getD k true = true → ∀ j ∈ deps md ops k, (listed.setIfInBounds i true).getD j true = true := fun k hk hkl j hj => by
        by_cases q : j = i
        · rw [q]; exact getD_set_self
        · rw [getD_set_ne true (fun h => q h.symm)]
          have hjk : j < ops.size := by
            have := (okOf k _ (Array.getElem?_eq_getElem hk)).2.2.1 j hj
            omega
          by_cases p : k = i
          · subst p; exact hd j hj hjk
          · rw [getD_set_ne true (fun h => p h.symm)] at hkl
            exact hcl k hk hkl j hj
      have hlft : left (listed.setIfInBounds i true) ops.size = f := by have := left_set (listed := listed) hiu (k := ops.size) his; omega
      have hnl : ∀ p ∈ rest, i ∉ p.2 := fun p hp hip => by
        obtain ⟨_, q1, q2, q3, q4⟩ := hrest p hp
        unfold lateB at q3
        have h3 := List.all_eq_true.1 q3 i hip
        rw [Bool.and_eq_true] at h3
        obtain ⟨d, hdd, hde⟩ := List.any_eq_true.1 h3.2
        rw [Bool.and_eq_true] at hde
        have hds := of_decide_eq_true hde.1
        have hli := hd d hdd hds
        rcases Bool.or_eq_true_iff.1 hde.2 with e | e
        · rw [of_decide_eq_true e, q2] at hli; cases hli
        · rw [q4 d (by simpa using e)] at hli; cases hli
      have hwant : Region.wanted o (yielded ops a.tmps) = true := by
        unfold Region.wanted
        rw [hg]
      unfold wpOp
      rw [ho]
      show if Region.wanted o (yielded ops a.tmps) = true then _ else _
      rw [if_pos hwant]
      left
      unfold Oper.wp
      rw [hex]
      by_cases he : eff.contains i = true
      · have hir : ∃ p ∈ rest, p.1 = i := by
          apply Decidable.byContradiction; intro hn'
          rw [hdone i he his fun p hp e => hn' ⟨p, hp, e⟩] at hiu; cases hiu
        obtain ⟨p, hp, hpi⟩ := hir
        obtain ⟨m, hm⟩ : ∃ m, n = m + 1 := ⟨n - 1, by have := List.length_pos_of_mem hp; omega⟩
        subst hm
        obtain ⟨_, hall⟩ := hflow
        have hready : (rest.all fun q => !(deps md ops p.1).contains q.1) = true := List.all_eq_true.2 fun q hq => by
          rw [Bool.not_eq_true', ← Bool.not_eq_true]
          intro hc
          rw [hpi] at hc
          obtain ⟨_, h1, h2, _⟩ := hrest q hq
          rw [hd q.1 (by simpa using hc) h1] at h2; cases h2
        obtain ⟨o', ho', hstep⟩ := hall p hp hready
        rw [hpi, ho] at ho'
        cases ho'
        have hrl := filter_length hnd hp
        have hnext : ∀ v w' l, fillsL ops p.2 l = true → FlowN P md ops eff Q m (rest.filter fun q => !(q.1 == p.1)) (fills (A.put o.dst v) l) w' → wpAny P md ops Q f (listed.setIfInBounds i true) (a.put o.dst v) w' := by
          intro v w' l hfl hfn
          refine ih m (listed.setIfInBounds i true) (a.put o.dst v) (fills (A.put o.dst v) l) w' _ hlft (by simpa using hs) (by omega) (List.Pairwise.sublist ((List.filter_sublist).map _) hnd) (fun q hq => ?_) (fun j hje hjs hjn => ?_) hcl' ⟨by rw [put_defers, fills_defers, put_defers]; exact hlike.defers, by rw [put_size, fills_size, put_size]; exact hlike.size, fun t ht => ?_⟩ hfn
          · obtain ⟨hq1, hq2⟩ := List.mem_filter.1 hq
            have hne : i ≠ q.1 := fun e => by rw [← e, ← hpi] at hq2; simp at hq2
            obtain ⟨r1, r2, r3, r4, r5⟩ := hrest q hq1
            refine ⟨r1, r2, by rw [getD_set_ne true hne]; exact r3, r4, fun j hj => ?_⟩
            rw [getD_set_ne true fun e => hnl q hq1 (by rw [e]; exact hj)]
            exact r5 j hj
          · by_cases q : j = i
            · rw [q]; exact getD_set_self
            · rw [getD_set_ne true (fun h => q h.symm)]
              refine hdone j hje hjs fun x hx e => hjn x (List.mem_filter.2 ⟨hx, ?_⟩) e
              simp
              rw [e, hpi]
              exact q
          · obtain ⟨_, _, _, r4, r5⟩ := hrest p hp
            have hlt : ∀ x ∈ l, x.1 ≠ t := fun x hx e => by
              have h1 := List.all_eq_true.1 hfl x hx
              obtain ⟨j, hj, hjd⟩ := List.any_eq_true.1 h1
              have hjd := of_decide_eq_true hjd
              unfold lateB at r4
              have h2 := List.all_eq_true.1 r4 j hj
              simp only [Bool.and_eq_true, decide_eq_true_eq, Bool.not_eq_true'] at h2
              obtain ⟨oj, hoj⟩ : ∃ o, ops[j]? = some o := ⟨_, Array.getElem?_eq_getElem h2.1.2⟩
              rw [hoj] at hjd
              refine ht j oj hoj ?_ h2.1.1 (by rw [← e]; exact hjd)
              rw [getD_set_ne true fun e => hnl p hp (by rw [e]; exact hj)]
              exact r5 j hj
            rw [fills_slot t l _ hlt, put_slot, put_slot, hlike.size]
            split
            · rfl
            · refine hlike.slot t fun j oj hj hju hjc => ht j oj hj ?_ hjc
              have hne : i ≠ j := fun q => by rw [← q, he] at hjc; cases hjc
              rw [getD_set_ne true hne]; exact hju
        rcases hstep with ⟨v, w', hr, l, hfl, hfn⟩ | ⟨f', args, hr, hcall⟩
        · rcases hr with hr | ⟨hr, hv⟩
          · rw [hr, Oper.upon_value]; exact hnext _ _ _ hfl hfn
          · rw [hr, Oper.upon_skip, ← hv]; exact hnext _ _ _ hfl hfn
        · rw [hr, Oper.upon_enter]
          refine hcall.mono ?_
          rintro e w' ⟨v, rfl, l, hfl, hfn⟩
          exact hnext _ _ _ hfl hfn
      · have he' : eff.contains i = false := by simpa using he
        obtain ⟨d, hdd⟩ := Option.isSome_iff_exists.1 (hdst.resolve_left he)
        have hrn : rest ≠ [] := fun h => by
          have h1 := last_all hlb (hdone last hle hls (by rw [h]; intro p hp; cases hp)) hcl _ i (Nat.le_refl _) his
          rw [h1] at hiu; cases hiu
        obtain ⟨m, hm⟩ : ∃ m, n = m + 1 := by
          cases rest with
          | nil => exact absurd rfl hrn
          | cons p r => exact ⟨r.length, hn.symm⟩
        subst hm
        have hoff : (offs rest).contains i = false := by
          rw [← Bool.not_eq_true]
          intro hc
          obtain ⟨p, hp, hip⟩ := List.mem_flatMap.1 (List.contains_iff_mem.1 hc)
          exact hnl p hp hip
        have hr := hflow.1 i o ho he' hoff
        rw [hr, Oper.upon_value, hdd]
        refine ih _ _ _ A w rest hlft (by simpa using hs) hn hnd (fun q hq => ?_) (fun j hje hjs hjn => ?_) hcl' ⟨by rw [put_defers]; exact hlike.defers, by rw [put_size]; exact hlike.size, fun t ht => ?_⟩ hflow
        · obtain ⟨r1, r2, r3, r4, r5⟩ := hrest q hq
          have hne : i ≠ q.1 := fun e => by rw [e, r1] at he'; cases he'
          refine ⟨r1, r2, by rw [getD_set_ne true hne]; exact r3, r4, fun j hj => ?_⟩
          rw [getD_set_ne true fun e => hnl q hq (by rw [e]; exact hj)]
          exact r5 j hj
        · by_cases q : j = i
          · rw [q]; exact getD_set_self
          · rw [getD_set_ne true (fun h => q h.symm)]; exact hdone j hje hjs hjn
        · rw [put_slot]
          by_cases e : d = t
          · subst e
            by_cases hsz : d < a.tmps.size
            · rw [if_pos ⟨rfl, hsz⟩]
              show some (A.tmps.getD d undef) = A.tmps[d]?
              rw [hlike.size] at hsz
              simp [hsz]
            · rw [if_neg (fun h => hsz h.2), Array.getElem?_eq_none (Nat.le_of_not_lt hsz), Array.getElem?_eq_none (by rw [← hlike.size]; exact Nat.le_of_not_lt hsz)]
          · rw [if_neg (fun h => e (by cases h.1; rfl))]
            refine hlike.slot t fun j oj hj hju hjc hjt => ?_
            by_cases q : j = i
            · subst q
              rw [ho] at hj
              cases hj
              rw [hdd] at hjt
              cases hjt
              exact e rfl
            · exact ht j oj hj (by rw [getD_set_ne true (fun h => q h.symm)]; exact hju) hjc hjt
theorem region_flowN {id : Nat} {a : Act} {w : World} (effs : List (Nat × List Nat)) (last : Nat) (l : List (Tmp × Value)) (hm : P.follows .mixedOrders = true) (hB : flowNB .any ops effs last = true) (hnd : (effs.map (·.1)).Nodup) (hl : fillsB ops (effs.map (·.1)) l = true)
    (hflow : FlowN P .any ops (effs.map (·.1)) Q effs.length effs (fills a l) w.drew) : (Code.region id ops true).wp P Q a w := by
  unfold flowNB at hB
  simp only [Bool.and_eq_true, List.all_eq_true, List.mem_range, decide_eq_true_eq] at hB
  obtain ⟨⟨⟨h1, h2⟩, h3⟩, h4⟩ := hB
  have hls : last < ops.size := by
    obtain ⟨p, hp, e⟩ := List.mem_map.1 (List.contains_iff_mem.1 h3)
    rw [← e]; exact (h2 p hp).1
  refine wp_region_any hm (wpAny_flowN (P := P) (Q := Q) h1 h4 h3 hls ops.size effs.length (Array.replicate ops.size false) a (fills a l) w.drew effs (left_all _ _ (Nat.le_refl _)) (by simp) rfl hnd (fun p hp => ⟨List.contains_iff_mem.2 (List.mem_map.2 ⟨p, hp, rfl⟩), (h2 p hp).1, by simp [(h2 p hp).1], (h2 p hp).2, fun j hj => ?_⟩) (fun i hi _ hn => ?_) (fun i hi hl => by rw [show (Array.replicate ops.size false).getD i true = false by simp [hi]] at hl; cases hl) (fills_alike l a hl) hflow)
  · have h5 := (h2 p hp).2
    unfold lateB at h5
    have h6 := List.all_eq_true.1 h5 j hj
    simp only [Bool.and_eq_true, decide_eq_true_eq] at h6
    simp [h6.1.2]
  · obtain ⟨p, hp, e⟩ := List.mem_map.1 (List.contains_iff_mem.1 hi)
    exact absurd e (hn p hp)

/-! ### In hand -/
/-- One effect's step. -/
def StepN (P : Program) (md : Region.Mode) (ops : Array Oper) (eff : List Nat) (Q : Exit → Act → World → Prop) (n : Nat) (p : Nat × List Nat) (rest : List (Nat × List Nat)) (A : Act) (w : World) : Prop := ∃ o, ops[p.1]? = some o ∧
      ((∃ v w', ((execOp A.eval o).run P w = .ok (.value v) w' ∨ ((execOp A.eval o).run P w = .ok .skip w' ∧ v = undef)) ∧ ∃ l, fillsL ops p.2 l = true ∧ FlowN P md ops eff Q n rest (fills (A.put o.dst v) l) w') ∨
      ∃ f args, (execOp A.eval o).run P w = .ok (.enter f args) w ∧ Calls P f args w fun e w' => ∃ v, e = .returned v ∧ ∃ l, fillsL ops p.2 l = true ∧ FlowN P md ops eff Q n rest (fills (A.put o.dst v) l) w')
def readyN (md : Region.Mode) (ops : Array Oper) (rest : List (Nat × List Nat)) (q : Nat × List Nat) : Bool := rest.all fun r => !(deps md ops q.1).contains r.1
variable {eff : List Nat} {n : Nat} {rest : List (Nat × List Nat)} {A : Act} {w : World}
/-- Only the one may come next. -/
theorem flowN_only (p : Nat × List Nat) (rest' : List (Nat × List Nat)) (hone : (rest.all fun q => decide (q = p) || !readyN md ops rest q) = true) (hr : (rest.filter fun q => !(q.1 == p.1)) = rest') (run : RunsN P ops eff (offs rest) A w) (st : StepN P md ops eff Q n p rest' A w) : FlowN P md ops eff Q (n + 1) rest A w := by
  refine ⟨run, fun q hq hrd => ?_⟩
  have h := List.all_eq_true.1 hone q hq
  rw [show readyN md ops rest q = true from hrd] at h
  have e : q = p := by simpa using h
  subst e
  rw [hr]
  exact st
/-- One of the two may come next. -/
theorem flowN_either (p p' : Nat × List Nat) (rest1 rest2 : List (Nat × List Nat)) (hone : (rest.all fun q => decide (q = p) || decide (q = p') || !readyN md ops rest q) = true) (hr1 : (rest.filter fun q => !(q.1 == p.1)) = rest1) (hr2 : (rest.filter fun q => !(q.1 == p'.1)) = rest2) (run : RunsN P ops eff (offs rest) A w) (st1 : StepN P md ops eff Q n p rest1 A w) (st2 : StepN P md ops eff Q n p' rest2 A w) : FlowN P md ops eff Q (n + 1) rest A w := by
  refine ⟨run, fun q hq hrd => ?_⟩
  have h := List.all_eq_true.1 hone q hq
  rw [show readyN md ops rest q = true from hrd] at h
  have e : q = p ∨ q = p' := by simpa using h
  rcases e with rfl | rfl
  · rw [hr1]; exact st1
  · rw [hr2]; exact st2
theorem stepN_call {e : Nat} {L : List Nat} (o : Oper) (d : Option Tmp) (f : FuncId) (args : Array Value) (ho : ops[e]? = some o) (hd : o.dst = d) (he : (execOp A.eval o).run P w = .ok (.enter f args) w) (hn : Calls P f args w fun z w' => ∃ v, z = .returned v ∧ ∃ l, fillsL ops L l = true ∧ FlowN P md ops eff Q n rest (fills (A.put d v) l) w') : StepN P md ops eff Q n (e, L) rest A w := by
  subst hd
  exact ⟨o, ho, .inr ⟨f, args, he, hn⟩⟩
theorem stepN_val {e : Nat} {L : List Nat} (o : Oper) (d : Option Tmp) (v : Value) (w' : World) (l : List (Tmp × Value)) (ho : ops[e]? = some o) (hd : o.dst = d) (he : (execOp A.eval o).run P w = .ok (.value v) w') (hl : fillsL ops L l = true) (hn : FlowN P md ops eff Q n rest (fills (A.put d v) l) w') : StepN P md ops eff Q n (e, L) rest A w := by
  subst hd
  exact ⟨o, ho, .inl ⟨v, w', .inl he, l, hl, hn⟩⟩
theorem stepN_skip {e : Nat} {L : List Nat} (o : Oper) (w' : World) (l : List (Tmp × Value)) (ho : ops[e]? = some o) (hd : o.dst = none) (he : (execOp A.eval o).run P w = .ok .skip w') (hl : fillsL ops L l = true) (hn : FlowN P md ops eff Q n rest (fills A l) w') : StepN P md ops eff Q n (e, L) rest A w :=
  ⟨o, ho, .inl ⟨undef, w', .inr ⟨he, rfl⟩, l, hl, by rw [hd]; exact hn⟩⟩
theorem flowN_done (h : Q .normal A w) : FlowN P md ops eff Q 0 rest A w := h
end Go.Proofs.Ythjcdloaclailaa
