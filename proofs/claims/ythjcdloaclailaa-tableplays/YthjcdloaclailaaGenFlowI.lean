/-
  A region that draws its order, whose effects come one behind the other, and whose calm operations run in every world of which a thing I holds: they are gone through once, not once for each effect. No condition but those told at each sentence.
-/
import Derived.Test.YthjcdloaclailaaGenUse
import Derived.Test.YthjcdloaclailaaGenFlowG
namespace Go.Proofs.Ythjcdloaclailaa
open Go.RowKit Go.Deep
variable {P : Program} {ops : Array Oper} {Q : Exit → Act → World → Prop} {eff : List Nat} {I : World → Prop}

def FlowI (P : Program) (ops : Array Oper) (I : World → Prop) (Q : Exit → Act → World → Prop) : List Nat → Act → World → Prop
  | [], A, w => Q .normal A w
  | e :: es, A, w => I w ∧ ∃ o, ops[e]? = some o ∧ ((∃ v w', ((execOp A.eval o).run P w = .ok (.value v) w' ∨ ((execOp A.eval o).run P w = .ok .skip w' ∧ v = undef)) ∧ FlowI P ops I Q es (A.put o.dst v) w') ∨
      ∃ f args, (execOp A.eval o).run P w = .ok (.enter f args) w ∧ Calls P f args w fun e w' => ∃ v, e = .returned v ∧ FlowI P ops I Q es (A.put o.dst v) w')
def keepB (ops : Array Oper) (eff : List Nat) (l : List (Tmp × Value)) : Bool := eff.all fun e => l.all fun p => decide ((ops[e]?.bind (·.dst)) ≠ some p.1)
theorem evH_put {A : Act} {d : Option Tmp} {v : Value} : ∀ {l : List (Tmp × Value)}, (∀ p ∈ l, d ≠ some p.1) → EvH A l → EvH (A.put d v) l
  | [], _, _ => trivial
  | (s, u) :: r, hd, h => ⟨by rw [put_slot, if_neg (fun q => hd (s, u) (by simp) q.1)]; exact h.1, evH_put (fun p hp => hd p (by simp [hp])) h.2⟩
theorem flow_of_I (l : List (Tmp × Value)) (hr : ∀ A w, EvH A l → I w → Runs P ops eff A w) (hd : keepB ops eff l = true) : ∀ (es : List Nat) (A : Act) (w : World), (∀ e ∈ es, e ∈ eff) → EvH A l → FlowI P ops I Q es A w → Flow P ops eff Q es A w
  | [], _, _, _, _, h => h
  | e :: es, A, w, hm, hl, ⟨hI, o, ho, h⟩ => by
    have hs : ∀ p ∈ l, o.dst ≠ some p.1 := fun p hp => by
      have h1 := List.all_eq_true.1 (List.all_eq_true.1 hd e (hm e (by simp))) p hp
      rw [ho] at h1
      exact of_decide_eq_true h1
    refine ⟨hr A w hl hI, o, ho, ?_⟩
    rcases h with ⟨v, w', h1, h2⟩ | ⟨f, args, h1, h2⟩
    · exact .inl ⟨v, w', h1, flow_of_I l hr hd es _ _ (fun e he => hm e (by simp [he])) (evH_put hs hl) h2⟩
    · refine .inr ⟨f, args, h1, h2.mono ?_⟩
      rintro x w' ⟨v, rfl, h3⟩
      exact ⟨v, rfl, flow_of_I l hr hd es _ _ (fun e he => hm e (by simp [he])) (evH_put hs hl) h3⟩
theorem region_fillI {id : Nat} {a : Act} {w : World} (eff : List Nat) (l known : List (Tmp × Value)) (I : World → Prop) (hm : P.follows .mixedOrders = true) (hB : flowB .any ops eff = true) (hl : fillsB ops eff l = true) (hk : EvH (fills a l) known) (hd : keepB ops eff known = true)
    (hr : ∀ A w, EvH A known → I w → Runs P ops eff A w) (hflow : FlowI P ops I Q eff (fills a l) w.drew) : (Code.region id ops true).wp P Q a w :=
  region_fill eff l hm hB hl (flow_of_I known hr hd eff _ _ (fun _ h => h) hk hflow)
variable {e : Nat} {es : List Nat} {A : Act} {w : World}
theorem flowI_val (d : Option Tmp) (v : Value) (w' : World) (o : Oper) (ho : ops[e]? = some o) (hd : o.dst = d) (hI : I w) (he : (execOp A.eval o).run P w = .ok (.value v) w') (hn : FlowI P ops I Q es (A.put d v) w') : FlowI P ops I Q (e :: es) A w := by
  subst hd
  exact ⟨hI, o, ho, .inl ⟨v, w', .inl he, hn⟩⟩
theorem flowI_ent (d : Option Tmp) (f : FuncId) (args : Array Value) (o : Oper) (ho : ops[e]? = some o) (hd : o.dst = d) (hI : I w) (he : (execOp A.eval o).run P w = .ok (.enter f args) w) (hn : Calls P f args w fun e w' => ∃ v, e = .returned v ∧ FlowI P ops I Q es (A.put d v) w') : FlowI P ops I Q (e :: es) A w := by
  subst hd
  exact ⟨hI, o, ho, .inr ⟨f, args, he, hn⟩⟩
theorem flowI_row (o : Oper) (ho : ops[e]? = some o) (hI : I w) (hd : o.dst = none) (ty : TypeId) (x y : Operand) (hop : o.op = .store ty x y)
    (g : Nat) (cells : Array Value) (hx : A.eval x = .pointer (some ⟨g, 0, none⟩)) (hy : A.eval y = .agg cells) (t : TypeId) (old : Array Value) (hg : w.heap[g]? = some (.cells old t (0, 0))) (hi : (P.info? ty).map (·.size) = some cells.size)
    (hold : old.size = cells.size) (h1 : cells.all (·.oneCell') = true) (hn : FlowI P ops I Q es A (w.setRow g cells)) : FlowI P ops I Q (e :: es) A w := by
  refine ⟨hI, o, ho, .inl ⟨undef, w.setRow g cells, .inr ⟨?_, rfl⟩, by rw [hd]; exact hn⟩⟩
  unfold execOp
  simp only [hop, hx, hy, Instr.storeAt, Instr.sureAddr, Sem.run_bind, Sem.run_pure, Result.andThen_ok, run_storeVar_row w g t ty old cells hg hi hold h1]
/-- An operation that does without a value. -/
theorem flowI_skip (w' : World) (o : Oper) (ho : ops[e]? = some o) (hd : o.dst = none) (hI : I w) (he : (execOp A.eval o).run P w = .ok .skip w') (hn : FlowI P ops I Q es A w') : FlowI P ops I Q (e :: es) A w :=
  ⟨hI, o, ho, .inl ⟨undef, w', .inr ⟨he, rfl⟩, by rw [hd]; exact hn⟩⟩
end Go.Proofs.Ythjcdloaclailaa
