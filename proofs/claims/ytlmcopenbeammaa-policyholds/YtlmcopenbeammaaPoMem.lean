/-
  A policy in memory: its own block, its filter, rows and keys, apart from one another; what calls that touch one of these, or none, leave of it. No condition but those told at each sentence.
-/
import Derived.Test.YtlmcopenbeammaaGrFt
import Derived.Test.YtlmcopenbeammaaGenMapO
import Derived.Test.YtlmcopenbeammaaPoPure
import Derived.Test.YtlmcopenbeammaaClIn
import Derived.Deep.MidRow
namespace Go.Proofs.Ytlmcopenbeammaa
open Go.RowKit Go.Deep

/-- A filter stands where none of its blocks turns. -/
theorem Fl.out {w w' : World} {S F m : Nat} {seed : Int} {t : Fs} {G : Nat → Prop} (h : Fl w S F seed m t) (o : Out G w w') (hd : ∀ k, G k → ¬ (S ≤ k ∧ k ≤ F)) : Fl w' S F seed m t := by
  have hl := h.last
  have hlt := h.lt
  have hs := o.size
  obtain ⟨w1, hw1⟩ : ∃ w1 : World, w1 = { w' with heap := w.heap.extract 0 S ++ w'.heap.extract S w'.heap.size } := ⟨_, rfl⟩
  have b1 : ∀ k, k < S → w1.heap[k]? = w.heap[k]? := fun k hk => by
    rw [hw1]
    show (w.heap.extract 0 S ++ w'.heap.extract S w'.heap.size)[k]? = _
    rw [Array.getElem?_append_left (by simp; omega), Array.getElem?_extract]
    rw [if_pos (by omega)]; simp
  have b2 : ∀ k, S ≤ k → w1.heap[k]? = w'.heap[k]? := fun k hk => by
    rw [hw1]
    show (w.heap.extract 0 S ++ w'.heap.extract S w'.heap.size)[k]? = _
    rw [Array.getElem?_append_right (by simp; omega), Array.getElem?_extract]
    have e : (w.heap.extract 0 S).size = S := by simp; omega
    rw [e]
    by_cases q : k < w'.heap.size
    · rw [if_pos (by omega)]; congr 1; omega
    · rw [if_neg (by omega), Array.getElem?_eq_none (by omega)]
  have z1 : w1.heap.size = w'.heap.size := by rw [hw1]; simp; omega
  have f1 : ∀ a, w1.frozen? a = w'.frozen? a := fun a => by
    by_cases q : a.block < S
    · have : w1.frozen? a = w.frozen? a := by unfold World.frozen?; rw [b1 _ q]
      rw [this, o.froz]
    · unfold World.frozen?; rw [b2 _ (by omega)]
  have o1 : Off (F + 1) (w'.heap.size) w w1 := ⟨by rw [hw1]; exact o.os, by rw [hw1]; exact o.output, fun a => (f1 a).trans (o.froz a), by omega, fun k hk hb => by
    by_cases q : k < S
    · exact b1 k q
    · rw [b2 k (by omega)]; exact o.block k hk fun g => hd k g (by omega)⟩
  have o2 : Off 0 S w1 w' := ⟨by rw [hw1], by rw [hw1], fun a => (f1 a).symm, by omega, fun k hk hb => (b2 k (by omega)).symm⟩
  exact (h.off o1 (by omega)).off o2 (by omega)

namespace Po
open Cm
/-- A policy's own block. -/
def Pb (w : World) (A F X M : Nat) (C x p h m l s : Int) : Prop :=
  w.heap[A]? = some (.cells #[ptr F, ptr X, .map (some M), .int .i64 C, .int .i64 x, .int .i64 p, .int .i64 h, .int .i64 m, .int .i64 l, .int .i64 s] 55 (0, 0))
variable {w w' W : World} {A F X M S mw : Nat} {C x p h m l s seed : Int}
theorem Pb.lt (k : Pb w A F X M C x p h m l s) : A < w.heap.size := lt_of k
theorem Pb.cells (k : Pb w A F X M C x p h m l s) : w.cell? ⟨A, 0, none⟩ = some (.pointer (some ⟨F, 0, none⟩)) ∧ w.cell? ⟨A, 1, none⟩ = some (.pointer (some ⟨X, 0, none⟩)) ∧ w.cell? ⟨A, 2, none⟩ = some (.map (some M)) ∧
    w.cell? ⟨A, 3, none⟩ = some (.int .i64 C) ∧ w.cell? ⟨A, 4, none⟩ = some (.int .i64 x) ∧ w.cell? ⟨A, 5, none⟩ = some (.int .i64 p) :=
  ⟨cell_of k rfl, cell_of k rfl, cell_of k rfl, cell_of k rfl, cell_of k rfl, cell_of k rfl⟩
theorem Pb.free (k : Pb w A F X M C x p h m l s) (i : Nat) : w.frozen? ⟨A, i, none⟩ = false := by
  unfold Pb at k
  simp [World.frozen?, k]
/-- Its climb, and its quota, as parts of the block. -/
theorem Pb.climb (k : Pb w A F X M C x p h m l s) : w.rangeAt A 6 [.int .i64 h, .int .i64 m, .int .i64 l, .int .i64 s] := World.rangeAt_of_block k 6 4
theorem Pb.quota (k : Pb w A F X M C x p h m l s) : w.rangeAt A 3 [.int .i64 C, .int .i64 x, .int .i64 p] := World.rangeAt_of_block k 3 3
theorem Pb.there (k : Pb w A F X M C x p h m l s) (o n : Nat) (ho : o + n ≤ 10) : w.there A o n := fun j hj => by
  refine ⟨?_, k.free _⟩
  unfold Pb at k
  have h10 : o + j < 10 := by omega
  generalize o + j = i at h10
  simp only [World.cell?, k]
  rcases i with _ | _ | _ | _ | _ | _ | _ | _ | _ | _ | i <;> first | rfl | omega
theorem Pb.set (k : Pb w A F X M C x p h m l s) (i : Nat) (v : Value) : (w.setCell ⟨A, i, none⟩ v).heap[A]? = some (.cells ((#[ptr F, ptr X, .map (some M), .int .i64 C, .int .i64 x, .int .i64 p, .int .i64 h, .int .i64 m, .int .i64 l, .int .i64 s] : Array Value).setIfInBounds i v) 55 (0, 0)) := blk_set k i v
theorem Pb.setClimb (k : Pb w A F X M C x p h m l s) (h' m' l' s' : Int) : Pb (w.setCells A 6 [.int .i64 h', .int .i64 m', .int .i64 l', .int .i64 s']) A F X M C x p h' m' l' s' :=
  blk_set (blk_set (blk_set (blk_set k 6 _) 7 _) 8 _) 9 _
theorem Pb.setQuota (k : Pb w A F X M C x p h m l s) (C' x' p' : Int) : Pb (w.setCells A 3 [.int .i64 C', .int .i64 x', .int .i64 p']) A F X M C' x' p' h m l s :=
  blk_set (blk_set (blk_set k 3 _) 4 _) 5 _
theorem out_setCells (w : World) (A : Nat) : ∀ (o : Nat) (vs : List Value), Out (· = A) w (w.setCells A o vs) := by
  intro o vs
  induction vs generalizing o w with
  | nil => exact Out.refl _ _
  | cons v r ih => exact ((Out.refl (· = A) w).setCell (a := ⟨A, o, none⟩) rfl v).trans (ih _ _) fun _ => Or.inl

/-- A policy's state. -/
structure Ps where
  f : Fs
  t : Ds
  k : Int → Option Int
  q : Cq
def keyC (k : Int → Option Int) (x : Int) : Option Value := (k x).map (.int .i64)
/-- A policy at block A: its filter in the blocks S to F, its rows at X in those of G, its keys at M. -/
structure Pof (w : World) (A S F X M : Nat) (G : Nat → Prop) (C seed : Int) (mw : Nat) (y : Ps) : Prop where
  pb : Pb w A F X M C y.q.x (pr C y.q.x) y.q.h y.q.m y.q.l y.q.s
  fl : Fl w S F seed mw y.f
  dq : Dq w X G y.t
  mp : MapO Try.prog 3 w M 1 65536 (.int .i64 0) (keyC y.k)
  aF : ¬ (S ≤ A ∧ A ≤ F)
  mF : ¬ (S ≤ M ∧ M ≤ F)
  gF : ∀ k, G k → ¬ (S ≤ k ∧ k ≤ F)
  aG : ¬ G A
  mG : ¬ G M
def foot (A S F M : Nat) (G : Nat → Prop) (k : Nat) : Prop := k = A ∨ (S ≤ k ∧ k ≤ F) ∨ k = M ∨ G k
namespace Pof
variable {G G' : Nat → Prop} {y : Ps}
theorem am (k : Pof w A S F X M G C seed mw y) : A ≠ M := k.mp.apart k.pb
theorem lt (k : Pof w A S F X M G C seed mw y) : ∀ i, foot A S F M G i → i < w.heap.size := fun i hi => by
  rcases hi with rfl | hi | rfl | hi
  · exact k.pb.lt
  · have := k.fl.last; omega
  · exact k.mp.lt
  · exact k.dq.lt hi
/-- Nothing of it turns. -/
theorem out {Ψ : Nat → Prop} (k : Pof w A S F X M G C seed mw y) (o : Out Ψ w w') (hd : ∀ i, foot A S F M G i → ¬ Ψ i) : Pof w' A S F X M G C seed mw y :=
  ⟨(o.block A k.pb.lt (hd A (.inl rfl))).trans k.pb, k.fl.out o fun i hi h => hd i (.inr (.inl h)) hi, k.dq.out o fun i hi => hd i (.inr (.inr (.inr hi))), k.mp.keep (o.block M k.mp.lt (hd M (.inr (.inr (.inl rfl))))), k.aF, k.mF, k.gF, k.aG, k.mG⟩
theorem grown (k : Pof w A S F X M G C seed mw y) (g : Grown w w') : Pof w' A S F X M G C seed mw y := k.out (Out.of_grown g fun _ => False) fun _ _ => id
theorem drewN (k : Pof w A S F X M G C seed mw y) (n : Nat) : Pof (w.drewN n) A S F X M G C seed mw y := k.grown (grownDrewN (Grown.refl _) n)
/-- Its filter turns. -/
theorem filt {f' : Fs} (k : Pof w A S F X M G C seed mw y) (hf : Fl w' S F seed mw f') (o : Off S (F + 1 - S) w w') : Pof w' A S F X M G C seed mw { y with f := f' } ∧ Step (foot A S F M G) (foot A S F M G) w w' := by
  have oo : Out (fun i => S ≤ i ∧ i ≤ F) w w' := ⟨o.os, o.output, o.froz, o.size, fun i hi hn => o.block i hi (by omega)⟩
  exact ⟨⟨(oo.block A k.pb.lt k.aF).trans k.pb, hf, k.dq.out oo k.gF, k.mp.keep (oo.block M k.mp.lt k.mF), k.aF, k.mF, k.gF, k.aG, k.mG⟩, oo.wide fun i _ hi => .inr (.inl hi), fun _ => .inl⟩
/-- Its rows turn. -/
theorem rows {t' : Ds} (k : Pof w A S F X M G C seed mw y) (hd : Dq w' X G' t') (s : Step G G' w w') : Pof w' A S F X M G' C seed mw { y with t := t' } ∧ Step (foot A S F M G) (foot A S F M G') w w' := by
  have hF := k.fl.last
  refine ⟨⟨(s.out.block A k.pb.lt k.aG).trans k.pb, k.fl.out s.out k.gF, hd, k.mp.keep (s.out.block M k.mp.lt k.mG), k.aF, k.mF, fun i hi => ?_, fun h => ?_, fun h => ?_⟩, s.out.wide fun i _ hi => .inr (.inr (.inr hi)), fun i hi => ?_⟩
  · rcases s.new i hi with q | q
    · exact k.gF i q
    · omega
  · rcases s.new A h with q | q
    · exact k.aG q
    · have := k.pb.lt; omega
  · rcases s.new M h with q | q
    · exact k.mG q
    · have := k.mp.lt; omega
  · rcases hi with q | q | q | q
    · exact .inl (.inl q)
    · exact .inl (.inr (.inl q))
    · exact .inl (.inr (.inr (.inl q)))
    · exact (s.new i q).imp_left fun z => .inr (.inr (.inr z))
/-- Its keys turn. -/
theorem keys {k' : Int → Option Int} {m' : Int → Option Value} (k : Pof w A S F X M G C seed mw y) (hm : MapO Try.prog 3 w' M 1 65536 (.int .i64 0) m') (e : ∀ x, m' x = keyC k' x) (o : Out (· = M) w w') : Pof w' A S F X M G C seed mw { y with k := k' } ∧ Step (foot A S F M G) (foot A S F M G) w w' :=
  ⟨⟨(o.block A k.pb.lt k.am).trans k.pb, k.fl.out o fun i hi => by rw [hi]; exact k.mF, k.dq.out o fun i hi h => k.mG (by rw [← h]; exact hi), by rw [← show m' = keyC k' from funext e]; exact hm, k.aF, k.mF, k.gF, k.aG, k.mG⟩, o.wide fun i _ hi => .inr (.inr (.inl hi)), fun _ => .inl⟩
/-- Its own block turns. -/
theorem own {q' : Cq} (k : Pof w A S F X M G C seed mw y) (hb : Pb w' A F X M C q'.x (pr C q'.x) q'.h q'.m q'.l q'.s) (o : Out (· = A) w w') : Pof w' A S F X M G C seed mw { y with q := q' } ∧ Step (foot A S F M G) (foot A S F M G) w w' :=
  ⟨⟨hb, k.fl.out o fun i hi => by rw [hi]; exact k.aF, k.dq.out o fun i hi h => k.aG (by rw [← h]; exact hi), k.mp.keep (o.block M k.mp.lt fun h => k.am h.symm), k.aF, k.mF, k.gF, k.aG, k.mG⟩, o.wide fun i _ hi => .inl hi, fun _ => .inl⟩
end Pof
theorem zeroI (w : World) : (zeroValue 3).run Try.prog w = .ok (.int .i64 0) w := by kernel_rfl
end Po
end Go.Proofs.Ytlmcopenbeammaa
