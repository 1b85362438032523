/-
  What holds of the climb and the window that Play keeps, however long its row (mathematics alone). No condition.
-/
import Derived.Test.YtlmcopenbeammaaClPlay
namespace Go.Proofs.Ytlmcopenbeammaa.Cm
open Go.RowKit Go.Deep

/-- Within the ends, and no more counted than k. -/
structure CqIn (c : Int) (k : Nat) (q : Cq) : Prop where
  h : 0 ≤ q.h
  m : 0 ≤ q.m
  hm : q.h + q.m ≤ k
  l : 0 ≤ q.l ∧ q.l ≤ 65536
  s : -fs c ≤ q.s ∧ q.s ≤ fs c
  x : min 1 (wh c) ≤ q.x ∧ q.x ≤ wh c - wh c / 5
theorem CqIn.cnt {c : Int} {k : Nat} {q : Cq} (i : CqIn c k q) (b : Bool) : CqIn c (k + 1) (q.cnt b) := by
  obtain ⟨h, m, hm, l, s, x⟩ := i
  have f := fs_le c
  unfold Cq.cnt
  cases b <;> refine ⟨?_, ?_, ?_, ?_, ?_, x⟩ <;> simp <;> (try unfold cc) <;> (try unfold cr) <;> (try unfold cs) <;> unfold mid <;> omega
theorem CqIn.trn {c : Int} {k : Nat} {q : Cq} (i : CqIn c k q) : CqIn c k (q.trn c) := by
  have f := fs_le c
  have e : cs q.s = q.s := by have := i.s; unfold cs mid; omega
  have hF : -fs c ≤ fa q.h q.m q.l q.s ∧ fa q.h q.m q.l q.s ≤ fs c := by
    have := i.s
    unfold fa; rw [e]; split <;> omega
  have hS : ∀ F r, -fs c ≤ F → F ≤ fs c → -fs c ≤ st F r c ∧ st F r c ≤ fs c := fun F r h0 h1 => by
    have k1 := @kp_le F
    have k2 := @kp_low F
    unfold st; split <;> (try split) <;> omega
  refine ⟨Int.le_refl _, Int.le_refl _, by show (0 : Int) + 0 ≤ k; omega, ?_, ?_, ?_⟩
  · show 0 ≤ rt (cc q.h) (cc q.m) ∧ rt (cc q.h) (cc q.m) ≤ 65536
    exact rt_le (cc_le _).1 (cc_le _).1
  · have k := hS (fa q.h q.m q.l q.s) (rt (cc q.h) (cc q.m) - cr q.l) hF.1 hF.2
    have e : (q.trn c).s = st (fa q.h q.m q.l q.s) (rt (cc q.h) (cc q.m) - cr q.l) c := rfl
    rw [e]
    exact k
  · have k := ws_le (wh c) q.x (fa q.h q.m q.l q.s)
    rw [wh_wh] at k
    have e : (q.trn c).x = ws (wh c) q.x (fa q.h q.m q.l q.s) := rfl
    rw [e]
    exact k
theorem pst_in (c p : Int) (z : Nat → Bool) : ∀ k, CqIn c k (pst c p z k)
  | 0 => by
    have f := fs_le c
    exact ⟨Int.le_refl _, Int.le_refl _, by show (0 : Int) + 0 ≤ _; omega, ⟨Int.le_refl _, by show (0 : Int) ≤ 65536; omega⟩, ⟨by show -fs c ≤ fs c; omega, Int.le_refl _⟩, wo_le c⟩
  | k + 1 => by
    have i := (pst_in c p z k).cnt (z k)
    show CqIn c (k + 1) ((pst c p z k).nx c p (z k))
    unfold Cq.nx
    split
    · exact i.trn
    · exact i
end Go.Proofs.Ytlmcopenbeammaa.Cm
