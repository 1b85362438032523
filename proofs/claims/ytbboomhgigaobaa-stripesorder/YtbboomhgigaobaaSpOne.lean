/-
  Stripes that have lost nothing. No condition but those told at each sentence.
-/
import Derived.Test.YtbboomhgigaobaaSpMore
import Derived.Test.YtbboomhgigaobaaGenFlowG
namespace Go.Proofs.Ytbboomhgigaobaa.Rn
open Go.RowKit Go.Deep
variable {W w w' w2 : World} {l : List Ob} {i j k kk m y N : Nat} {X Y : Sp} {st : St} {seed : Int} {q q' : List Int} {L L' : Int} {p p' : Option Addr} {c c' n' : Nat}

theorem sum_set (f : List Int × Int → Int) {s s' : List Int × Int} : ∀ {st : St} {j : Nat}, st[j]? = some s → ((st.set j s').map f).sum = (st.map f).sum - f s + f s'
  | a :: r, 0, h => by
    simp at h
    subst h
    simp
    omega
  | a :: r, j + 1, h => by
    have := sum_set f (s' := s') (st := r) (j := j) (by simpa using h)
    rw [List.set_cons_succ, List.map_cons, List.map_cons, List.sum_cons, List.sum_cons, this]
    omega
theorem part_le (f : List Int × Int → Int) {s : List Int × Int} : ∀ {st : St} {j : Nat}, (∀ s ∈ st, 0 ≤ f s) → st[j]? = some s → 0 ≤ (st.map f).sum ∧ f s ≤ (st.map f).sum
  | [], j, _, h => by simp at h
  | [a], 0, h0, h => by
    simp at h
    subst h
    have := h0 a (by simp)
    simp
    omega
  | [a], j + 1, h0, h => by simp at h
  | a :: b :: r, 0, h0, h => by
    simp at h
    subst h
    have ha := h0 a (by simp)
    have := part_le f (st := b :: r) (j := 0) (fun s hs => h0 s (by simp [List.mem_cons.1 hs])) rfl
    rw [List.map_cons, List.sum_cons]
    omega
  | a :: b :: r, j + 1, h0, h => by
    have ha := h0 a (by simp)
    have := part_le f (st := b :: r) (j := j) (fun s hs => h0 s (by simp [List.mem_cons.1 hs])) (by simpa using h)
    rw [List.map_cons, List.sum_cons]
    omega
/-- Nothing is lost, k numbers are held. -/
def Flt (st : St) (k : Nat) : Prop := (∀ s ∈ st, s.2 = 0) ∧ (st.map lenO).sum = (k : Int)
theorem flt_zero (k : Nat) : Flt (freshN k) 0 :=
  ⟨fun s hs => by rw [List.eq_of_mem_replicate hs], sum_zero lenO _ rfl k⟩
theorem allN_len (st : St) : ((allN st).length : Int) = (st.map lenO).sum := by
  have := upN_len st st.length
  rwa [upN_all rfl, sumN_all lenO rfl] at this
theorem one_offer (h : Apt W w l) (hi : l[i]? = some (obSp Y st)) (hY : Is Y kk N seed) (hst : Flt st k) (hk : k < N) (t n : Int) :
    Calls Try.prog 15 #[ptr Y.S, .int .i64 t, .int .i64 n] w fun e w' => ∃ st', e = .returned (.bool true) ∧ Flt st' (k + 1) ∧ Apt W w' (l.set i (obSp Y st')) := by
  obtain ⟨rfl, rfl, rfl⟩ := hY
  obtain ⟨h1, h2, _⟩ := sp_head h hi
  have hlt := (ofT_lt Y.seed t h2).1
  obtain ⟨⟨q, L⟩, hq⟩ : ∃ s, st[ofT Y.seed Y.k t]? = some s := ⟨_, List.getElem?_eq_getElem (by omega)⟩
  have hL : L = 0 := hst.1 _ (List.mem_of_getElem? hq)
  subst hL
  have hp := (part_le lenO (fun s _ => by unfold lenO; omega) hq).2
  rw [hst.2] at hp
  have hql : q.length < Y.N := by
    have hp : (q.length : Int) ≤ k := hp
    omega
  have c := offer_p h hi t n hq (by decide)
  rw [offQ, offL, if_pos hql, if_pos hql, decide_eq_true hql] at c
  refine c.mono ?_
  rintro e w' ⟨rfl, h3⟩
  refine ⟨_, rfl, ⟨fun s hs => ?_, ?_⟩, h3⟩
  · rcases List.mem_or_eq_of_mem_set hs with hs | rfl
    · exact hst.1 s hs
    · rfl
  · rw [sum_set lenO hq, hst.2]
    simp [lenO]
    omega
theorem one_drain (h : Apt W w l) (hi : l[i]? = some (obSp Y st)) (hst : Flt st k) :
    Calls Try.prog 13 #[ptr Y.S] w fun e w' => ∃ p c, e = .returned (.slice p k c) ∧ Apt W w' (l.set i (obSp Y (emptyN st)) ++ [obV p c (allN st)]) := by
  have e : (allN st).length = k := by have := allN_len st; rw [hst.2] at this; omega
  have := drain_p h hi
  rwa [e] at this
end Go.Proofs.Ytbboomhgigaobaa.Rn
