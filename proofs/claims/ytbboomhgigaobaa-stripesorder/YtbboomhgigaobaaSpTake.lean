/-
  What Take of package stripes does when it is called. No condition but those told at each sentence.
-/
import Derived.Test.YtbboomhgigaobaaSpLens
namespace Go.Proofs.Ytbboomhgigaobaa.Rn
open Go.RowKit Go.Deep
variable {W w w' : World} {l : List Ob} {i j : Nat} {X : Sp} {st : St} {q q' : List Int} {L L' : Int}

theorem m_take (a : Addr) (w : World) : (method 184 43 (.pointer (some a)) "Take").run Try.prog w = .ok (64, .pointer (some a)) w := by kernel_rfl
/-- The first of the first ring that holds some, whether there is one, and the rings behind it. -/
def takeN (st : St) : Int × Bool × St :=
  match st with
  | [] => (0, false, [])
  | (q, L) :: r => if 0 < q.length then (q.getD 0 0, true, (q.tail, L) :: r) else ((takeN r).1, (takeN r).2.1, (q, L) :: (takeN r).2.2)
theorem takeN_no : ∀ {st : St}, (∀ s ∈ st, s.1 = []) → takeN st = (0, false, st)
  | [], _ => rfl
  | (q, L) :: r, h => by
    have hq : q = [] := h (q, L) (by simp)
    subst hq
    have ih := takeN_no (st := r) fun s hs => h s (by simp [hs])
    simp [takeN, ih]
theorem takeN_yes : ∀ {st : St} {k : Nat} {q : List Int} {L : Int}, (∀ j, j < k → ∀ s, st[j]? = some s → s.1 = []) → st[k]? = some (q, L) → 0 < q.length → takeN st = (q.getD 0 0, true, st.set k (q.tail, L))
  | [], k, q, L, _, h, _ => by simp at h
  | (p, M) :: r, 0, q, L, _, h, hq => by
    simp at h
    obtain ⟨rfl, rfl⟩ := h
    simp [takeN, hq]
  | (p, M) :: r, k + 1, q, L, h0, h, hq => by
    have hp : p = [] := h0 0 (by omega) (p, M) rfl
    subst hp
    have ih := takeN_yes (st := r) (k := k) (fun j hj s hs => h0 (j + 1) (by omega) s (by simpa using hs)) (by simpa using h) hq
    simp [takeN, ih]
theorem take_p (h : Apt W w l) (hi : l[i]? = some (obSp X st)) : Calls Try.prog 10 #[ptr X.S] w fun e w' => e = .returned (.tuple #[.int .i64 (takeN st).1, .bool (takeN st).2.1]) ∧ Apt W w' (l.set i (obSp X (takeN st).2.2)) := by
  obtain ⟨hk, k1, k2, c0, _, _, lS, lR⟩ := sp_head h hi
  have hs : ∀ j, j < X.k → ∃ q L, st[j]? = some (q, L) := fun j hj => ⟨_, _, List.getElem?_eq_getElem (by omega)⟩
  have hsame : ∀ {j : Nat} {s : List Int × Int}, st[j]? = some s → st.set j s = st := fun {j s} hj => by
    obtain ⟨h1, h2⟩ := List.getElem?_eq_some_iff.1 hj
    subst h2
    exact List.set_getElem_self h1
  have isame : l.set i (obSp X st) = l := by
    obtain ⟨h1, h2⟩ := List.getElem?_eq_some_iff.1 hi
    rw [← h2]
    exact List.set_getElem_self h1
  have H : Hid (Apt W w l) := h
  have mt := m_take
  clear h
  unfold ptr at *
  go_enter Try.func10, Try.ntmps10
  go_wp2
  go_loopw [5, 6, 7, 13] (fun _ _ _ i wr => ∃ k : Nat, k ≤ X.k ∧ i = .int .i64 (k : Int) ∧ (∀ j, j < k → ∀ s, st[j]? = some s → s.1 = []) ∧ Apt W wr l) (fun _ _ _ i _ => X.k - (intOf i).toNat)
  case atStart => exact ⟨0, by omega, rfl, fun j hj => by omega, H.out⟩
  case round =>
    clear H
    obtain ⟨k, hk', rfl, hf, hx⟩ := hrel
    have hx : Hid (Apt W wr l) := hx
    have hf : Hid (∀ j, j < k → ∀ s, st[j]? = some s → s.1 = []) := hf
    by_cases hlt : k < X.k
    · obtain ⟨q, L, hq⟩ := hs k hlt
      have a1 := take_r hx.out hi hq
      have ck := (sp_head hx.out hi).2.2.2.2.2.1 k hlt
      have lR1 := (sp_head hx.out hi).2.2.2.2.2.2.2
      have hd : decide ((k : Int) < (X.k : Int)) = true := by rw [decide_eq_true_eq]; omega
      have hq : Hid (st[k]? = some (q, L)) := hq
      unfold spV at ck
      unfold ptr at *
      clear hs hx
      by_cases hl : 0 < q.length
      · rw [decide_eq_true hl] at a1
        obtain ⟨x, hx⟩ : ∃ x, Hid (x = q.getD 0 0) := ⟨_, rfl⟩
        rw [← hx.out] at a1
        have hl : Hid (0 < q.length) := hl
        go_wp2_with (go_at_call 64; refine a1.mono ?_; rintro e w2 ⟨rfl, h2⟩; clear a1 ck lR1; have h2 : Hid (Apt W w2 (l.set i (obSp X (st.set k (q.tail, L))))) := h2)
        go_ret2
        rw [takeN_yes hf.out hq.out hl.out, ← hx.out]
        exact ⟨rfl, h2.out⟩
      · obtain rfl : q = [] := List.eq_nil_of_length_eq_zero (by omega)
        have a1 : Calls Try.prog 64 #[.pointer (some ⟨X.b k + 1, 0, none⟩)] wr fun e w' => e = .returned (.tuple #[.int .i64 0, .bool false]) ∧ Apt W w' l := by
          refine a1.mono ?_
          rintro e w' ⟨rfl, h2⟩
          refine ⟨rfl, ?_⟩
          rw [show (List.tail ([] : List Int)) = [] from rfl, hsame hq.out, isame] at h2
          exact h2
        have hf2 : Hid (∀ j, j < k + 1 → ∀ s, st[j]? = some s → s.1 = []) := fun j hj s hs => by
          by_cases e : j = k
          · subst e
            have := hs.symm.trans hq.out
            cases this
            rfl
          · exact hf.out j (by omega) s hs
        go_wp2_with (go_at_call 64; refine a1.mono ?_; rintro e w2 ⟨rfl, h2⟩; clear a1 ck lR1; have h2 : Hid (Apt W w2 l) := h2)
        go_roundw
        case rel => exact ⟨k + 1, by omega, by go_num, hf2.out, h2.out⟩
        case measure => simp [intOf]; omega
    · obtain rfl : k = X.k := by omega
      have hd : decide ((X.k : Int) < (X.k : Int)) = false := by rw [decide_eq_false_iff_not]; omega
      go_wp2
      go_ret2
      rw [takeN_no fun s hs => by
        obtain ⟨j, hj⟩ := List.mem_iff_getElem?.1 hs
        exact hf.out j (by have := (List.getElem?_eq_some_iff.1 hj).1; omega) s hj, isame]
      exact ⟨rfl, hx.out⟩
end Go.Proofs.Ytbboomhgigaobaa.Rn
