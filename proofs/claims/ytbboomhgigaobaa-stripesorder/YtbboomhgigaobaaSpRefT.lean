/-
  What Take of package pantryref13 does when it is called. Conditions: rings of at most 4096 numbers.
-/
import Derived.Test.YtbboomhgigaobaaSpRef
namespace Go.Proofs.Ytbboomhgigaobaa.Rn
open Go.RowKit Go.Deep
variable {W w w' w2 : World} {l : List Ob} {i j k N : Nat} {Y : Dp} {ds : Ds} {st : St} {q q' : List Int} {L L' : Int} {p p' : Option Addr} {c c' : Nat}

theorem set_same {α : Type} {l : List α} {i : Nat} {x : α} (h : l[i]? = some x) : l.set i x = l := by
  obtain ⟨h1, h2⟩ := List.getElem?_eq_some_iff.1 h
  subst h2
  exact List.set_getElem_self h1
theorem rtake_p (h : Apt W w l) (hi : l[i]? = some (obDp Y ds)) (hst : absD ds = st) (hm : ∀ s ∈ st, s.1.length ≤ 4096) :
    Calls Try.prog 11 #[ptr Y.Y] w fun e w' => ∃ ds', e = .returned (.tuple #[.int .i64 (takeN st).1, .bool (takeN st).2.1]) ∧ absD ds' = (takeN st).2.2 ∧ Apt W w' (l.set i (obDp Y ds')) := by
  have hlt : Hid (i < l.length) := (List.getElem?_eq_some_iff.1 hi).1
  have hlen : Hid (st.length = Y.k) := by
    rw [← hst]
    show (ds.map (·.2)).length = Y.k
    rw [List.length_map]; exact (dp_head h hi).1
  have k2 := (dp_head h hi).2.2.1
  have H : Hid (Apt W w (l.set i (obDp Y ds)) ∧ absD ds = st) := ⟨by rw [set_same hi]; exact h, hst⟩
  have hm : Hid (∀ s ∈ st, s.1.length ≤ 4096) := hm
  clear h hi hst
  unfold ptr at *
  go_enter Try.func11, Try.ntmps11
  go_wp2
  go_loopw [4, 5, 6] (fun iv _ _ wr => ∃ (k : Nat) (ds' : Ds), k ≤ Y.k ∧ iv = .int .i64 (k : Int) ∧ (∀ j, j < k → ∀ s, st[j]? = some s → s.1 = []) ∧ absD ds' = st ∧ Apt W wr (l.set i (obDp Y ds'))) (fun iv _ _ _ => Y.k - (intOf iv).toNat)
  case atStart => exact ⟨0, ds, by omega, rfl, fun j hj => by omega, H.out.2, H.out.1⟩
  case round =>
    clear H
    obtain ⟨k, ds, hk', rfl, hf, hst, hx⟩ := hrel
    have hx : Hid (Apt W wr (l.set i (obDp Y ds))) := hx
    have hst : Hid (absD ds = st) := hst
    have hf : Hid (∀ j, j < k → ∀ s, st[j]? = some s → s.1 = []) := hf
    have hil : Hid ((l.set i (obDp Y ds))[i]? = some (obDp Y ds)) := List.getElem?_set_self hlt.out
    obtain ⟨_, _, _, B, eB, c0, _, cR, lS, lR⟩ := dp_head hx.out hil.out
    by_cases hlt' : k < Y.k
    · obtain ⟨⟨q, L⟩, hq⟩ : ∃ s, st[k]? = some s := ⟨_, List.getElem?_eq_getElem (by have := hlen.out; omega)⟩
      obtain ⟨p, c, hd⟩ := absD_at (ds := ds) (by rw [hst.out]; exact hq)
      have a1 := rtake_r hx.out hil.out hd (hm.out _ (List.mem_of_getElem? hq))
      have ck := cR k hlt'
      have hq : Hid (st[k]? = some (q, L)) := hq
      have hdd : decide ((k : Int) < (Y.k : Int)) = true := by rw [decide_eq_true_eq]; omega
      obtain ⟨D, hD⟩ : ∃ D : Option Addr → Nat → Ds, Hid (D = fun p' c' => ds.set k ((p', c'), (q.tail, L))) := ⟨_, rfl⟩
      have hDa : Hid (∀ p' c', absD (D p' c') = st.set k (q.tail, L)) := fun p' c' => by rw [hD.out]; show absD (ds.set k _) = _; rw [absD_set, hst.out]
      have a1 : Calls Try.prog 29 #[ptr (Y.a k)] wr fun e w' => ∃ p' c', e = .returned (.tuple #[.int .i64 (q.getD 0 0), .bool (decide (0 < q.length))]) ∧ Apt W w' (l.set i (obDp Y (D p' c'))) := by
        refine a1.mono ?_
        rintro e w' ⟨p', c', rfl, h2⟩
        refine ⟨p', c', rfl, ?_⟩
        rw [List.set_set] at h2
        rw [hD.out]
        exact h2
      unfold ptr at *
      clear hx hd cR hil hm
      by_cases hl : 0 < q.length
      · rw [decide_eq_true hl] at a1
        obtain ⟨x, hx⟩ : ∃ x, Hid (x = q.getD 0 0) := ⟨_, rfl⟩
        rw [← hx.out] at a1
        have hl : Hid (0 < q.length) := hl
        go_wp2_with (go_at_call 29; refine a1.mono ?_; rintro e w2 ⟨p', c', rfl, h2⟩; clear a1 ck c0 lS lR; have h2 : Hid (Apt W w2 (l.set i (obDp Y (D p' c')))) := h2)
        go_ret2
        rw [takeN_yes hf.out hq.out hl.out, ← hx.out]
        exact ⟨D p' c', rfl, hDa.out _ _, h2.out⟩
      · obtain rfl : q = [] := List.eq_nil_of_length_eq_zero (by omega)
        have hDa : Hid (∀ p' c', absD (D p' c') = st) := fun p' c' => by
          rw [hDa.out]
          exact set_same hq.out
        have a1 : Calls Try.prog 29 #[.pointer (some ⟨Y.a k, 0, none⟩)] wr fun e w' => ∃ p' c', e = .returned (.tuple #[.int .i64 0, .bool false]) ∧ Apt W w' (l.set i (obDp Y (D p' c'))) := a1
        have hf2 : Hid (∀ j, j < k + 1 → ∀ s, st[j]? = some s → s.1 = []) := fun j hj s hs => by
          by_cases e : j = k
          · subst e
            have := hs.symm.trans hq.out
            cases this
            rfl
          · exact hf.out j (by omega) s hs
        go_wp2_with (go_at_call 29; refine a1.mono ?_; rintro e w2 ⟨p', c', rfl, h2⟩; clear a1 ck c0 lS lR; have h2 : Hid (Apt W w2 (l.set i (obDp Y (D p' c')))) := h2)
        go_roundw
        case rel => exact ⟨k + 1, D p' c', by omega, by go_num, hf2.out, hDa.out _ _, h2.out⟩
        case measure => simp [intOf]; omega
    · obtain rfl : k = Y.k := by omega
      have hd : decide ((Y.k : Int) < (Y.k : Int)) = false := by rw [decide_eq_false_iff_not]; omega
      go_wp2
      go_ret2
      rw [takeN_no fun s hs => by
        obtain ⟨j, hj⟩ := List.mem_iff_getElem?.1 hs
        exact hf.out j (by have := (List.getElem?_eq_some_iff.1 hj).1; have := hlen.out; omega) s hj]
      exact ⟨ds, rfl, hst.out, hx.out⟩
end Go.Proofs.Ytbboomhgigaobaa.Rn
