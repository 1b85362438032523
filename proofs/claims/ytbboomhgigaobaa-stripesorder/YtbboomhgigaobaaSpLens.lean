/-
  What Lens of package stripes does when it is called. No condition but those told at each sentence.
-/
import Derived.Test.YtbboomhgigaobaaSpSum
namespace Go.Proofs.Ytbboomhgigaobaa.Rn
open Go.RowKit Go.Deep
variable {W w w' : World} {l : List Ob} {i j : Nat} {X : Sp} {st : St} {q q' : List Int} {L L' : Int}

theorem made_one (z : Value) (n j : Nat) (h : j < n) : (madeCells #[z] n)[j]? = some z := by
  simp [madeCells, Nat.mod_one, h]
theorem last_at (l : List Ob) (u : Ob) : (l ++ [u])[l.length]? = some u := List.getElem?_concat_length
theorem last_set (l : List Ob) (u v : Ob) : (l ++ [u]).set l.length v = l ++ [v] := by
  rw [List.set_append_right (h := Nat.le_refl _), Nat.sub_self]; rfl
/-- The last object turns. -/
theorem last_up {u v : Ob} (h : Apt W w (l ++ [u])) (hp : v.P w') (s : Step u.F v.F w w') : Apt W w' (l ++ [v]) := by
  have := h.upd (last_at l u) hp s
  rwa [last_set] at this
/-- A cell of a slice, written. -/
theorem vset {e : TypeId} {s n c B : Nat} {f : Nat → Value} (h : Apt W w l) (hi : l[i]? = some (obVec e s (some ⟨B, 0, none⟩) n c f)) (k : Nat) (v : Value) : Apt W (w.setCell ⟨B, k, none⟩ v) (l.set i (obVec e s (some ⟨B, 0, none⟩) n c fun j => if j = k then v else f j)) := by
  have hv : Vec w e s (some ⟨B, 0, none⟩) n c f := h.all i _ hi
  exact h.upd hi (o' := obVec e s (some ⟨B, 0, none⟩) n c fun j => if j = k then v else f j) (hv.set k v) ⟨(Out.refl (In (some ⟨B, 0, none⟩)) w).setCell (a := ⟨B, k, none⟩) (In.self B) v, fun _ => .inl⟩
theorem lens_p (h : Apt W w l) (hi : l[i]? = some (obSp X st)) : Calls Try.prog 23 #[ptr X.S] w fun e w' => ∃ p c, e = .returned (.slice p X.k c) ∧ (st.map lenO).length = X.k ∧ Apt W w' (l ++ [obV p c (st.map lenO)]) := by
  obtain ⟨hk, k1, k2, _⟩ := sp_head h hi
  have hmk := run_make_row' (P := Try.prog) 32 3 (.int .i64 0) 8 Try.underlying32 infoN rfl .i64 .i64 X.k (by omega) (by omega)
  obtain ⟨_, _, _, c0, _, _, lS, lR⟩ := sp_head h hi
  have h1 : Apt W (w.alloc (.cells (madeCells #[.int .i64 0] X.k) 3)) (l ++ [obVec 3 1 (some ⟨w.heap.size, 0, none⟩) X.k X.k fun _ => .int .i64 0]) :=
    h.add ((Grown.refl _).alloc _ _) (Vec.made w 3 #[.int .i64 0] X.k 1 (by unfold maxLen; omega) _ (fun j hj => made_one _ _ _ (by omega)) (by rw [madeSize]; omega)) fun k hk => by
      have hk : In (some ⟨w.heap.size, 0, none⟩) k := hk
      rw [hk.eq]; exact Nat.le_refl _
  have h1 : Hid (Apt W (w.alloc (.cells (madeCells #[.int .i64 0] X.k) 3)) (l ++ [obVec 3 1 (some ⟨w.heap.size, 0, none⟩) X.k X.k fun _ => .int .i64 0])) := h1
  have hi1 : ∀ u : Ob, (l ++ [u])[i]? = some (obSp X st) := fun u => by rw [List.getElem?_append_left (List.getElem?_eq_some_iff.1 hi).1]; exact hi
  have ml := m_len
  obtain ⟨B, hB⟩ : ∃ B, Hid (B = w.heap.size) := ⟨_, rfl⟩
  rw [show obVec 3 1 (some ⟨w.heap.size, 0, none⟩) X.k X.k (fun _ => .int .i64 0) = obVec 3 1 (some ⟨B, 0, none⟩) X.k X.k (fun _ => .int .i64 0) by rw [hB.out]] at h1
  have hs : ∀ j, j < X.k → ∃ q L, st[j]? = some (q, L) := fun j hj => ⟨_, _, List.getElem?_eq_getElem (by omega)⟩
  have hl : Hid (l.length = l.length) := rfl
  unfold ptr at *
  go_enter Try.func23, Try.ntmps23
  go_wp2
  rw [← hB.out]
  go_loopw [4, 5, 17] (fun _ _ i wr => ∃ (k : Nat) (f : Nat → Value), k ≤ X.k ∧ i = .int .i64 (k : Int) ∧ (∀ j, j < k → f j = ivL (st.map lenO) j) ∧ Apt W wr (l ++ [obVec 3 1 (some ⟨B, 0, none⟩) X.k X.k f])) (fun _ _ i _ => X.k - (intOf i).toNat)
  case atStart => exact ⟨0, _, by omega, rfl, fun j hj => by omega, h1.out⟩
  case round =>
    obtain ⟨k, f, hk', rfl, hf, hx⟩ := hrel
    by_cases hlt : k < X.k
    · obtain ⟨q, L, hq⟩ := hs k hlt
      have a1 := len_r hx (hi1 _) hq
      obtain ⟨_, _, _, _, _, cR, _, _⟩ := sp_head hx (hi1 _)
      have ck := cR k hlt
      have hv : Vec wr 3 1 (some ⟨B, 0, none⟩) X.k X.k f := hx.all l.length _ (last_at _ _)
      obtain ⟨B', e, lB, cB, fB, _⟩ := hv.opens (by omega)
      cases e
      have cBk := cB k (by omega)
      have fBk := fB k
      have hset := vset hx (last_at _ _) k (.int .i64 (q.length : Int))
      rw [last_set] at hset
      have hset : Hid (Apt W (wr.setCell ⟨B, k, none⟩ (.int .i64 (q.length : Int))) (l ++ [obVec 3 1 (some ⟨B, 0, none⟩) X.k X.k fun j => if j = k then .int .i64 (q.length : Int) else f j])) := hset
      have hf : Hid (∀ j, j < k + 1 → (fun j => if j = k then .int .i64 (q.length : Int) else f j) j = ivL (st.map lenO) j) := fun j hj => by
        by_cases e : j = k
        · subst e
          simp [ivL, lenO, hq]
        · simp only [if_neg e]
          exact hf j (by omega)
      have hd : decide ((k : Int) < (X.k : Int)) = true := by rw [decide_eq_true_eq]; omega
      clear hx hv cB fB cR hs hq
      unfold spV at ck
      unfold ptr at *
      go_wp2_with (go_at_call 61; refine a1.mono ?_; rintro e w' ⟨rfl, rfl⟩)
      go_roundw
      case rel => exact ⟨k + 1, _, by omega, by go_num, hf.out, hset.out⟩
      case measure => simp [intOf]; omega
    · obtain rfl : k = X.k := by omega
      have hd : decide ((X.k : Int) < (X.k : Int)) = false := by rw [decide_eq_false_iff_not]; omega
      have hlen : (st.map lenO).length = X.k := by rw [List.length_map]; exact hk
      have hx : Hid (Apt W wr (l ++ [obVec 3 1 (some ⟨B, 0, none⟩) X.k X.k f])) := hx
      go_wp2
      go_ret
      refine ⟨_, _, rfl, hlen, ?_⟩
      have hv : Vec wr 3 1 (some ⟨B, 0, none⟩) X.k X.k f := hx.out.all l.length _ (last_at _ _)
      exact last_up hx.out (v := obV (some ⟨B, 0, none⟩) X.k (st.map lenO)) (show Vec _ _ _ _ _ _ _ by rw [hlen]; exact hv.congr fun j hj => hf j (by omega)) (Step.grown _ (Grown.refl _))
end Go.Proofs.Ytbboomhgigaobaa.Rn
