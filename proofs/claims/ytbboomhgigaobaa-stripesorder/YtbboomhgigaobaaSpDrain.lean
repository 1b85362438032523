/-
  What Drain of package stripes does when it is called. No condition but those told at each sentence.
-/
import Derived.Test.YtbboomhgigaobaaSpLens
namespace Go.Proofs.Ytbboomhgigaobaa.Rn
open Go.RowKit Go.Deep
variable {W w w' : World} {l : List Ob} {i j : Nat} {X : Sp} {st : St} {q q' : List Int} {L L' : Int}

theorem m_drain (a : Addr) (w : World) : (method 184 43 (.pointer (some a)) "Drain").run Try.prog w = .ok (60, .pointer (some a)) w := by kernel_rfl
/-- All that is held, ring by ring; the rings emptied. -/
def allN (st : St) : List Int := (st.map (·.1)).flatten
def emptyN (st : St) : St := st.map fun s => ([], s.2)
/-- The first k rings emptied. -/
def halfN (st : St) (k : Nat) : St := (st.take k).map (fun s => ([], s.2)) ++ st.drop k
theorem halfN_zero (st : St) : halfN st 0 = st := by simp [halfN]
theorem halfN_all {k : Nat} (h : st.length = k) : halfN st k = emptyN st := by simp [halfN, emptyN, ← h]
theorem halfN_at {k : Nat} {s : List Int × Int} (h : st[k]? = some s) : (halfN st k)[k]? = some s := by
  have hk := (List.getElem?_eq_some_iff.1 h).1
  rw [halfN, List.getElem?_append_right (by simp; omega)]
  simp [Nat.min_eq_left (Nat.le_of_lt hk), h]
theorem halfN_succ {k : Nat} {s : List Int × Int} (h : st[k]? = some s) : (halfN st k).set k ([], s.2) = halfN st (k + 1) := by
  have hk := (List.getElem?_eq_some_iff.1 h).1
  have hl : ((st.take k).map fun s : List Int × Int => (([] : List Int), s.2)).length = k := by simp; omega
  rw [halfN, List.set_append_right (h := by omega), hl, Nat.sub_self, List.drop_eq_getElem_cons hk, List.set_cons_zero]
  simp [halfN, List.take_add_one, h]
/-- What the first k rings held. -/
def upN (st : St) (k : Nat) : List Int := allN (st.take k)
theorem upN_zero (st : St) : upN st 0 = [] := by simp [upN, allN]
theorem upN_all {k : Nat} (h : st.length = k) : upN st k = allN st := by simp [upN, ← h]
theorem upN_succ {k : Nat} {s : List Int × Int} (h : st[k]? = some s) : upN st (k + 1) = upN st k ++ s.1 := by
  simp [upN, allN, List.take_add_one, h]
theorem upN_len (st : St) (k : Nat) : ((upN st k).length : Int) = sumN lenO st k := by
  induction k with
  | zero => simp [upN_zero, sumN_zero]
  | succ k ih =>
    by_cases h : k < st.length
    · have e := List.getElem?_eq_getElem h
      rw [upN_succ e, sumN_succ lenO e, List.length_append, Int.natCast_add, ih]; rfl
    · have e1 : upN st (k + 1) = upN st k := by simp [upN, List.take_of_length_le (show st.length ≤ k by omega), List.take_of_length_le (show st.length ≤ k + 1 by omega)]
      have e2 : sumN lenO st (k + 1) = sumN lenO st k := by simp [sumN, List.take_of_length_le (show st.length ≤ k by omega), List.take_of_length_le (show st.length ≤ k + 1 by omega)]
      rw [e1, e2, ih]
theorem lens_bd (h : Apt W w l) (hi : l[i]? = some (obSp X st)) (k : Nat) : 0 ≤ sumN lenO st k ∧ sumN lenO st k ≤ k * 4096 :=
  sumN_bd (st := st) lenO (B := 4096) (by omega) (fun s hs => by
    obtain ⟨j, hj⟩ := List.mem_iff_getElem?.1 hs
    have := sp_room h hi (q := s.1) (L := s.2) hj
    unfold lenO
    omega) k
theorem at_mid (l : List Ob) (u v : Ob) : (l ++ [u] ++ [v])[l.length]? = some u := by
  rw [List.getElem?_append_left (by simp)]; exact last_at l u
theorem at_end (l : List Ob) (u v : Ob) : (l ++ [u] ++ [v])[l.length + 1]? = some v := by
  have := last_at (l ++ [u]) v
  rwa [List.length_append] at this
theorem set_mid (l : List Ob) (u v x : Ob) : (l ++ [u] ++ [v]).set l.length x = l ++ [x] ++ [v] := by
  rw [List.set_append_left (h := by simp), last_set]
theorem make_room (c : Nat) (hc : c ≤ 1000000) (w : World) : (Instr.makeSlice 32 (.int .i64 0) (.int .i64 (c : Int))).run Try.prog w = .ok (.slice (some ⟨w.heap.size, 0, none⟩) 0 c) (w.alloc (.cells (madeCells #[.int .i64 0] c) 3)) := by
  obtain ⟨i, hi, hz, hs, hb⟩ := info_parts infoN
  have hr := run_make (P := Try.prog) w 32 3 i _ Try.underlying32 hi hz .i64 .i64 0 c (by omega) (by omega) (by rw [hb]; omega) (by omega)
  simp only [Int.toNat_natCast, hs, Nat.mul_one, Int.toNat_zero] at hr
  exact hr
theorem drain_p (h : Apt W w l) (hi : l[i]? = some (obSp X st)) : Calls Try.prog 13 #[ptr X.S] w fun e w' => ∃ p c, e = .returned (.slice p (allN st).length c) ∧ Apt W w' (l.set i (obSp X (emptyN st)) ++ [obV p c (allN st)]) := by
  obtain ⟨hk, k1, k2, c0, _, _, lS, lR⟩ := sp_head h hi
  have hlt : i < l.length := (List.getElem?_eq_some_iff.1 hi).1
  have hs : ∀ j, j < X.k → ∃ q L, st[j]? = some (q, L) := fun j hj => ⟨_, _, List.getElem?_eq_getElem (by omega)⟩
  have ln := len_p h hi
  have hb := fun k => lens_bd h hi k
  obtain ⟨n, hn⟩ : ∃ n : Nat, (st.map lenO).sum = (n : Int) := ⟨(allN st).length, by rw [← sumN_all lenO hk, ← upN_len, upN_all hk]⟩
  rw [hn] at ln
  have hn2 : n ≤ 262144 := by
    have := hb X.k
    rw [sumN_all lenO hk, hn] at this
    omega
  have hmk := make_room n (by omega)
  have h1 : Apt W (w.alloc (.cells (madeCells #[.int .i64 0] n) 3)) (l ++ [obV (some ⟨w.heap.size, 0, none⟩) n []]) :=
    h.add ((Grown.refl _).alloc _ _) (Or.inr ⟨_, _, rfl, blk_alloc_new _ _, Nat.zero_le _, by unfold maxLen; omega, by rw [madeSize]; omega, fun j hj => by simp at hj⟩) fun k hk => by
      have hk : In (some ⟨w.heap.size, 0, none⟩) k := hk
      rw [hk.eq]; exact Nat.le_refl _
  have h1 : Hid (Apt W (w.alloc (.cells (madeCells #[.int .i64 0] n) 3)) (l ++ [obV (some ⟨w.heap.size, 0, none⟩) n []])) := h1
  have isame : l.set i (obSp X st) = l := by
    obtain ⟨h1, h2⟩ := List.getElem?_eq_some_iff.1 hi
    rw [← h2]
    exact List.set_getElem_self h1
  have hl0 : Hid ((allN st).length = (upN st X.k).length ∧ ∀ k, ((upN st k).length : Int) ≤ 262144 ∨ X.k < k) := ⟨by rw [upN_all hk], fun k => by
    have := hb k
    rw [← upN_len] at this
    by_cases e : X.k < k
    · exact .inr e
    · exact .inl (by omega)⟩
  have md := m_drain
  clear h hb hn
  unfold ptr at *
  go_enter Try.func13, Try.ntmps13
  go_wp2_with (go_at_call 19; refine ln.mono ?_; rintro e w' ⟨rfl, rfl⟩)
  clear ln hmk
  go_loopw [3, 5, 14] (fun al _ iv wr => ∃ (k m c : Nat) (p : Option Addr), k ≤ X.k ∧ iv = .int .i64 (k : Int) ∧ al = .slice p m c ∧ m = (upN st k).length ∧ Apt W wr (l.set i (obSp X (halfN st k)) ++ [obV p c (upN st k)])) (fun _ _ i _ => X.k - (intOf i).toNat)
  case atStart => exact ⟨0, 0, _, _, by omega, rfl, rfl, by rw [upN_zero]; rfl, by rw [upN_zero, halfN_zero, isame]; exact h1.out⟩
  case round =>
    clear h1 isame c0
    obtain ⟨k, m, c, p, hk', rfl, rfl, hm, hx⟩ := hrel
    obtain ⟨a, ha⟩ : ∃ a, Hid (a = upN st k) := ⟨_, rfl⟩
    rw [← ha.out] at hm hx
    have HM : Hid (m = a.length) := hm
    have hil : (l.set i (obSp X (halfN st k)) ++ [obV p c a])[i]? = some (obSp X (halfN st k)) := by rw [List.getElem?_append_left (by simpa using hlt), List.getElem?_set_self hlt]
    have hm2 : m ≤ 262144 := by
      rcases hl0.out.2 k with e | e
      · rw [← ha.out] at e; omega
      · omega
    clear hm
    by_cases hlt' : k < X.k
    · obtain ⟨q, L, hq⟩ := hs k hlt'
      obtain ⟨l2, hl2⟩ : ∃ l2, Hid (l2 = l.set i (obSp X (halfN st (k + 1)))) := ⟨_, rfl⟩
      obtain ⟨n', hn'⟩ : ∃ n', Hid (n' = q.length) := ⟨_, rfl⟩
      have hn3 : n' ≤ 4096 := by
        have := sp_room hx hil (halfN_at hq)
        have := hn'.out
        omega
      have d1 : Calls Try.prog 60 #[.pointer (some ⟨X.b k + 1, 0, none⟩)] wr fun e w' => ∃ pu cu, e = .returned (.slice pu n' cu) ∧ Apt W w' (l2 ++ [obV p c a] ++ [obV pu cu q]) := by
        refine (drain_r hx hil (halfN_at hq)).mono ?_
        rintro e w' ⟨pu, cu, rfl, h2⟩
        rw [List.set_append_left (h := by simpa using hlt), List.set_set, halfN_succ hq, ← hl2.out] at h2
        exact ⟨pu, cu, by rw [hn'.out], h2⟩
      have ck := (sp_head hx hil).2.2.2.2.2.1 k hlt'
      have lR1 := (sp_head hx hil).2.2.2.2.2.2.2
      have hd : decide ((k : Int) < (X.k : Int)) = true := by rw [decide_eq_true_eq]; omega
      have hup : Hid (upN st (k + 1) = a ++ q) := by rw [ha.out]; exact upN_succ hq
      unfold spV ptr at ck
      clear hs hq hil hx hl0
      go_wp2_with (first
        | (go_at_call 60; refine d1.mono ?_; rintro e w2 ⟨pu, cu, rfl, h2⟩; clear d1 ck lR1; have h2 : Hid (Apt W w2 (l2 ++ [obV p c a] ++ [obV pu cu q])) := h2)
        | (at_builtin; refine wpList_append_any rfl (.tmp 18) (.tmp 20) 32 rfl Try.underlying32 infoN rfl rfl (f := ivL a) (by rw [HM.out]; exact h2.out.all _ _ (at_mid _ _ _)) rfl (g := ivL q) (fun hp => src_s h2.out (at_end _ _ _) hn'.out hp) (fun _ _ => rfl) (by omega) (by omega) ?_; intro p' c' w3 hv3 ho3 hp3; have h3 : Hid (Apt W w3 (l2 ++ [obV p' c' (a ++ q)] ++ [obV pu cu q])) := (by have := joined_s h2.out (at_mid _ _ _) (by rw [HM.out, hn'.out] at hv3; exact hv3) ho3 hp3; rw [set_mid] at this; exact this); clear hv3 ho3 hp3 h2))
      go_roundw
      case rel => exact ⟨k + 1, m + n', c', p', by omega, by go_num, rfl, by rw [hup.out, List.length_append, HM.out, hn'.out], by rw [hup.out, ← hl2.out]; exact h3.out.front⟩
      case measure => simp [intOf]; omega
    · obtain rfl : k = X.k := by omega
      have hd : decide ((X.k : Int) < (X.k : Int)) = false := by rw [decide_eq_false_iff_not]; omega
      have hx : Hid (Apt W wr (l.set i (obSp X (halfN st X.k)) ++ [obV p c a])) := hx
      go_wp2
      go_ret
      refine ⟨p, c, by rw [hl0.out.1, ← ha.out, ← HM.out]; rfl, ?_⟩
      have := hx.out
      rw [halfN_all hk, ha.out, upN_all hk] at this
      exact this
end Go.Proofs.Ytbboomhgigaobaa.Rn
