/-
  What moveFirst of package table does when it is called. No condition but those told at each sentence.
-/
import Derived.Test.YthjcdloaclailaaTbMove
namespace Go.Proofs.Ythjcdloaclailaa.Tb
open Go.RowKit Go.Deep Us
variable {w w' : World} {t : Tab} {key : Int} {l : List Lk} {x : Lk} {r : List Lk}

theorem move_no (h : Tb w t) (h0 : t.l = 0) : Calls Try.prog 31 #[ptr t.X] w fun e w' => e = .returned (.tuple #[]) ∧ w' = w := by
  obtain ⟨c0, c1, c2, c3⟩ := h.mem.head.cells
  rw [h0] at c2
  have c2 : w.cell? ⟨t.X, 2, none⟩ = some (.int .i64 0) := c2
  have hb := h.mem.lt (.inl rfl)
  clear h h0
  unfold ptr
  go_enter Try.func31, Try.ntmps31
  go_wp2
  (try simp only [Exit.inBlock, Exit.then])
  refine bodyPost_ret (results_none rfl _ _ _) rfl ?_
  exact ⟨rfl, rfl⟩
theorem ends_ne {W : World} {X : Nat} {s : Int} {l m : Nat} {v : Addr → Value} (hs : Shape t) (h : Mem W X t.B s t.n l m t.D v) (hl : 0 < t.l) :
    endA ⟨t.B, t.low, none⟩ ((t.c t.low).filter t.lo) ≠ endA ⟨t.B, t.low + t.n / 2, none⟩ ((t.c t.low).filter t.hi) := fun q => by
  have h8 := hs.lo
  have hlow : t.low < t.n := by unfold Tab.low; omega
  have hD : ∀ y ∈ t.c t.low, y ∈ t.D := fun y hy => (hs.mem _ hlow y hy).1
  rcases endA_at ((t.c t.low).filter t.lo) ⟨t.B, t.low, none⟩ with ⟨e, _⟩ | ⟨y, hy, e⟩ <;> rcases endA_at ((t.c t.low).filter t.hi) ⟨t.B, t.low + t.n / 2, none⟩ with ⟨e2, _⟩ | ⟨z, hz, e2⟩
  · have := congrArg Addr.off (e.symm.trans (q.trans e2))
    simp at this
    omega
  · exact (h.sep z (hD z (List.mem_filter.1 hz).1)).2 (congrArg Addr.block (e.symm.trans (q.trans e2))).symm
  · exact (h.sep y (hD y (List.mem_filter.1 hy).1)).2 (congrArg Addr.block (e.symm.trans (q.trans e2)))
  · have := nodup_same h.nd (hD y (List.mem_filter.1 hy).1) (hD z (List.mem_filter.1 hz).1) (congrArg Addr.block (e.symm.trans (q.trans e2)))
    subst this
    have h1 := (List.mem_filter.1 hy).2
    have h2 := (List.mem_filter.1 hz).2
    unfold Tab.hi at h2
    rw [h1] at h2
    cases h2
set_option maxRecDepth 4000 in
set_option maxHeartbeats 2000000 in
theorem move_yes (h : Tb w t) (h0 : 0 < t.l) : Calls Try.prog 31 #[ptr t.X] w fun e w' => e = .returned (.tuple #[]) ∧ ∃ v, Tb w' (t.mv v) ∧ Out t.F w w' := by
  have hlo := h.sh.lo
  have hhi := h.sh.hi
  have hle := h.sh.le
  have hc := fun k => half_h (w := w.drewN k) (h.mem.drewN k).head h.sh.hi
  have m1 := fun k => ((h.mem.drewN k).setL (t.l - 1))
  have hc1 : ∀ k d, Calls Try.prog 39 #[ptr t.X] (((w.drewN k).setCell ⟨t.X, 2, none⟩ (.int .i64 ((t.l - 1 : Nat) : Int))).drewN d) fun e w' => e = .returned (.int .i64 ((t.n / 2 : Nat) : Int)) ∧ w' = ((w.drewN k).setCell ⟨t.X, 2, none⟩ (.int .i64 ((t.l - 1 : Nat) : Int))).drewN d := fun k d => half_h ((m1 k).drewN d).head h.sh.hi
  obtain ⟨c0, c1, c2, c3⟩ := h.mem.head.cells
  have f2 : w.frozen? ⟨t.X, 2, none⟩ = false := fr0 h.mem.head 2
  have hb := h.mem.lt (.inl rfl)
  have hlow : t.low < t.n := by unfold Tab.low; omega
  have hhi2 : t.low + t.n / 2 < t.n := by unfold Tab.low; omega
  obtain ⟨cB, _, lB⟩ := h.mem.cell (.inl ⟨t.low, hlow, rfl⟩ : At t.B t.n t.D ⟨t.B, t.low, none⟩)
  rw [linked_first (h.sh.link _ hlow)] at cB
  have hne := h.mem.xb
  have hs : Hid (Shape t) := h.sh
  have O1 : Hid (∀ k, Out t.F w ((w.drewN k).setCell ⟨t.X, 2, none⟩ (.int .i64 ((t.l - 1 : Nat) : Int)))) := fun k => ((Out.refl _ _).drewN k).setCell (a := ⟨t.X, 2, none⟩) (.inl rfl) _
  have m1 : Hid (∀ k, Mem ((w.drewN k).setCell ⟨t.X, 2, none⟩ (.int .i64 ((t.l - 1 : Nat) : Int))) t.X t.B t.s t.n (t.l - 1) t.D.length t.D t.val) := m1
  have hMV : Hid (∀ k, Mv w ((w.drewN k).setCell ⟨t.X, 2, none⟩ (.int .i64 ((t.l - 1 : Nat) : Int))) t t.val [] (t.c t.low)) := fun k =>
    ⟨m1.out k, O1.out k, trivial, trivial, fun x r' e => by
      have := h.sh.link _ hlow
      rw [e] at this
      exact this.2, fun _ _ _ _ => rfl⟩
  obtain ⟨low, hlw⟩ : ∃ low, Hid (low = t.low) := ⟨_, rfl⟩
  obtain ⟨q, hq⟩ : ∃ q, Hid (q = t.l - 1) := ⟨_, rfl⟩
  obtain ⟨N, hN⟩ : ∃ N, Hid (N = t.n / 2) := ⟨_, rfl⟩
  obtain ⟨n, hn⟩ : ∃ n, Hid (n = t.n) := ⟨_, rfl⟩
  obtain ⟨X, hX⟩ : ∃ X, Hid (X = t.X) := ⟨_, rfl⟩
  obtain ⟨B, hB⟩ : ∃ B, Hid (B = t.B) := ⟨_, rfl⟩
  have e1 : low < n := by rw [hlw.out, hn.out]; exact hlow
  have e2 : low + N < n := by rw [hlw.out, hn.out, hN.out]; exact hhi2
  have e3 : t.l = q + 1 := by rw [hq.out]; omega
  have tl : Hid (t.l = q + 1) := e3
  have e4 : N = low + (q + 1) := by rw [hq.out, hN.out, hlw.out]; unfold Tab.low; omega
  have e5 : n ≤ 131072 := by rw [hn.out]; exact hhi
  have w1 : wrap64 ((N : Int) - ((q : Int) + 1)) = (low : Int) := by rw [IntWalk.wrap64_in _ ⟨by omega, by omega⟩]; omega
  have w2 : (N : Int) - ((q : Int) + 1) = (low : Int) := by omega
  have z0 : ((q : Int) + 1 == 0) = false := by simp; omega
  rw [e3] at c2
  rw [← hn.out, ← hB.out, ← hX.out] at c1
  rw [← hB.out, ← hlw.out] at cB
  rw [← hX.out] at c0 c2 c3 f2 hb hne
  rw [← hB.out] at hne lB
  rw [← hN.out, ← hX.out] at hc
  rw [← hN.out, ← hX.out, ← hq.out] at hc1
  rw [← hX.out, ← hq.out, ← hlw.out] at hMV
  rw [← hX.out]
  change w.cell? ⟨X, 2, none⟩ = some (.int .i64 ((q : Int) + 1)) at c2
  obtain ⟨μ, hμ⟩ := rank_nx (t.c t.low) (h.sh.nod _ hlow)
  have hμ : Hid (∀ a r, t.c t.low = a ++ r → μ (nx r) = r.length) := hμ
  rw [← hlw.out] at hμ
  clear h h0 hlow hhi2 hlo hhi hle e3 m1 O1
  unfold ptr at *
  have e4 : Hid (N = low + (q + 1)) := e4
  go_enter Try.func31, Try.ntmps31
  go_wp2
  go_quiet (first | (go_at_call 39; exact Calls.quiet_of_same (hc _)))
  go_wp2
  have mv1 : Hid (Mv w ((w.drewN nq).setCell ⟨X, 2, none⟩ (.int .i64 (q : Int))) t t.val [] (t.c low)) := hMV.out nq
  have H1 := hc1 nq
  generalize (w.drewN nq).setCell ⟨X, 2, none⟩ (.int .i64 (q : Int)) = W1 at mv1 H1 ⊢
  clear hMV hc1 hc c0 c1 c2 c3 cB f2 hb lB
  obtain ⟨c0, c1, c2, c3⟩ := mv1.out.mem.head.cells
  have hb := lt_of mv1.out.mem.head
  obtain ⟨cB, _, lB⟩ := mv1.out.mem.cell (.inl ⟨low, by rw [← hn.out]; exact e1, rfl⟩ : At t.B t.n t.D ⟨t.B, low, none⟩)
  have ht : Hid (t.c low = [] ++ t.c low) := rfl
  rw [linked_first (hs.out.link _ (by rw [← hn.out]; exact e1))] at cB
  rw [← hn.out, ← hB.out, ← hX.out] at c1
  rw [← hB.out] at cB lB
  rw [← hX.out] at c0 c2 c3 hb
  rw [← hq.out] at c2
  have e1i : (low : Int) < (n : Int) := by omega
  have e2i : (low : Int) + (N : Int) < (n : Int) := by omega
  go_quiet (first | (go_at_call 39; exact Calls.quiet_of_same (H1 _)))
  go_wp2
  clear H1
  go_loopw [3, 4, 5] (fun p3 p4 p5 wr => ∃ (a r : List Lk) (v : Addr → Value), Hid (t.c low = a ++ r) ∧ Hid (Mv w wr t v a r) ∧ p3 = .pointer (some (endA ⟨B, low, none⟩ (a.filter t.lo))) ∧ p4 = .pointer (some (endA ⟨B, low + N, none⟩ (a.filter t.hi))) ∧ p5 = nx r) (fun _ _ p5 _ => μ p5)
  case atStart =>
    refine ⟨[], t.c low, t.val, ht, ⟨mv1.out.mem.drewN _, mv1.out.out.drewN _, mv1.out.lo, mv1.out.hi, ?_, mv1.out.else_⟩, rfl, by rw [e4.out]; rfl, rfl⟩
    intro x r' e
    exact mv1.out.rest x r' e
  case round =>
    obtain ⟨a, r, v, hca, hmv, rfl, rfl, rfl⟩ := hrel
    clear c0 c1 c2 c3 hb cB lB mv1
    obtain ⟨A1b, A1o, hA1⟩ : ∃ b o, Hid ((⟨b, o, none⟩ : Addr) = endA ⟨B, low, none⟩ (a.filter t.lo)) := end_form _ B low
    obtain ⟨A2b, A2o, hA2⟩ : ∃ b o, Hid ((⟨b, o, none⟩ : Addr) = endA ⟨B, low + N, none⟩ (a.filter t.hi)) := end_form _ B (low + N)
    rw [← hA1.out, ← hA2.out]
    have hD : Hid (∀ y ∈ t.c low, y ∈ t.D) := fun y hy => (hs.out.mem low (by rw [← hn.out]; exact e1) y hy).1
    have haD : ∀ y ∈ a, y ∈ t.D := fun y hy => hD.out y (by rw [hca.out]; simp [hy])
    have at1 : Hid (At t.B t.n t.D ⟨A1b, A1o, none⟩) := by
      show At t.B t.n t.D ⟨A1b, A1o, none⟩
      rw [hA1.out, hB.out]; exact filter_at (by rw [← hn.out]; exact e1) haD
    have at2 : Hid (At t.B t.n t.D ⟨A2b, A2o, none⟩) := by
      show At t.B t.n t.D ⟨A2b, A2o, none⟩
      rw [hA2.out, hB.out]; exact filter_at (by rw [← hn.out]; exact e2) haD
    obtain ⟨g1, f1, l1⟩ := hmv.out.mem.cell at1.out
    obtain ⟨g2, f2, l2⟩ := hmv.out.mem.cell at2.out
    have l1 : A1b < wr.heap.size := l1
    have l2 : A2b < wr.heap.size := l2
    cases r with
    | nil =>
      have hnil : nx [] = .pointer none := rfl
      have hca' : a = t.c low := by rw [hca.out]; simp
      subst hca'
      rw [hnil]
      have E : Hid (Tb ((wr.setCell ⟨A1b, A1o, none⟩ (.pointer none)).setCell ⟨A2b, A2o, none⟩ (.pointer none)) (t.mv (upd (upd v ⟨A1b, A1o, none⟩ (.pointer none)) ⟨A2b, A2o, none⟩ (.pointer none))) ∧ Out t.F w ((wr.setCell ⟨A1b, A1o, none⟩ (.pointer none)).setCell ⟨A2b, A2o, none⟩ (.pointer none))) := by
        have h1 := hmv.out
        rw [hlw.out] at h1
        have h2 := mv_end h1 hs.out (by rw [tl.out]; omega)
        simp only [← hlw.out, ← hB.out, ← hN.out, ← hA1.out, ← hA2.out] at h2
        exact ⟨h2.1, h2.2.1⟩
      have hne : A1b = A2b → A1o ≠ A2o := fun eb eo => by
        have q : endA ⟨t.B, t.low, none⟩ ((t.c t.low).filter t.lo) = endA ⟨t.B, t.low + t.n / 2, none⟩ ((t.c t.low).filter t.hi) := by
          rw [← hlw.out, ← hB.out, ← hN.out, ← hA1.out, ← hA2.out, eb, eo]
        exact ends_ne hs.out hmv.out.mem (by rw [tl.out]; omega) q
      clear hnil
      by_cases eb : A1b = A2b
      · have h12 : A1o ≠ A2o := hne eb
        have h21 : A2o ≠ A1o := fun e => hne eb e.symm
        subst eb
        clear hne
        go_wp2
        go_end0
        exact ⟨rfl, ⟨_, E.out.1⟩, E.out.2⟩
      · have eb2 : A2b ≠ A1b := fun e => eb e.symm
        clear hne
        go_wp2
        go_end0
        exact ⟨rfl, ⟨_, E.out.1⟩, E.out.2⟩
    | cons x r =>
      have hcons : nx (x :: r) = .pointer (some ⟨x.1, 0, none⟩) := rfl
      have hme : Hid (μ (nx r) < μ (nx (x :: r))) := by
        show _ < _
        rw [hμ.out (a ++ [x]) r (by rw [hca.out]; simp), hμ.out a (x :: r) hca.out]
        simp
      rw [hcons] at hme ⊢
      have hxD : x ∈ t.D := hD.out x (by rw [hca.out]; simp)
      have hk := hmv.out.mem.lnk x hxD
      have k0 : wr.cell? ⟨x.1, 0, none⟩ = some (.int .i64 x.2.k) := cell_of hk rfl
      have lx := lt_of hk
      have hl1 : t.l - 1 ≤ t.n / 2 := by have := hs.out.le; omega
      have pc := place_h hmv.out.mem.head hl1 hs.out.hi (by have := hs.out.lo; omega) x.2.k
      have lt1 : t.low < t.n := by rw [← hn.out, ← hlw.out]; exact e1
      have lt2 : t.low + t.n / 2 < t.n := by rw [← hN.out, ← hn.out, ← hlw.out]; exact e2
      have h8 := hs.out.lo
      by_cases e : t.lo x = true
      · have ef : t.hi x = false := by unfold Tab.hi; rw [e]; rfl
        have pe : pl t.s t.n (t.l - 1) x.2.k = low := by rw [hlw.out]; exact of_decide_eq_true e
        rw [pe, ← hX.out] at pc
        have S := fun k => mv_step (hmv.out.drewN k) hs.out (by rw [tl.out]; omega) (by rw [← hlw.out]; exact hca.out) (f := t.lo) (g := t.hi) (j := t.low) (i := t.low + t.n / 2) (by omega) lt1 hmv.out.lo hmv.out.hi (.inl rfl) e ef (fun y _ hy => by unfold Tab.hi; rw [hy]; rfl)
        simp only [← hlw.out, ← hB.out, ← hN.out, ← hA1.out] at S
        have S : Hid (∀ k, _) := S
        have k4 : wr.cell? ⟨x.1, 4, none⟩ = some (nx r) := by rw [← (S.out 0).2.2.2.2.2.2.1]; exact cell_of hk rfl
        have ab : A1b ≠ x.1 := (S.out 0).2.2.2.2.2.2.2
        have ab2 : x.1 ≠ A1b := fun e => ab e.symm
        have R : Hid (∀ k, Mv w ((wr.drewN k).setCell ⟨A1b, A1o, none⟩ (.pointer (some ⟨x.1, 0, none⟩))) t (upd v ⟨A1b, A1o, none⟩ (.pointer (some ⟨x.1, 0, none⟩))) (a ++ [x]) r) := fun k => by
          obtain ⟨s1, s2, s3, s4, s5, s6, _, _⟩ := S.out k
          refine ⟨by rw [← hB.out]; exact s1, s2, by rw [← hB.out, ← hlw.out]; exact s3, by rw [← hB.out, ← hlw.out, ← hN.out]; exact s4, s5, by rw [← hB.out, ← hlw.out, ← hN.out]; exact s6⟩
        have fA : Hid (endA ⟨B, low, none⟩ ((a ++ [x]).filter t.lo) = ⟨x.1, 4, none⟩) := by
          show _ = _
          rw [List.filter_append, List.filter_cons, if_pos e, endA_app]; rfl
        have fO : Hid (endA ⟨B, low + N, none⟩ ((a ++ [x]).filter t.hi) = ⟨A2b, A2o, none⟩) := by
          show _ = _
          rw [List.filter_append, List.filter_cons, ef, hA2.out]; simp
        clear S hk hcons pe
        generalize hL : x.1 = L at *
        generalize x.2.k = key at *
        go_wp2_with (go_at_call 46; refine pc.mono ?_; rintro e w' ⟨rfl, k, rfl⟩)
        go_roundw
        case rel =>
          exact ⟨a ++ [x], r, _, by show _ = _; rw [hca.out]; simp, R.out _, by rw [fA.out], by rw [fO.out], rfl⟩
        case measure => exact hme.out
      · have e : t.lo x = false := by simpa using e
        have ef : t.hi x = true := by unfold Tab.hi; rw [e]; rfl
        have pe : (((pl t.s t.n (t.l - 1) x.2.k : Nat) : Int) == (low : Int)) = false := by
          have := of_decide_eq_false e
          rw [← hlw.out] at this
          simp
          omega
        rw [← hX.out] at pc
        have S := fun k => mv_step (hmv.out.drewN k) hs.out (by rw [tl.out]; omega) (by rw [← hlw.out]; exact hca.out) (f := t.hi) (g := t.lo) (j := t.low + t.n / 2) (i := t.low) (by omega) lt2 hmv.out.hi hmv.out.lo (.inr rfl) ef e (fun y _ hy => by unfold Tab.hi at hy; cases h : t.lo y <;> simp_all)
        simp only [← hlw.out, ← hB.out, ← hN.out, ← hA2.out] at S
        have S : Hid (∀ k, _) := S
        have k4 : wr.cell? ⟨x.1, 4, none⟩ = some (nx r) := by rw [← (S.out 0).2.2.2.2.2.2.1]; exact cell_of hk rfl
        have ab : A2b ≠ x.1 := (S.out 0).2.2.2.2.2.2.2
        have ab2 : x.1 ≠ A2b := fun e => ab e.symm
        have R : Hid (∀ k, Mv w ((wr.drewN k).setCell ⟨A2b, A2o, none⟩ (.pointer (some ⟨x.1, 0, none⟩))) t (upd v ⟨A2b, A2o, none⟩ (.pointer (some ⟨x.1, 0, none⟩))) (a ++ [x]) r) := fun k => by
          obtain ⟨s1, s2, s3, s4, s5, s6, _, _⟩ := S.out k
          refine ⟨by rw [← hB.out]; exact s1, s2, by rw [← hB.out, ← hlw.out]; exact s4, by rw [← hB.out, ← hlw.out, ← hN.out]; exact s3, s5, by rw [← hB.out, ← hlw.out, ← hN.out]; exact s6⟩
        have fA : Hid (endA ⟨B, low + N, none⟩ ((a ++ [x]).filter t.hi) = ⟨x.1, 4, none⟩) := by
          show _ = _
          rw [List.filter_append, List.filter_cons, if_pos ef, endA_app]; rfl
        have fO : Hid (endA ⟨B, low, none⟩ ((a ++ [x]).filter t.lo) = ⟨A1b, A1o, none⟩) := by
          show _ = _
          rw [List.filter_append, List.filter_cons, e, hA1.out]; simp
        clear S hk hcons
        generalize hL : x.1 = L at *
        generalize pl t.s t.n (t.l - 1) x.2.k = pp at *
        generalize x.2.k = key at *
        go_wp2_with (go_at_call 46; refine pc.mono ?_; rintro e w' ⟨rfl, k, rfl⟩)
        go_roundw
        case rel =>
          exact ⟨a ++ [x], r, _, by show _ = _; rw [hca.out]; simp, R.out _, by rw [fO.out], by rw [fA.out], rfl⟩
        case measure => exact hme.out
end Go.Proofs.Ythjcdloaclailaa.Tb
