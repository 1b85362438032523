/-
  The document's own lists: what New, All, Front, Back, Weight and Len of package pantryref07 do when they are called.
-/
import Derived.Test.YtecnlciogcanmaaRqRest
namespace Go.Proofs.Ytecnlciogcanmaa
open Go.RowKit Go.Deep
variable {w w' : World} {R P : Nat} {pl : Option Addr} {cl : Nat} {q : Nat → Option Addr × Nat} {t : Ds}

theorem idsC_next {D : List (Int × Int)} {k : Nat} (hk : k < D.length) : ∀ j, j < k + 1 → (if j < k then idsC D j else .int .i64 (D.getD k (0, 0)).1) = idsC D j := fun j hj => by
  by_cases h : j < k
  · rw [if_pos h]
  · have e : j = k := by omega
    subst e
    rw [if_neg h]
    unfold idsC
    rw [List.getD_eq_getElem?_getD, List.getD_eq_getElem?_getD, List.getElem?_map, List.getElem?_eq_getElem hk]; rfl
theorem Ds.rowI_no {l : Int} (hw : t.Wf) (h : t.has l = false) : t.rowI l = [] := by
  unfold Ds.rowI
  split
  · have := of_decide_eq_false h
    exact hw.past _ (by omega)
  · rfl
theorem Ds.rowI_in {i : Nat} : t.rowI (i : Int) = t.L i := by unfold Ds.rowI; rw [if_pos (by omega)]; rfl
set_option maxHeartbeats 1000000 in
theorem rall_m2 (h : RqM w R pl cl q t) (hw : t.Wf) (hlen : ∀ i, (t.L i).length ≤ 65536) (l : Int) :
    Calls Try.prog 37 #[ptr R, .int .i64 l] w fun e w' => ∃ p c, e = .returned (.slice p (t.rowI l).length c) ∧ Vec w' 3 1 p (t.rowI l).length c (idsC (t.rowI l)) ∧ Grown w w' ∧ ∀ x, In p x → w.heap.size ≤ x := by
  cases hl : t.has l with
  | false =>
    have hh := rrow_m h l
    rw [hl] at hh
    rw [Ds.rowI_no hw hl]
    have HV : Hid (Vec w 3 1 none 0 0 (idsC [])) := Vec.nil _ _ _ _
    clear h hl hw hlen
    unfold ptr at *
    go_enter Try.func37, Try.ntmps37
    go_wp2
    go_loopw [5, 6] (fun gv kv wr => gv = .slice none 0 0 ∧ kv = .int .i64 0 ∧ wr = w) (fun _ _ _ => 0)
    case atStart => exact ⟨rfl, rfl, rfl⟩
    case round =>
      obtain ⟨rfl, rfl, hwr⟩ := hrel
      have hwr := hwr.symm
      subst hwr
      go_wp2_with (first | (go_at_call 33; refine hh.mono ?_; rintro e w' ⟨rfl, hw'⟩; have hw' := hw'.symm; subst hw'))
      go_ret
      exact ⟨none, 0, rfl, HV.out, Grown.refl _, fun x hx => absurd hx In.no⟩
  | true =>
    have hl2 := of_decide_eq_true hl
    obtain ⟨i, rfl⟩ : ∃ i : Nat, l = i := ⟨l.toNat, by omega⟩
    rw [Ds.rowI_in]
    have hi : i < t.n := by omega
    have HH : Hid (RqM w R pl cl q t) := h
    have hh := fun W (g : Grown w W) => rrow_m (h.grown g) (i : Int)
    rw [hl] at hh
    have hn := hw.cap
    have hL := hlen i
    have hc := fun W (g : Grown w W) => (h.grown g).cell0
    have hR := fun W (g : Grown w W) => lt_of (h.grown g).head
    obtain ⟨P, hP, _, _, _, hcl⟩ := h.ofRow hi
    subst hP
    have hp := fun W (g : Grown w W) => (h.grown g).ofRow hi
    have HIt : Hid (∀ W, Grown w W → ∀ k, k < (t.L i).length → ∃ B, (q i).1 = some ⟨B, 0, none⟩ ∧ B < W.heap.size ∧ W.cell? ⟨B, k * 2, none⟩ = some (.int .i64 ((t.L i).getD k (0, 0)).1) ∧ (t.L i).length ≤ (q i).2) := fun W g k hk => by
      obtain ⟨B, b1, b2, b3, _, _, b6⟩ := (h.grown g).item hi hk
      exact ⟨B, b1, b2, b3, b6⟩
    have HPp : Hid (∀ W, Grown w W → P < W.heap.size ∧ W.cell? ⟨P, i, none⟩ = some (.slice (q i).1 (t.L i).length (q i).2)) := fun W g => by
      obtain ⟨P', e1, e2, e3, _⟩ := hp W g
      cases e1
      exact ⟨e2, e3⟩
    have HCr : Hid (∀ W, Grown w W → W.cell? ⟨R, 0, none⟩ = some (.slice (some ⟨P, 0, none⟩) t.n cl) ∧ R < W.heap.size) := fun W g => ⟨hc W g, hR W g⟩
    obtain ⟨D, HD⟩ : ∃ D, Hid (D = t.L i) := ⟨_, rfl⟩
    rw [← HD.out] at HIt HPp hL ⊢
    obtain ⟨L, HL⟩ : ∃ L, Hid (L = D.length) := ⟨_, rfl⟩
    rw [← HL.out] at HIt HPp hL ⊢
    obtain ⟨N, HN⟩ : ∃ N, Hid (N = t.n) := ⟨_, rfl⟩
    rw [← HN.out] at HCr hn hi hcl
    generalize hqp : (q i).1 = qp at *
    generalize hqc : (q i).2 = qc at *
    have hiI : (i : Int) < (N : Int) := by omega
    clear h hl hl2 hw hlen hc hR hp HH
    unfold ptr at *
    go_enter Try.func37, Try.ntmps37
    go_wp2
    go_loopw [5, 6] (fun gv kv wr => ∃ (k : Nat) (p : Option Addr) (c : Nat), k ≤ L ∧ gv = .slice p k c ∧ kv = .int .i64 (k : Int) ∧ Vec wr 3 1 p k c (idsC D) ∧ Grown w wr ∧ (∀ x, In p x → w.heap.size ≤ x)) (fun _ kv _ => L - (intOf kv).toNat)
    case atStart => exact ⟨0, none, 0, by omega, rfl, rfl, Vec.nil _ _ _ _, Grown.refl _, fun x hx => absurd hx In.no⟩
    case round =>
      obtain ⟨k, p, c, hk, rfl, rfl, hv, hg, hx⟩ := hrel
      have HX : Hid (∀ x, In p x → w.heap.size ≤ x) := hx
      have HV : Hid (Vec wr 3 1 p k c (idsC D)) := hv
      clear hx hv
      have hh1 := hh wr hg
      obtain ⟨c0, lR⟩ := HCr.out wr hg
      obtain ⟨lP, cP⟩ := HPp.out wr hg
      by_cases hlt : k < L
      · have d1 : decide ((k : Int) < (L : Int)) = true := by rw [decide_eq_true_eq]; omega
        obtain ⟨B, hB, lB, e0, hLc⟩ := HIt.out wr hg k hlt
        subst hB
        have HNx : Hid (∀ j, j < k + 1 → (if j < k then idsC D j else .int .i64 (D.getD k (0, 0)).1) = idsC D j) := idsC_next (by rw [← HL.out]; exact hlt)
        obtain ⟨x, HXx⟩ : ∃ x, Hid (x = (D.getD k (0, 0)).1) := ⟨_, rfl⟩
        rw [← HXx.out] at e0 HNx
        clear hh
        go_wp2_with (first | (go_at_call 33; refine hh1.mono ?_; rintro e w' ⟨rfl, hw'⟩; have hw' := hw'.symm; subst hw') | (at_builtin; refine wpList_append_vec rfl (.tmp 24) (.tmp 36) 36 rfl Try.underlying36 infoInt rfl rfl (HV.out.grown ((Grown.refl _).alloc _ _)) rfl (by decide) (new_ptr _ _ _) (fun _ _ => rfl) (by omega) (by omega) ?_; intro p' c' w2 hv2 ho2 hp2; have HW2 : Hid (Vec w2 3 1 p' (k + 1) c' (fun j => if j < k * 1 then idsC D j else .int .i64 x) ∧ Out (In p) (wr.alloc (.cells #[.int .i64 x] 3)) w2 ∧ (p' = p ∨ p' = some ⟨(wr.alloc (.cells #[.int .i64 x] 3)).heap.size, 0, none⟩)) := ⟨hv2, ho2, hp2⟩; clear hv2 ho2 hp2))
        go_roundw
        case rel =>
          obtain ⟨r1, r2, r3⟩ := HW2.out
          refine ⟨k + 1, p', c', by omega, rfl, by go_num, r1.congr fun j hj => ?_, r2.grown (grownTrans hg ((Grown.refl _).alloc _ _)) HX.out, fun y hy => ?_⟩
          · rw [Nat.mul_one]; exact HNx.out j (by omega)
          · rcases r3 with e | e
            · rw [e] at hy; exact HX.out y hy
            · rw [e] at hy
              have := hy.eq
              rw [nblk_alloc] at this
              have := hg.2.2
              omega
        case measure => simp [intOf]; omega
      · obtain rfl : k = L := by omega
        have d1 : decide ((k : Int) < (k : Int)) = false := by rw [decide_eq_false_iff_not]; omega
        clear hh
        go_wp2_with (first | (go_at_call 33; refine hh1.mono ?_; rintro e w' ⟨rfl, hw'⟩; have hw' := hw'.symm; subst hw'))
        go_ret
        exact ⟨p, c, rfl, HV.out, hg, HX.out⟩
theorem rlen_m2 (h : RqM w R pl cl q t) (hw : t.Wf) (hlen : ∀ i, (t.L i).length ≤ 65536) (l : Int) :
    Calls Try.prog 41 #[ptr R, .int .i64 l] w fun e w' => e = .returned (.int .i64 ((t.rowI l).length : Int)) ∧ Grown w w' := by
  have al := rall_m2 h hw hlen l
  generalize (t.rowI l).length = L at *
  clear h
  unfold ptr at *
  go_enter Try.func41, Try.ntmps41
  go_wp2_with (first | (go_at_call 37; refine al.mono ?_; rintro e w1 ⟨p, c, rfl, hv, hg, hx⟩; clear hx))
  go_ret
  exact ⟨rfl, hg⟩
theorem rfront_m (h : RqM w R pl cl q t) (hw : t.Wf) (hlen : ∀ i, (t.L i).length ≤ 65536) (l : Int) :
    Calls Try.prog 38 #[ptr R, .int .i64 l] w fun e w' => e = .returned (.int .i64 (((t.rowI l).map (·.1)).headD 0)) ∧ Grown w w' := by
  have al := rall_m2 h hw hlen l
  cases hD : t.rowI l with
  | nil =>
    rw [hD] at al
    have al' : Calls Try.prog 37 #[ptr R, .int .i64 l] w fun e w' => ∃ p c, e = .returned (.slice p 0 c) ∧ Vec w' 3 1 p 0 c (idsC []) ∧ Grown w w' ∧ ∀ x, In p x → w.heap.size ≤ x := al
    clear h al hD
    show Calls _ _ _ _ fun e w' => e = .returned (.int .i64 0) ∧ Grown w w'
    unfold ptr at *
    go_enter Try.func38, Try.ntmps38
    go_wp2_with (first | (go_at_call 37; refine al'.mono ?_; rintro e w1 ⟨p, c, rfl, hv, hg, hx⟩; clear hx))
    go_ret
    exact ⟨rfl, hg⟩
  | cons a r =>
    rw [hD] at al
    have al' : Calls Try.prog 37 #[ptr R, .int .i64 l] w fun e w' => ∃ B c, e = .returned (.slice (some ⟨B, 0, none⟩) (r.length + 1) c) ∧ w'.cell? ⟨B, 0, none⟩ = some (.int .i64 a.1) ∧ B < w'.heap.size ∧ r.length + 1 ≤ c ∧ Grown w w' := al.mono fun e w' ⟨p, c, he, hv, hg, _⟩ => by
      obtain ⟨B, b1, b2, b3, _, b5⟩ := hv.opens (by simp)
      subst b1
      exact ⟨B, c, he, b3 0 (by simp), b2, by simpa using b5, hg⟩
    have hne : (((r.length : Int) + 1) == 0) = false := by rw [beq_eq_false_iff_ne]; omega
    clear h al
    have hr : r.length ≤ 65536 := by
      have h1 : (t.rowI l).length ≤ 65536 := by unfold Ds.rowI; split; exact hlen _; simp
      rw [hD] at h1
      simp at h1; omega
    clear hlen hD
    generalize r.length = L at *
    show Calls _ _ _ _ fun e w' => e = .returned (.int .i64 a.1) ∧ Grown w w'
    generalize a.1 = x at *
    unfold ptr at *
    go_enter Try.func38, Try.ntmps38
    go_wp2_with (first | (go_at_call 37; refine al'.mono ?_; rintro e w1 ⟨B, c, rfl, b1, b2, b3, hg⟩))
    go_ret
    exact ⟨rfl, hg⟩
theorem rback_m (h : RqM w R pl cl q t) (hw : t.Wf) (hlen : ∀ i, (t.L i).length ≤ 65536) (l : Int) :
    Calls Try.prog 39 #[ptr R, .int .i64 l] w fun e w' => e = .returned (.int .i64 (((t.rowI l).map (·.1)).getLastD 0)) ∧ Grown w w' := by
  have al := rall_m2 h hw hlen l
  cases hD : t.rowI l with
  | nil =>
    rw [hD] at al
    have al' : Calls Try.prog 37 #[ptr R, .int .i64 l] w fun e w' => ∃ p c, e = .returned (.slice p 0 c) ∧ Vec w' 3 1 p 0 c (idsC []) ∧ Grown w w' ∧ ∀ x, In p x → w.heap.size ≤ x := al
    clear h al hD
    show Calls _ _ _ _ fun e w' => e = .returned (.int .i64 0) ∧ Grown w w'
    unfold ptr at *
    go_enter Try.func39, Try.ntmps39
    go_wp2_with (first | (go_at_call 37; refine al'.mono ?_; rintro e w1 ⟨p, c, rfl, hv, hg, hx⟩; clear hx))
    go_ret
    exact ⟨rfl, hg⟩
  | cons a r =>
    rw [hD] at al
    have hz : (((a :: r).map (·.1)).getD r.length 0) = ((a :: r).map (·.1)).getLastD 0 := by
      rw [List.getLastD_eq_getLast?, List.getLast?_eq_getElem?, List.getD_eq_getElem?_getD]
      simp
    obtain ⟨x, hx⟩ : ∃ x, x = ((a :: r).map (·.1)).getLastD 0 := ⟨_, rfl⟩
    have al' : Calls Try.prog 37 #[ptr R, .int .i64 l] w fun e w' => ∃ B c, e = .returned (.slice (some ⟨B, 0, none⟩) (r.length + 1) c) ∧ w'.cell? ⟨B, r.length, none⟩ = some (.int .i64 x) ∧ B < w'.heap.size ∧ r.length + 1 ≤ c ∧ Grown w w' := al.mono fun e w' ⟨p, c, he, hv, hg, _⟩ => by
      obtain ⟨B, b1, b2, b3, _, b5⟩ := hv.opens (by simp)
      subst b1
      exact ⟨B, c, he, (b3 r.length (by simp)).trans (by unfold idsC; rw [hz, hx]), b2, by simpa using b5, hg⟩
    have hne : (((r.length : Int) + 1) == 0) = false := by rw [beq_eq_false_iff_ne]; omega
    rw [← hx]
    have hr : r.length ≤ 65536 := by
      have h1 : (t.rowI l).length ≤ 65536 := by unfold Ds.rowI; split; exact hlen _; simp
      rw [hD] at h1
      simp at h1; omega
    clear h al hlen hD hz hx
    generalize r.length = L at *
    unfold ptr at *
    go_enter Try.func39, Try.ntmps39
    go_wp2_with (first | (go_at_call 37; refine al'.mono ?_; rintro e w1 ⟨B, c, rfl, b1, b2, b3, hg⟩))
    go_ret
    exact ⟨rfl, hg⟩
set_option maxHeartbeats 1000000 in
theorem rweight_m (h : RqM w R pl cl q t) (hw : t.Wf) (hlen : ∀ i, (t.L i).length ≤ 65536) (l : Int) :
    Calls Try.prog 40 #[ptr R, .int .i64 l] w fun e w' => e = .returned (.int .i64 (sumI ((t.rowI l).map (·.2)))) ∧ w' = w := by
  cases hl : t.has l with
  | false =>
    have hh := rrow_m h l
    rw [hl] at hh
    rw [Ds.rowI_no hw hl]
    show Calls _ _ _ _ fun e w' => e = .returned (.int .i64 0) ∧ w' = w
    clear h hl hw hlen
    unfold ptr at *
    go_enter Try.func40, Try.ntmps40
    go_wp2
    go_loopw [5, 6] (fun gv kv wr => gv = .int .i64 0 ∧ kv = .int .i64 0 ∧ wr = w) (fun _ _ _ => 0)
    case atStart => exact ⟨rfl, rfl, rfl⟩
    case round =>
      obtain ⟨rfl, rfl, hwr⟩ := hrel
      have hwr := hwr.symm
      subst hwr
      go_wp2_with (first | (go_at_call 33; refine hh.mono ?_; rintro e w' ⟨rfl, hw'⟩; have hw' := hw'.symm; subst hw'))
      go_ret
      exact ⟨rfl, rfl⟩
  | true =>
    have hl2 := of_decide_eq_true hl
    obtain ⟨i, rfl⟩ : ∃ i : Nat, l = i := ⟨l.toNat, by omega⟩
    rw [Ds.rowI_in]
    have hi : i < t.n := by omega
    have hh := rrow_m h (i : Int)
    rw [hl] at hh
    have hn := hw.cap
    have hL := hlen i
    have c0 := h.cell0
    have lR := lt_of h.head
    obtain ⟨P, hP, lP, cP, _, hcl⟩ := h.ofRow hi
    subst hP
    have HIt : Hid (∀ k, k < (t.L i).length → ∃ B, (q i).1 = some ⟨B, 0, none⟩ ∧ B < w.heap.size ∧ w.cell? ⟨B, k * 2 + 1, none⟩ = some (.int .i64 ((t.L i).getD k (0, 0)).2) ∧ (t.L i).length ≤ (q i).2) := fun k hk => by
      obtain ⟨B, b1, b2, _, b3, _, b6⟩ := h.item hi hk
      exact ⟨B, b1, b2, b3, b6⟩
    have HEL : Hid (∀ p ∈ t.L i, 0 ≤ p.2 ∧ p.2 ≤ 2147483648) := fun p hp => ⟨(hw.els i p hp).2.2.1, (hw.els i p hp).2.2.2⟩
    obtain ⟨D, HD⟩ : ∃ D, Hid (D = t.L i) := ⟨_, rfl⟩
    rw [← HD.out] at HIt HEL cP hL ⊢
    obtain ⟨L, HL⟩ : ∃ L, Hid (L = D.length) := ⟨_, rfl⟩
    rw [← HL.out] at HIt cP hL
    obtain ⟨N, HN⟩ : ∃ N, Hid (N = t.n) := ⟨_, rfl⟩
    rw [← HN.out] at c0 hn hi hcl
    generalize hqp : (q i).1 = qp at *
    generalize hqc : (q i).2 = qc at *
    have hiI : (i : Int) < (N : Int) := by omega
    clear h hl hl2 hw hlen
    unfold ptr at *
    go_enter Try.func40, Try.ntmps40
    go_wp2
    go_loopw [5, 6] (fun nv kv wr => ∃ k : Nat, k ≤ L ∧ nv = .int .i64 (sumI ((D.take k).map (·.2))) ∧ kv = .int .i64 (k : Int) ∧ wr = w) (fun _ kv _ => L - (intOf kv).toNat)
    case atStart => exact ⟨0, by omega, rfl, rfl, rfl⟩
    case round =>
      obtain ⟨k, hk, rfl, rfl, hwr⟩ := hrel
      have hwr := hwr.symm
      subst hwr
      by_cases hlt : k < L
      · have d1 : decide ((k : Int) < (L : Int)) = true := by rw [decide_eq_true_eq]; omega
        obtain ⟨B, hB, lB, e1, hLc⟩ := HIt.out k hlt
        subst hB
        have hkD : k < D.length := by rw [← HL.out]; exact hlt
        have hdr : D.drop k = D.getD k (0, 0) :: D.drop (k + 1) := by
          rw [List.getD_eq_getElem?_getD, List.getElem?_eq_getElem hkD]
          exact (List.getElem_cons_drop hkD).symm
        have e3 := take_next hdr
        have b1 := sum_take_bound HEL.out k (by rw [← HL.out]; exact hL)
        have b2 := HEL.out (D.getD k (0, 0)) (by rw [List.getD_eq_getElem?_getD, List.getElem?_eq_getElem hkD]; exact List.getElem_mem _)
        obtain ⟨Sv, hSv⟩ : ∃ Sv, Sv = sumI ((D.take k).map (·.2)) := ⟨_, rfl⟩
        rw [← hSv] at e3 b1 ⊢
        obtain ⟨v, hv⟩ : ∃ v, v = (D.getD k (0, 0)).2 := ⟨_, rfl⟩
        rw [← hv] at e1 e3 b2
        have HS : Hid (sumI ((D.take (k + 1)).map (·.2)) = Sv + v) := e3
        clear e3 hdr hSv hv hkD
        go_wp2_with (first | (go_at_call 33; refine hh.mono ?_; rintro e w' ⟨rfl, hw'⟩; have hw' := hw'.symm; subst hw'))
        go_roundw
        case rel => exact ⟨k + 1, by omega, by rw [HS.out], by go_num, trivial⟩
        case measure => simp [intOf]; omega
      · obtain rfl : k = L := by omega
        have d1 : decide ((k : Int) < (k : Int)) = false := by rw [decide_eq_false_iff_not]; omega
        have e4 : D.take k = D := by rw [HL.out, List.take_length]
        rw [e4]
        obtain ⟨Sv, hSv⟩ : ∃ Sv, Sv = sumI (D.map (·.2)) := ⟨_, rfl⟩
        rw [← hSv]
        have HSv : Hid (Sv = sumI (D.map (·.2))) := hSv
        clear e4 hSv
        go_wp2_with (first | (go_at_call 33; refine hh.mono ?_; rintro e w' ⟨rfl, hw'⟩; have hw' := hw'.symm; subst hw'))
        go_ret
        exact ⟨ret_i HSv.out, rfl⟩
end Go.Proofs.Ytecnlciogcanmaa
