/-
  What settle of package policy does when it is called; who has to go: what holds of them. No condition but those told at each sentence.
-/
import Derived.Test.YtlmcopenbeammaaPoGoes
namespace Go.Proofs.Ytlmcopenbeammaa
open Go.RowKit Go.Deep
theorem Ds.Wf.lenD {t : Ds} (hw : t.Wf) (i : Nat) : (t.L i).length ≤ 65536 := by
  have := few_int (lo := 1) (hi := 65536) ((t.L i).map (·.1)) (hw.dup i) (fun x hx => by
    obtain ⟨p, hp, rfl⟩ := List.mem_map.1 hx
    have := hw.els i p hp
    exact ⟨this.1, this.2.1⟩)
  simpa using this
theorem Ds.Wf.cnt3 {t : Ds} (hw : t.Wf) : t.cnt 3 ≤ 196608 := by
  show ((0 + (t.L 0).length) + (t.L 1).length) + (t.L 2).length ≤ 196608
  have := hw.lenD 0; have := hw.lenD 1; have := hw.lenD 2
  omega
theorem Ds.cnt3_zero {t : Ds} (h : t.cnt 3 = 0) : t.tot 3 = 0 := by
  have h : ((0 + (t.L 0).length) + (t.L 1).length) + (t.L 2).length = 0 := h
  rw [Ds.tot3]
  unfold Ds.wt
  have e0 : t.L 0 = [] := List.eq_nil_of_length_eq_zero (by omega)
  have e1 : t.L 1 = [] := List.eq_nil_of_length_eq_zero (by omega)
  have e2 : t.L 2 = [] := List.eq_nil_of_length_eq_zero (by omega)
  rw [e0, e1, e2]; rfl
namespace Po
open Cm
/-- Numbers as cells. -/
def idL (l : List Int) (j : Nat) : Value := .int .i64 (l.getD j 0)
theorem idL_snoc (l : List Int) (x : Int) (j : Nat) (hj : j < l.length + 1) : (if j < l.length then idL l j else .int .i64 x) = idL (l ++ [x]) j := by
  unfold idL
  by_cases h : j < l.length
  · rw [if_pos h, List.getD_eq_getElem?_getD, List.getD_eq_getElem?_getD, List.getElem?_append_left h]
  · have e : j = l.length := by omega
    rw [if_neg h, List.getD_eq_getElem?_getD, List.getElem?_append_right (by omega)]
    simp [e]
def goneN (C seed : Int) (mw : Nat) : Nat → Ps → Ps × List Int
  | 0, y => (y, [])
  | n + 1, y => if C < y.t.tot 3 then ((goneN C seed mw n (y.rm (y.goes seed mw))).1, y.goes seed mw :: (goneN C seed mw n (y.rm (y.goes seed mw))).2) else (y, [])
/-- As long as all weigh more than the capacity one goes. -/
def Ps.gone (y : Ps) (C seed : Int) (mw : Nat) : Ps × List Int := goneN C seed mw (y.t.cnt 3) y
def Ps.set (y : Ps) (C seed : Int) (mw : Nat) : Ps × List Int := Ps.gone { y with t := y.t.shed 0 y.q.x } C seed mw
theorem goneN_succ (C seed : Int) (mw n : Nat) (y : Ps) : goneN C seed mw (n + 1) y = if C < y.t.tot 3 then ((goneN C seed mw n (y.rm (y.goes seed mw))).1, y.goes seed mw :: (goneN C seed mw n (y.rm (y.goes seed mw))).2) else (y, []) := rfl
theorem fst_mem {t : Ds} {r : Nat} (h : t.L r ≠ []) : ∃ p, p ∈ t.L r ∧ t.fst r = p.1 := by
  unfold Ds.fst
  cases e : t.L r with
  | nil => exact absurd e h
  | cons p l => exact ⟨p, by simp, rfl⟩
/-- Who goes is in a row. -/
theorem goes_mem {y : Ps} {seed : Int} {mw : Nat} (hw : y.t.Wf) (h : 0 < y.t.tot 3) : ∃ i v, (y.goes seed mw, v) ∈ y.t.L i := by
  unfold Ps.goes
  by_cases h1 : y.t.fst 1 = 0
  · rw [if_pos h1]
    have e1 : y.t.L 1 = [] := by
      apply Decidable.byContradiction; intro hn
      obtain ⟨p, hp, e⟩ := fst_mem hn
      have := hw.els 1 p hp
      omega
    by_cases h2 : y.t.fst 2 = 0
    · rw [if_pos h2]
      have e2 : y.t.L 2 = [] := by
        apply Decidable.byContradiction; intro hn
        obtain ⟨p, hp, e⟩ := fst_mem hn
        have := hw.els 2 p hp
        omega
      have e0 : y.t.L 0 ≠ [] := fun e0 => by
        rw [Ds.tot3] at h
        unfold Ds.wt at h
        rw [e0, e1, e2] at h
        simp [sumD] at h
      obtain ⟨p, hp, e⟩ := fst_mem e0
      exact ⟨0, p.2, by rw [e]; exact hp⟩
    · rw [if_neg h2]
      obtain ⟨p, hp, e⟩ := fst_mem (t := y.t) (r := 2) (fun e => h2 (by unfold Ds.fst; rw [e]; rfl))
      exact ⟨2, p.2, by rw [e]; exact hp⟩
  · rw [if_neg h1]
    obtain ⟨p, q, hp, hq, e1, e2⟩ := lst_mem h1
    split
    · exact ⟨1, p.2, by rw [e1]; exact hp⟩
    · exact ⟨1, q.2, by rw [e2]; exact hq⟩
theorem rm_facts {y : Ps} (hw : y.t.Wf) (hn : y.t.n = 3) {id v : Int} {i : Nat} (h : (id, v) ∈ y.t.L i) : (y.rm id).t.Wf ∧ (y.rm id).t.n = 3 ∧ (y.rm id).t.cnt 3 + 1 = y.t.cnt 3 ∧ (y.rm id).t.tot 3 + v = y.t.tot 3 ∧ (y.rm id).t = y.t.unlink id := by
  have e : (y.rm id).t = y.t.unlink id := by
    show y.t.unlinkI id = _
    unfold Ds.unlinkI
    rw [hw.find_of h]; rfl
  have hi := hw.lt h
  obtain ⟨t1, t2⟩ := Ds.tot_unlink hw h 3
  rw [if_pos (by omega)] at t1 t2
  rw [e]
  exact ⟨hw.unlinkW id, hn, t2, t1, rfl⟩
/-- One goes. -/
theorem gone_go {y : Ps} {C seed : Int} {mw : Nat} (hw : y.t.Wf) (hn : y.t.n = 3) (hC : 0 ≤ C) (h : C < y.t.tot 3) : y.gone C seed mw = (((y.rm (y.goes seed mw)).gone C seed mw).1, y.goes seed mw :: ((y.rm (y.goes seed mw)).gone C seed mw).2) := by
  obtain ⟨i, v, hm⟩ := goes_mem (seed := seed) (mw := mw) hw (by omega)
  obtain ⟨_, _, h3, _⟩ := rm_facts hw hn hm
  unfold Ps.gone
  rw [← h3, goneN_succ, if_pos h]
theorem gone_stop {y : Ps} {C seed : Int} {mw : Nat} (h : ¬ C < y.t.tot 3) : y.gone C seed mw = (y, []) := by
  unfold Ps.gone
  cases y.t.cnt 3 with
  | zero => rfl
  | succ k => rw [goneN_succ, if_neg h]
variable {w w' : World} {A S F X M mw : Nat} {G : Nat → Prop} {C seed : Int} {y : Ps}
/-- What settle keeps: the policy, and who went. -/
structure Sett (w : World) (A S F X M : Nat) (G0 : Nat → Prop) (C seed : Int) (mw : Nat) (y0 y : Ps) (l : List Int) (p : Option Addr) (c : Nat) (wr : World) (G : Nat → Prop) : Prop where
  pol : Pof wr A S F X M G C seed mw y
  st : Step (foot A S F M G0) (foot A S F M G) w wr
  vec : Vec wr 3 1 p l.length c (idL l)
  ap : ∀ k, In p k → ¬ foot A S F M G k ∧ w.heap.size ≤ k
  e1 : (y0.gone C seed mw).1 = (y.gone C seed mw).1
  e2 : (y0.gone C seed mw).2 = l ++ (y.gone C seed mw).2
  n : y.t.n = 3
  tot : y.t.tot 3 ≤ 9223372036854775807
  len : l.length + y.t.cnt 3 ≤ 196608
set_option maxRecDepth 100000 in
set_option maxHeartbeats 4000000 in
theorem settle_p (h : Pof w A S F X M G C seed mw y) (hn : y.t.n = 3) (hC : 0 ≤ C) (hx : 0 ≤ y.q.x) (ht : y.t.tot 3 ≤ 9223372036854775807) :
    Calls Try.prog 26 #[ptr A] w fun e w' => ∃ p c k G', e = .returned (.slice p k c) ∧ k = (y.set C seed mw).2.length ∧ Vec w' 3 1 p k c (idL (y.set C seed mw).2) ∧ Pof w' A S F X M G' C seed mw (y.set C seed mw).1 ∧ Step (foot A S F M G) (foot A S F M G') w w' ∧ (∀ k, In p k → ¬ foot A S F M G' k ∧ w.heap.size ≤ k) := by
  have hsm := h.dq.wf.shed_sm 0 y.q.x
  have SH := shed_p h 0 (by omega) (by omega) y.q.x hx
  obtain ⟨y0, hy0⟩ : ∃ y0 : Ps, y0 = { y with t := y.t.shed 0 y.q.x } := ⟨_, rfl⟩
  have hs : y.set C seed mw = y0.gone C seed mw := by rw [hy0]; rfl
  have n0 : y0.t.n = 3 := by rw [hy0]; exact hsm.n.trans hn
  have t0 : y0.t.tot 3 ≤ 9223372036854775807 := by
    rw [hy0]
    have e := hsm.tot
    rw [hn] at e
    show (y.t.shed 0 y.q.x).tot 3 ≤ _
    rw [e]; exact ht
  rw [← hy0] at SH
  rw [hs]
  have c5 := h.pb.cells.2.2.2.2.1
  have HB : Hid (y0.t.n = 3 ∧ y0.t.tot 3 ≤ 9223372036854775807) := ⟨n0, t0⟩
  clear hsm hy0 hs n0 t0 ht hn h
  unfold ptr at SH ⊢
  go_enter Try.func26, Try.ntmps26
  go_wp2_with (go_at_call 49; refine SH.mono ?_; rintro e w1 ⟨rfl, G1, P1, S1⟩)
  go_loopg [3] (y0.t.cnt 3) (fun n v wr => ∃ y' l p c G', v = .slice p l.length c ∧ n = y'.t.cnt 3 ∧ Hid (Sett w A S F X M G C seed mw y0 y' l p c wr G'))
  case atStart => exact ⟨y0, [], none, 0, G1, rfl, rfl, P1, S1, Vec.nil _ _ _ _, fun k hk => absurd hk In.no, rfl, rfl, HB.out.1, HB.out.2, by have := P1.dq.wf.cnt3; simpa using this⟩
  case round =>
    clear SH P1 S1 c5
    obtain ⟨y', l, p, c, G', rfl, rfl, HS⟩ := hrel
    have WT := weight_p (HS.out.pol.grown (Grown.refl _).drew) HS.out.tot
    have k0 := (HS.out.pol.grown (Grown.refl _).drew).pb.cells.2.2.2.1
    unfold ptr at WT
    obtain ⟨T, hT⟩ : ∃ T, T = y'.t.tot 3 := ⟨_, rfl⟩
    rw [← hT] at WT
    have HT : Hid (T = y'.t.tot 3) := hT
    clear hT
    obtain ⟨N, hN⟩ : ∃ N : Nat, N = l.length := ⟨_, rfl⟩
    rw [← hN]
    have HNN : Hid (N = l.length) := hN
    have hNb : N ≤ 196608 := by rw [hN]; have := HS.out.len; omega
    clear hN
    by_cases hlt : C < T
    · obtain ⟨i, v, hm⟩ := goes_mem (seed := seed) (mw := mw) HS.out.pol.dq.wf (by rw [← HT.out]; omega)
      have hid := wf_id HS.out.pol.dq.wf hm
      have hgo := gone_go (seed := seed) (mw := mw) HS.out.pol.dq.wf HS.out.n hC (by rw [← HT.out]; exact hlt)
      obtain ⟨r1, r2, r3, r4, _⟩ := rm_facts HS.out.pol.dq.wf HS.out.n hm
      have hv0 := (HS.out.pol.dq.wf.els i _ hm).2.2.1
      have hd : decide (C < T) = true := by simpa using hlt
      obtain ⟨id, eid⟩ : ∃ id, id = y'.goes seed mw := ⟨_, rfl⟩
      rw [← eid] at hid hgo r1 r2 r3 r4
      have LV : ∀ W, Grown wr W → Calls Try.prog 51 #[.pointer (some ⟨A, 0, none⟩)] W fun e w' => e = .returned (.int .i64 id) ∧ Grown W w' := fun W g => by rw [eid]; exact leaver_p (HS.out.pol.grown g)
      have HF : Hid (y'.gone C seed mw = (((y'.rm id).gone C seed mw).1, id :: ((y'.rm id).gone C seed mw).2) ∧ (y'.rm id).t.n = 3 ∧ (y'.rm id).t.cnt 3 + 1 = y'.t.cnt 3 ∧ (y'.rm id).t.tot 3 ≤ T) := ⟨hgo, r2, r3, by rw [HT.out]; omega⟩
      clear hlt hm hgo r1 r2 r3 r4 hv0 eid
      go_wp2
      refine region_flowN [(1, []), (7, [])] 7 [(12, .pointer (some ⟨A, 0, none⟩)), (14, .pointer (some ⟨A, 0, none⟩)), (15, .pointer (some ⟨A, 0, none⟩)), (16, .pointer (some ⟨A, 3, none⟩)), (17, .pointer (some ⟨A, 3, none⟩)), (18, .int .i64 C)] Cm.hmx (by kernel_rfl) (by decide) (by kernel_rfl) ?_
      simp only [fills, Act.put, List.setIfInBounds_toArray, List.set_cons_zero, List.set_cons_succ]
      refine flowN_only (1, []) [(7, [])] (by kernel_rfl) (by rfl) ?q1 (stepN_call _ (some 13) 11 _ rfl rfl (by go_simp) (WT.mono ?_))
      case q1 =>
        clear WT HS LV HF
        intro i o ho hi hoff
        iterate 8 (rcases i with _ | i; · first | (exact absurd hi (by decide)) | (exact absurd hoff (by decide)) | (cases ho; go_simp))
        cases ho
      rintro e w2 ⟨rfl, g2⟩
      have g2 := grownTrans (Grown.refl wr).drew g2
      clear k0
      have k0 := (HS.out.pol.grown g2).pb.cells.2.2.2.1
      refine ⟨_, rfl, [], by kernel_rfl, ?_⟩
      simp only [fills, Act.put, List.setIfInBounds_toArray, List.set_cons_zero, List.set_cons_succ]
      refine flowN_only (7, []) [] (by kernel_rfl) (by rfl) ?q2 (stepN_val _ (some 19) (.bool true) w2 [] rfl rfl (by go_simp) (by kernel_rfl) ?_)
      case q2 =>
        clear WT HS LV HF
        intro i o ho hi hoff
        iterate 8 (rcases i with _ | i; · first | (exact absurd hi (by decide)) | (exact absurd hoff (by decide)) | (cases ho; go_simp))
        cases ho
      simp only [fills, Act.put, List.setIfInBounds_toArray, List.set_cons_zero, List.set_cons_succ]
      refine flowN_done ?_
      clear k0 WT hd
      have RM := fun W (g : Grown wr W) => remove_p (HS.out.pol.grown g) hid
      unfold ptr at RM
      go_wp2_with (first | (go_at_call 51; refine (LV _ g2).mono ?_; rintro e w3 ⟨rfl, g3⟩; have g3 := grownTrans g2 g3) | (go_at_call 25; refine (RM _ g3).mono ?_; rintro e w4 ⟨rfl, G4, P4, S4⟩; have S4 := (Step.grown (foot A S F M G') g3).trans S4; have V4 := HS.out.vec.out S4.out (fun k hk => (HS.out.ap k hk).1); rw [← HNN.out] at V4; have HV4 : Hid (Vec w4 3 1 p N c (idL l)) := V4; clear V4) | (at_builtin; refine wpList_append_vec rfl (.tmp 25) (.tmp 27) 26 rfl Try.underlying26 infoIntD rfl rfl (HV4.out.grown ((Grown.refl _).alloc _ _)) rfl (by decide) (new_ptr _ _ _) (fun _ _ => rfl) (by omega) (by omega) ?_; intro p' c' w5 hv5 ho5 hp5; have HW : Hid (Vec w5 3 1 p' (N + 1) c' (fun j => if j < N * 1 then idL l j else .int .i64 id) ∧ Out (In p) (w4.alloc (.cells #[.int .i64 id] 3)) w5 ∧ (p' = p ∨ p' = some ⟨(w4.alloc (.cells #[.int .i64 id] 3)).heap.size, 0, none⟩)) := ⟨hv5, ho5, hp5⟩; clear hv5 ho5 hp5))
      go_roundg ((y'.rm id).t.cnt 3)
      case measure => have := HF.out.2.2.1; omega
      case rel =>
        obtain ⟨v5, o5, p5⟩ := HW.out
        have hap := S4.apart (G := In p) (fun k hk => HS.out.vec.lt hk) (fun k hk => (HS.out.ap k hk).1)
        have o45 : Out (In p) w4 w5 := (Out.of_grown ((Grown.refl w4).alloc #[.int .i64 id] 3) (In p)).trans o5 fun _ => .inl
        have st4 := HS.out.st.trans S4
        have hsz : w4.heap.size ≤ (w4.alloc (.cells #[.int .i64 id] 3)).heap.size := by rw [nblk_alloc]; omega
        have hw4 := st4.out.size
        refine ⟨y'.rm id, l ++ [id], p', c', G4, by rw [HNN.out]; simp, rfl, P4.out o45 (fun i hi hp => hap i hp hi), ⟨st4.out.trans o45 (fun i hi => .inr (HS.out.ap i hi).2), st4.new⟩, ?_, fun k hk => ?_, ?_, ?_, HF.out.2.1, ?_, ?_⟩
        · rw [HNN.out] at v5
          have e : (l ++ [id]).length = l.length + 1 := by simp
          rw [e]
          refine v5.congr fun j hj => ?_
          have hj : j < l.length + 1 := by omega
          rw [← idL_snoc l id j hj]
          simp only [Nat.mul_one]
        · rcases p5 with rfl | rfl
          · exact ⟨hap k hk, (HS.out.ap k hk).2⟩
          · have hk := hk.eq
            exact ⟨fun hf => by have := P4.lt k hf; omega, by omega⟩
        · rw [HS.out.e1, HF.out.1]
        · rw [HS.out.e2, HF.out.1]; simp
        · have h1 := HF.out.2.2.2; have h2 := HS.out.tot; rw [← HT.out] at h2; omega
        · have h1 := HF.out.2.2.1; have h2 := HS.out.len; simp; omega
    · have hd : decide (C < T) = false := by simpa using hlt
      have HF : Hid (y'.gone C seed mw = (y', [])) := gone_stop (by rw [← HT.out]; exact hlt)
      clear hlt
      go_wp2
      refine region_flowN [(1, []), (7, [])] 7 [(12, .pointer (some ⟨A, 0, none⟩)), (14, .pointer (some ⟨A, 0, none⟩)), (15, .pointer (some ⟨A, 0, none⟩)), (16, .pointer (some ⟨A, 3, none⟩)), (17, .pointer (some ⟨A, 3, none⟩)), (18, .int .i64 C)] Cm.hmx (by kernel_rfl) (by decide) (by kernel_rfl) ?_
      simp only [fills, Act.put, List.setIfInBounds_toArray, List.set_cons_zero, List.set_cons_succ]
      refine flowN_only (1, []) [(7, [])] (by kernel_rfl) (by rfl) ?q3 (stepN_call _ (some 13) 11 _ rfl rfl (by go_simp) (WT.mono ?_))
      case q3 =>
        clear WT HS HF
        intro i o ho hi hoff
        iterate 8 (rcases i with _ | i; · first | (exact absurd hi (by decide)) | (exact absurd hoff (by decide)) | (cases ho; go_simp))
        cases ho
      rintro e w2 ⟨rfl, g2⟩
      have g2 := grownTrans (Grown.refl wr).drew g2
      clear k0
      have k0 := (HS.out.pol.grown g2).pb.cells.2.2.2.1
      refine ⟨_, rfl, [], by kernel_rfl, ?_⟩
      simp only [fills, Act.put, List.setIfInBounds_toArray, List.set_cons_zero, List.set_cons_succ]
      refine flowN_only (7, []) [] (by kernel_rfl) (by rfl) ?q4 (stepN_val _ (some 19) (.bool false) w2 [] rfl rfl (by go_simp) (by kernel_rfl) ?_)
      case q4 =>
        clear WT HS HF
        intro i o ho hi hoff
        iterate 8 (rcases i with _ | i; · first | (exact absurd hi (by decide)) | (exact absurd hoff (by decide)) | (cases ho; go_simp))
        cases ho
      simp only [fills, Act.put, List.setIfInBounds_toArray, List.set_cons_zero, List.set_cons_succ]
      refine flowN_done ?_
      clear k0 WT hd
      go_wp2
      go_ret
      have e1 := HS.out.e1
      have e2 := HS.out.e2
      rw [HF.out] at e1 e2
      have e2 : (y0.gone C seed mw).2 = l := by simpa using e2
      refine ⟨p, c, N, G', rfl, by rw [e2]; exact HNN.out, ?_, by rw [e1]; exact HS.out.pol.grown g2, HS.out.st.more g2, HS.out.ap⟩
      rw [e2, HNN.out]
      exact HS.out.vec.grown g2
end Po
end Go.Proofs.Ytlmcopenbeammaa
