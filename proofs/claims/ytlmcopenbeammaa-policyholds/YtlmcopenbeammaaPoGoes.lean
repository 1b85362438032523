/-
  What leaver of package policy, and cmp.Or, do when they are called. No condition but those told at each sentence.
-/
import Derived.Test.YtlmcopenbeammaaPoRead
namespace Go.Proofs.Ytlmcopenbeammaa.Po
open Go.RowKit Go.Deep Cm

set_option maxHeartbeats 1000000 in
theorem or_c {B : Nat} (a b : Int) (w : World) (h0 : w.cell? ⟨B, 0, none⟩ = some (.int .i64 a)) (h1 : w.cell? ⟨B, 1, none⟩ = some (.int .i64 b)) :
    Calls Try.prog 74 #[.slice (some ⟨B, 0, none⟩) 2 2] w fun e w' => e = .returned (.int .i64 (if a = 0 then b else a)) ∧ w' = w := by
  obtain ⟨r, hr⟩ : ∃ r, r = if a = 0 then b else a := ⟨_, rfl⟩
  rw [← hr]
  have HR : Hid (r = if a = 0 then b else a) := hr
  clear hr
  go_enter Try.func74, Try.ntmps74
  go_wp2
  go_loopw [8] (fun i wr => ∃ k : Nat, i = .int .i64 k ∧ k ≤ 2 ∧ wr = w ∧ (1 ≤ k → Hid (a = 0)) ∧ (2 ≤ k → Hid (b = 0))) (fun i _ => 2 - (intOf i).toNat)
  case atStart => exact ⟨0, rfl, by omega, rfl, fun h => by omega, fun h => by omega⟩
  case round =>
    obtain ⟨k, rfl, hk, rfl, ha, hb⟩ := hrel
    rcases k with _ | _ | _ | k
    · by_cases h : a = 0
      · have hd : (a == 0) = true := by simpa using h
        clear ha hb
        go_wp2
        exact ⟨⟨1, by go_num, by omega, trivial, fun _ => h, fun h => by omega⟩, by simp [intOf]⟩
      · have hd : (a == 0) = false := by simpa using h
        clear ha hb
        go_wp2
        go_ret
        exact ⟨congrArg (fun z => Ending.returned (.int .i64 z)) (HR.out.trans (if_neg h)).symm, rfl⟩
    · have h := (ha (by omega)).out
      have HA : Hid (a = 0) := h
      clear h ha hb
      by_cases h : b = 0
      · have hd : (b == 0) = true := by simpa using h
        go_wp2
        exact ⟨⟨2, by go_num, by omega, trivial, fun _ => HA, fun _ => h⟩, by simp [intOf]⟩
      · have hd : (b == 0) = false := by simpa using h
        go_wp2
        go_ret
        exact ⟨congrArg (fun z => Ending.returned (.int .i64 z)) (HR.out.trans (if_pos HA.out)).symm, rfl⟩
    · have HA := ha (by omega)
      have HB := hb (by omega)
      clear ha hb
      go_wp2
      go_ret
      exact ⟨congrArg (fun z => Ending.returned (.int .i64 z)) ((HR.out.trans (if_pos HA.out)).trans HB.out).symm, rfl⟩
    · omega

theorem lst_mem {t : Ds} {r : Nat} (h : t.fst r ≠ 0) : ∃ p q : Int × Int, p ∈ t.L r ∧ q ∈ t.L r ∧ t.fst r = p.1 ∧ t.lst r = q.1 := by
  unfold Ds.fst Ds.lst at *
  cases e : t.L r with
  | nil => rw [e] at h; exact absurd rfl h
  | cons p l =>
    refine ⟨p, (p :: l).getLast (by simp), by simp, List.getLast_mem _, rfl, ?_⟩
    rw [List.getLastD_eq_getLast?, List.getLast?_map, List.getLast?_eq_some_getLast (by simp)]
    rfl
variable {w w' : World} {A S F X M mw : Nat} {G : Nat → Prop} {C seed : Int} {y : Ps}
set_option maxRecDepth 100000 in
set_option maxHeartbeats 4000000 in
theorem leaver_p (h : Pof w A S F X M G C seed mw y) :
    Calls Try.prog 51 #[ptr A] w fun e w' => e = .returned (.int .i64 (y.goes seed mw)) ∧ Grown w w' := by
  have FR : ∀ W, Grown w W → ∀ r : Nat, Calls Try.prog 72 #[ptr X, .int .i64 r] W fun e w' => e = .returned (.int .i64 (y.t.fst r)) ∧ Grown W w' := fun W g r => by
    have := front_a (h.grown g).dq r
    rw [rowI_nat] at this
    exact this
  have BK : ∀ W, Grown w W → Calls Try.prog 73 #[ptr X, .int .i64 1] W fun e w' => e = .returned (.int .i64 (y.t.lst 1)) ∧ Grown W w' := fun W g => back_a (h.grown g).dq 1
  have HP : Hid (Pof w A S F X M G C seed mw y) := h
  have P1 := h.grown (Grown.refl _).drew
  have CL : Hid (∀ W, Grown w W → W.cell? ⟨A, 0, none⟩ = some (.pointer (some ⟨F, 0, none⟩)) ∧ W.cell? ⟨A, 1, none⟩ = some (.pointer (some ⟨X, 0, none⟩)) ∧ W.cell? ⟨A, 2, none⟩ = some (.map (some M))) := fun W g => ⟨(HP.out.grown g).pb.cells.1, (HP.out.grown g).pb.cells.2.1, (HP.out.grown g).pb.cells.2.2.1⟩
  have g1 : Grown w w.drew := (Grown.refl _).drew
  have c1 := (CL.out _ g1).2.1
  have HV : Hid (y.t.fst 1 ≠ 0 → (Lit.int .i64 (y.t.fst 1)).wf = true ∧ (Lit.int .i64 (y.t.lst 1)).wf = true) := fun hv => by
    obtain ⟨p, q, hp, hq, e1, e2⟩ := lst_mem hv
    rw [e1, e2]
    exact ⟨wf_id h.dq.wf hp, wf_id h.dq.wf hq⟩
  obtain ⟨vi, hvi⟩ : ∃ v, v = y.t.fst 1 := ⟨_, rfl⟩
  obtain ⟨ca, hca⟩ : ∃ v, v = y.t.lst 1 := ⟨_, rfl⟩
  have F1 : ∀ W, Grown w W → Calls Try.prog 72 #[ptr X, .int .i64 1] W fun e w' => e = .returned (.int .i64 vi) ∧ Grown W w' := fun W g => by rw [hvi]; exact FR W g 1
  rw [← hca] at BK
  rw [← hvi, ← hca] at HV
  have HG : Hid (y.goes seed mw = if vi = 0 then (if y.t.fst 2 = 0 then y.t.fst 0 else y.t.fst 2) else if y.f.oft (mixB seed ((y.k vi).getD 0)) mw < y.f.oft (mixB seed ((y.k ca).getD 0)) mw then vi else ca) := by rw [hvi, hca]; rfl
  clear h P1 hvi hca
  unfold ptr at *
  go_enter Try.func51, Try.ntmps51
  go_wp2
  refine region_flowN [(4, []), (9, []), (10, []), (11, [])] 11 [(5, .pointer (some ⟨A, 0, none⟩)), (6, .pointer (some ⟨A, 0, none⟩)), (7, .pointer (some ⟨A, 1, none⟩)), (8, .pointer (some ⟨X, 0, none⟩)), (10, .pointer (some ⟨A, 0, none⟩)), (11, .pointer (some ⟨A, 0, none⟩)), (12, .pointer (some ⟨A, 1, none⟩)), (13, .pointer (some ⟨X, 0, none⟩))] Cm.hmx (by kernel_rfl) (by decide) (by kernel_rfl) ?_
  simp only [fills, Act.put, List.setIfInBounds_toArray, List.set_cons_zero, List.set_cons_succ]
  refine flowN_only (4, []) [(9, []), (10, []), (11, [])] (by kernel_rfl) (by rfl) ?run1 (stepN_call _ (some 9) 72 _ rfl rfl (by go_simp) ((F1 _ g1).mono ?_))
  case run1 =>
    clear FR BK F1 HP CL HV HG
    intro i o ho hi hoff
    iterate 12 (rcases i with _ | i; · first | (exact absurd hi (by decide)) | (exact absurd hoff (by decide)) | (cases ho; go_simp))
    cases ho
  rintro e w2 ⟨rfl, g2⟩
  have g2 := grownTrans g1 g2
  clear c1
  have c1 := (CL.out _ g2).2.1
  refine ⟨_, rfl, [], by kernel_rfl, ?_⟩
  simp only [fills, Act.put, List.setIfInBounds_toArray, List.set_cons_zero, List.set_cons_succ]
  refine flowN_only (9, []) [(10, []), (11, [])] (by kernel_rfl) (by rfl) ?run2 (stepN_call _ (some 14) 73 _ rfl rfl (by go_simp) ((BK _ g2).mono ?_))
  case run2 =>
    clear FR BK F1 HP CL HV HG
    intro i o ho hi hoff
    iterate 12 (rcases i with _ | i; · first | (exact absurd hi (by decide)) | (exact absurd hoff (by decide)) | (cases ho; go_simp))
    cases ho
  rintro e w3 ⟨rfl, g3⟩
  have g3 := grownTrans g2 g3
  clear c1
  have c1 := (CL.out _ g3).2.1
  refine ⟨_, rfl, [], by kernel_rfl, ?_⟩
  simp only [fills, Act.put, List.setIfInBounds_toArray, List.set_cons_zero, List.set_cons_succ]
  refine flowN_only (10, []) [(11, [])] (by kernel_rfl) (by rfl) ?run3 (stepN_val _ (some 3) (.int .i64 vi) w3 [] rfl rfl (by go_simp) (by kernel_rfl) ?_)
  case run3 =>
    clear FR BK F1 HP CL HV HG
    intro i o ho hi hoff
    iterate 12 (rcases i with _ | i; · first | (exact absurd hi (by decide)) | (exact absurd hoff (by decide)) | (cases ho; go_simp))
    cases ho
  simp only [fills, Act.put, List.setIfInBounds_toArray, List.set_cons_zero, List.set_cons_succ]
  refine flowN_only (11, []) [] (by kernel_rfl) (by rfl) ?run4 (stepN_val _ (some 4) (.int .i64 ca) w3 [] rfl rfl (by go_simp) (by kernel_rfl) ?_)
  case run4 =>
    clear FR BK F1 HP CL HV HG
    intro i o ho hi hoff
    iterate 12 (rcases i with _ | i; · first | (exact absurd hi (by decide)) | (exact absurd hoff (by decide)) | (cases ho; go_simp))
    cases ho
  simp only [fills, Act.put, List.setIfInBounds_toArray, List.set_cons_zero, List.set_cons_succ]
  refine flowN_done ?_
  clear c1 BK F1
  by_cases hv : vi = 0
  · have hd : (vi == 0) = true := by simpa using hv
    have HW : Hid (vi = 0) := hv
    have F2 : ∀ W, Grown w W → Calls Try.prog 72 #[.pointer (some ⟨X, 0, none⟩), .int .i64 2] W fun e w' => e = .returned (.int .i64 (y.t.fst 2)) ∧ Grown W w' := fun W g => FR W g 2
    have F0 : ∀ W, Grown w W → Calls Try.prog 72 #[.pointer (some ⟨X, 0, none⟩), .int .i64 0] W fun e w' => e = .returned (.int .i64 (y.t.fst 0)) ∧ Grown W w' := fun W g => FR W g 0
    obtain ⟨a, ha⟩ : ∃ a, a = y.t.fst 2 := ⟨_, rfl⟩
    obtain ⟨b, hb⟩ : ∃ b, b = y.t.fst 0 := ⟨_, rfl⟩
    rw [← ha] at F2 HG
    rw [← hb] at F0 HG
    clear hv ha hb FR
    go_wp2
    have g4 := grownTrans g3 (Grown.refl w3).drew
    have c1 := (CL.out _ g4).2.1
    refine region_flowN [(4, []), (9, []), (10, []), (11, []), (12, [])] 12 [(17, .pointer (some ⟨A, 0, none⟩)), (18, .pointer (some ⟨A, 0, none⟩)), (19, .pointer (some ⟨A, 1, none⟩)), (20, .pointer (some ⟨X, 0, none⟩)), (22, .pointer (some ⟨A, 0, none⟩)), (23, .pointer (some ⟨A, 0, none⟩)), (24, .pointer (some ⟨A, 1, none⟩)), (25, .pointer (some ⟨X, 0, none⟩))] Cm.hmx (by kernel_rfl) (by decide) (by kernel_rfl) ?_
    simp only [fills, Act.put, List.setIfInBounds_toArray, List.set_cons_zero, List.set_cons_succ]
    refine flowN_only (4, []) [(9, []), (10, []), (11, []), (12, [])] (by kernel_rfl) (by rfl) ?r1 (stepN_call _ (some 21) 72 _ rfl rfl (by go_simp) ((F2 _ g4).mono ?_))
    case r1 =>
      clear F2 F0 HP CL HV HG
      intro i o ho hi hoff
      iterate 13 (rcases i with _ | i; · first | (exact absurd hi (by decide)) | (exact absurd hoff (by decide)) | (cases ho; go_simp))
      cases ho
    rintro e w5 ⟨rfl, g5⟩
    replace g5 := grownTrans g4 g5
    clear c1
    have c1 := (CL.out _ g5).2.1
    refine ⟨_, rfl, [], by kernel_rfl, ?_⟩
    simp only [fills, Act.put, List.setIfInBounds_toArray, List.set_cons_zero, List.set_cons_succ]
    refine flowN_only (9, []) [(10, []), (11, []), (12, [])] (by kernel_rfl) (by rfl) ?r2 (stepN_call _ (some 26) 72 _ rfl rfl (by go_simp) ((F0 _ g5).mono ?_))
    case r2 =>
      clear F2 F0 HP CL HV HG
      intro i o ho hi hoff
      iterate 13 (rcases i with _ | i; · first | (exact absurd hi (by decide)) | (exact absurd hoff (by decide)) | (cases ho; go_simp))
      cases ho
    rintro e w6 ⟨rfl, g6⟩
    replace g6 := grownTrans g5 g6
    clear c1
    have c1 := (CL.out _ g6).2.1
    refine ⟨_, rfl, [], by kernel_rfl, ?_⟩
    simp only [fills, Act.put, List.setIfInBounds_toArray, List.set_cons_zero, List.set_cons_succ]
    refine flowN_only (10, []) [(11, []), (12, [])] (by kernel_rfl) (by rfl) ?r3 (stepN_val _ (some 27) (.slice (some ⟨w6.heap.size, 0, none⟩) 2 2) (w6.alloc (.cells #[.int .i64 a, .int .i64 b] 3)) [] rfl rfl (by go_simp) (by kernel_rfl) ?_)
    case r3 =>
      clear F2 F0 HP CL HV HG
      intro i o ho hi hoff
      iterate 13 (rcases i with _ | i; · first | (exact absurd hi (by decide)) | (exact absurd hoff (by decide)) | (cases ho; go_simp))
      cases ho
    simp only [fills, Act.put, List.setIfInBounds_toArray, List.set_cons_zero, List.set_cons_succ]
    have g7 : Grown w (w6.alloc (.cells #[.int .i64 a, .int .i64 b] 3)) := g6.alloc _ _
    clear c1
    have c1 := (CL.out _ g7).2.1
    refine flowN_only (11, []) [(12, [])] (by kernel_rfl) (by rfl) ?r4 (stepN_call _ (some 28) 74 _ rfl rfl (by go_simp) ((or_c a b _ (cell_of (blk_alloc_new _ _) rfl) (cell_of (blk_alloc_new _ _) rfl)).mono ?_))
    case r4 =>
      clear F2 F0 HP CL HV HG
      intro i o ho hi hoff
      iterate 13 (rcases i with _ | i; · first | (exact absurd hi (by decide)) | (exact absurd hoff (by decide)) | (cases ho; go_simp))
      cases ho
    rintro e w8 ⟨rfl, rfl⟩
    refine ⟨_, rfl, [], by kernel_rfl, ?_⟩
    simp only [fills, Act.put, List.setIfInBounds_toArray, List.set_cons_zero, List.set_cons_succ]
    obtain ⟨r, hr⟩ : ∃ r, r = if a = 0 then b else a := ⟨_, rfl⟩
    rw [← hr]
    rw [if_pos HW.out, ← hr] at HG
    refine flowN_only (12, []) [] (by kernel_rfl) (by rfl) ?r5 (stepN_val _ (some 2) (.int .i64 r) (w6.alloc (.cells #[.int .i64 a, .int .i64 b] 3)) [] rfl rfl (by go_simp) (by kernel_rfl) ?_)
    case r5 =>
      clear F2 F0 HP CL HV HG hr
      intro i o ho hi hoff
      iterate 13 (rcases i with _ | i; · first | (exact absurd hi (by decide)) | (exact absurd hoff (by decide)) | (cases ho; go_simp))
      cases ho
    simp only [fills, Act.put, List.setIfInBounds_toArray, List.set_cons_zero, List.set_cons_succ]
    refine flowN_done ?_
    clear F2 F0 HP CL HV hr
    go_wp2
    go_ret
    exact ⟨congrArg (fun z => Ending.returned (.int .i64 z)) HG.out.symm, g7⟩
  · have hd : (vi == 0) = false := by simpa using hv
    have HW : Hid (¬ vi = 0) := hv
    obtain ⟨wv, wc⟩ := HV.out hv
    clear hv FR HV
    go_wp2
    have g4 := grownTrans g3 (Grown.refl w3).drew
    obtain ⟨c0, c1, c2⟩ := CL.out _ g4
    have lc := (HP.out.grown g4).mp.look Try.underlying3 (t := 47) Try.underlying47 (zeroI _) wc
    have lv := (HP.out.grown g4).mp.look Try.underlying3 (t := 47) Try.underlying47 (zeroI _) wv
    rw [keyC_get] at lc lv
    obtain ⟨kc, hkc⟩ : ∃ kc, kc = (y.k ca).getD 0 := ⟨_, rfl⟩
    obtain ⟨kv, hkv⟩ : ∃ kv, kv = (y.k vi).getD 0 := ⟨_, rfl⟩
    rw [← hkc] at lc HG
    rw [← hkv] at lv HG
    have BE := better_f (HP.out.grown g4).fl kc kv
    rw [if_neg HW.out] at HG
    unfold ptr at BE
    clear hkc hkv
    by_cases hb : y.f.oft (mixB seed kv) mw < y.f.oft (mixB seed kc) mw
    · rw [if_pos hb] at HG
      rw [decide_eq_true hb] at BE
      clear hb
      refine region_flowN [(16, [])] 16 [(29, .pointer (some ⟨A, 0, none⟩)), (30, .pointer (some ⟨A, 0, none⟩)), (31, .pointer (some ⟨A, 0, none⟩)), (32, .pointer (some ⟨F, 0, none⟩)), (33, .pointer (some ⟨A, 0, none⟩)), (34, .pointer (some ⟨A, 0, none⟩)), (35, .pointer (some ⟨A, 2, none⟩)), (36, .map (some M)), (37, .int .i64 ca), (38, .int .i64 kc), (39, .pointer (some ⟨A, 0, none⟩)), (40, .pointer (some ⟨A, 0, none⟩)), (41, .pointer (some ⟨A, 2, none⟩)), (42, .map (some M)), (43, .int .i64 vi), (44, .int .i64 kv)] Cm.hmx (by kernel_rfl) (by decide) (by kernel_rfl) ?_
      simp only [fills, Act.put, List.setIfInBounds_toArray, List.set_cons_zero, List.set_cons_succ]
      refine flowN_only (16, []) [] (by kernel_rfl) (by rfl) ?r6 (stepN_call _ (some 45) 75 _ rfl rfl (by go_simp) (BE.mono ?_))
      case r6 =>
        clear BE HP CL HG
        intro i o ho hi hoff
        iterate 17 (rcases i with _ | i; · first | (exact absurd hi (by decide)) | (exact absurd hoff (by decide)) | (cases ho; exact exec_look _ _ 47 rfl rfl rfl lc) | (cases ho; exact exec_look _ _ 47 rfl rfl rfl lv) | (cases ho; go_simp))
        cases ho
      rintro e w5 ⟨rfl, g5⟩
      refine ⟨_, rfl, [], by kernel_rfl, ?_⟩
      simp only [fills, Act.put, List.setIfInBounds_toArray, List.set_cons_zero, List.set_cons_succ]
      refine flowN_done ?_
      clear BE HP CL lc lv c0 c1 c2
      go_wp2
      go_ret
      exact ⟨congrArg (fun z => Ending.returned (.int .i64 z)) HG.out.symm, grownTrans g4 g5⟩
    · rw [if_neg hb] at HG
      rw [decide_eq_false hb] at BE
      clear hb
      refine region_flowN [(16, [])] 16 [(29, .pointer (some ⟨A, 0, none⟩)), (30, .pointer (some ⟨A, 0, none⟩)), (31, .pointer (some ⟨A, 0, none⟩)), (32, .pointer (some ⟨F, 0, none⟩)), (33, .pointer (some ⟨A, 0, none⟩)), (34, .pointer (some ⟨A, 0, none⟩)), (35, .pointer (some ⟨A, 2, none⟩)), (36, .map (some M)), (37, .int .i64 ca), (38, .int .i64 kc), (39, .pointer (some ⟨A, 0, none⟩)), (40, .pointer (some ⟨A, 0, none⟩)), (41, .pointer (some ⟨A, 2, none⟩)), (42, .map (some M)), (43, .int .i64 vi), (44, .int .i64 kv)] Cm.hmx (by kernel_rfl) (by decide) (by kernel_rfl) ?_
      simp only [fills, Act.put, List.setIfInBounds_toArray, List.set_cons_zero, List.set_cons_succ]
      refine flowN_only (16, []) [] (by kernel_rfl) (by rfl) ?r6 (stepN_call _ (some 45) 75 _ rfl rfl (by go_simp) (BE.mono ?_))
      case r6 =>
        clear BE HP CL HG
        intro i o ho hi hoff
        iterate 17 (rcases i with _ | i; · first | (exact absurd hi (by decide)) | (exact absurd hoff (by decide)) | (cases ho; exact exec_look _ _ 47 rfl rfl rfl lc) | (cases ho; exact exec_look _ _ 47 rfl rfl rfl lv) | (cases ho; go_simp))
        cases ho
      rintro e w5 ⟨rfl, g5⟩
      refine ⟨_, rfl, [], by kernel_rfl, ?_⟩
      simp only [fills, Act.put, List.setIfInBounds_toArray, List.set_cons_zero, List.set_cons_succ]
      refine flowN_done ?_
      clear BE HP CL lc lv c0 c1 c2
      go_wp2
      go_ret
      exact ⟨congrArg (fun z => Ending.returned (.int .i64 z)) HG.out.symm, grownTrans g4 g5⟩
end Go.Proofs.Ytlmcopenbeammaa.Po
