/-
  What the document's own Play does when it is called: the climb and the quota that package climb's Play tells, of any capacity, any period, and any slice of bools that was there; memory has at most new blocks. Condition: the numbers are of the Go type int.
-/
import Derived.Test.YtimklnecjmklhaaClPlay
namespace Go.Proofs.Ytimklnecjmklhaa.Cm
open Go.RowKit Go.Deep

/-- A quota that is stored whole over another: whatever world comes of it. -/
theorem wpList_store_qb {ops : Array Oper} {rest : List Oper} {o : Oper} {a : Act} {w : World} {Q : Exit → Act → World → Prop} (hgd : o.guard = none) (hd : o.dst = none) (x y : Operand) (ho : o.op = .store 34 x y)
    (b : Nat) {c x0 p0 c' x' p' : Int} (hx : a.eval x = .pointer (some ⟨b, 0, none⟩)) (hy : a.eval y = .agg #[.int .i64 c', .int .i64 x', .int .i64 p']) (k : Qb w b c x0 p0)
    (hn : ∀ W, Qb W b c' x' p' → Off b 1 w W → wpList Try.prog ops Q rest a W) : wpList Try.prog ops Q (o :: rest) a w := by
  refine wpList_store_row hgd 34 x y ho b _ hx hy 34 _ k (infoQ _ _ _) rfl (by simp [Value.oneCell']) ?_
  rw [hd]
  exact hn _ (setRow_heap _ _ _ _ _ _ k) (off_setRow k)
/-- A quota that is loaded whole. -/
theorem wpList_load_qb {ops : Array Oper} {rest : List Oper} {o : Oper} {a : Act} {w : World} {Q : Exit → Act → World → Prop} (hgd : o.guard = none) (x : Operand) (ho : o.op = .load 34 x)
    (b : Nat) {c x0 p0 : Int} (hx : a.eval x = .pointer (some ⟨b, 0, none⟩)) (k : Qb w b c x0 p0)
    (hn : wpList Try.prog ops Q rest (a.put o.dst (.agg #[.int .i64 c, .int .i64 x0, .int .i64 p0])) w) : wpList Try.prog ops Q (o :: rest) a w :=
  wpList_load_row hgd 34 x ho b hx 34 _ (0, 0) _ k Try.underlying34 rfl (infoQ _ _ _) hn

set_option maxHeartbeats 4000000 in
theorem rplay_c (c p : Int) (a : Option Addr) (len cap : Nat) (z : Nat → Bool) (w : World) (hz : Sb w a len z) (hl : len ≤ 1000000) :
    Calls Try.prog 20 #[.int .i64 c, .int .i64 p, .slice a len cap] w fun e w' => e = .returned (.tuple #[cl (pst c p z len).h (pst c p z len).m (pst c p z len).l (pst c p z len).s, .agg #[.int .i64 (wh c), .int .i64 (pst c p z len).x, .int .i64 (pr (wh c) (pst c p z len).x)]]) ∧ Grown w w' := by
  have NC := fun w => rnew_c c w
  have OC := fun w => rof_c c w
  have g0 := (((Grown.refl w).alloc #[.int .i64 0, .int .i64 0, .int .i64 0, .int .i64 0] 23).alloc #[.int .i64 0, .int .i64 0, .int .i64 0] 34)
  have q0 := heap2_old w (.cells #[.int .i64 0, .int .i64 0, .int .i64 0, .int .i64 0] 23) (.cells #[.int .i64 0, .int .i64 0, .int .i64 0] 34)
  have q1 := heap2_new w (.cells #[.int .i64 0, .int .i64 0, .int .i64 0, .int .i64 0] 23) (.cells #[.int .i64 0, .int .i64 0, .int .i64 0] 34)
  have hs0 : ((w.alloc (.cells #[.int .i64 0, .int .i64 0, .int .i64 0, .int .i64 0] 23)).alloc (.cells #[.int .i64 0, .int .i64 0, .int .i64 0] 34)).heap.size = w.heap.size + 2 := by simp
  go_enter Try.func20, Try.ntmps20
  go_wp2_with (first | (go_at_call 18; refine (NC _).mono ?_; rintro e w1 ⟨rfl, g1⟩) | (go_at_call 30; refine (OC _).mono ?_; rintro e w2 ⟨rfl, g2⟩))
  have kb : Cb (w2.alloc (.cells #[.int .i64 (wh c), .int .i64 (wo c), .int .i64 (pr (wh c) (wo c))] 34)) w1.heap.size 0 0 0 (fs c) := ((Cb.new w1 0 0 0 (fs c)).grown g2).grown ((Grown.refl _).alloc _ _)
  have kq : Qb (w2.alloc (.cells #[.int .i64 (wh c), .int .i64 (wo c), .int .i64 (pr (wh c) (wo c))] 34)) w2.heap.size (wh c) (wo c) (pr (wh c) (wo c)) := Qb.new _ _ _ _
  have g3 : Grown w1 (w2.alloc (.cells #[.int .i64 (wh c), .int .i64 (wo c), .int .i64 (pr (wh c) (wo c))] 34)) := grownTrans ((Grown.refl _).alloc _ _) (g2.alloc _ _)
  have g4 := grownTrans g1 g3
  have hB : w.heap.size + 2 ≤ w1.heap.size := by have := g1.2.2; omega
  have hD : w1.heap.size < w2.heap.size := by have := g2.2.2; simp at this; omega
  have K0 := (Pl.mk (q := pst c p z 0) kb kq ((grown_block g4 (by omega)).trans q0) ((grown_block g4 (by omega)).trans q1) (grownTrans g0 g4) : Pl w _ _ _ c _)
  obtain ⟨B, eB⟩ : ∃ B, B = w1.heap.size := ⟨_, rfl⟩
  obtain ⟨D, eD⟩ : ∃ B, B = w2.heap.size := ⟨_, rfl⟩
  simp only [← eB, ← eD] at K0 hB hD ⊢
  obtain ⟨W0, eW⟩ : ∃ W, W = (w2.alloc (.cells #[.int .i64 (wh c), .int .i64 (wo c), .int .i64 (pr (wh c) (wo c))] 34)) := ⟨_, rfl⟩
  simp only [← eW] at K0 ⊢
  clear eB eD eW kb kq g4 g3 g2 g1 g0 q0 q1 hs0 NC OC
  go_loopw [10] (fun i wr => ∃ k : Nat, k ≤ len ∧ i = .int .i64 k ∧ Pl w wr B D c (pst c p z k)) (fun i _ => len - (intOf i).toNat)
  case atStart => exact ⟨0, by omega, rfl, K0⟩
  case round =>
    clear K0
    obtain ⟨k, hk, rfl, K⟩ := hrel
    by_cases hlt : k < len
    · have hd : decide ((k : Int) < (len : Int)) = true := by rw [decide_eq_true_eq]; omega
      rcases hz with h0 | ⟨b, off, rfl, hb, hc⟩
      · omega
      have ck := keys_cell (hc k hlt) hb K.g
      obtain ⟨y, ey⟩ : ∃ y, y = z k := ⟨_, rfl⟩
      have HN : Hid (pst c p z (k + 1) = (pst c p z k).nx c p y) := by rw [ey]; rfl
      rw [← ey] at ck
      clear ey hc
      obtain ⟨q, eq⟩ : ∃ q, q = pst c p z k := ⟨_, rfl⟩
      rw [← eq] at K HN
      clear eq
      have CC : ∀ w, Calls Try.prog 12 #[cl q.h q.m q.l q.s, .bool y] w fun e w' => e = .returned (cl (q.cnt y).h (q.cnt y).m (q.cnt y).l (q.cnt y).s) ∧ Grown w w' := fun w => rcount_c q.h q.m q.l q.s y w
      have hx : (q.cnt y).x = q.x := rfl
      have hnx : q.nx c p y = if 1 ≤ p ∧ p ≤ cc (q.cnt y).h + cc (q.cnt y).m then (q.cnt y).trn c else q.cnt y := rfl
      obtain ⟨u, eu⟩ : ∃ u, u = q.cnt y := ⟨_, rfl⟩
      simp only [← eu] at CC hx hnx
      clear eu
      have DU := fun w => rdue_c u.h u.m u.l u.s p w
      have TU := fun w => rturn_c u.h u.m u.l u.s c w
      by_cases hdue : 1 ≤ p ∧ p ≤ cc u.h + cc u.m
      · rw [if_pos hdue] at hnx
        rw [show decide (1 ≤ p ∧ p ≤ cc u.h + cc u.m) = true by simpa using hdue] at DU
        have SH := fun w => rshift_c (wh c) q.x (pr (wh c) q.x) (fa u.h u.m u.l u.s) w
        rw [wh_wh] at SH
        have htr : u.trn c = ⟨0, 0, rt (cc u.h) (cc u.m), st (fa u.h u.m u.l u.s) (rt (cc u.h) (cc u.m) - cr u.l) c, ws (wh c) u.x (fa u.h u.m u.l u.s)⟩ := rfl
        rw [hx] at htr
        obtain ⟨F, eF⟩ : ∃ F, F = fa u.h u.m u.l u.s := ⟨_, rfl⟩
        obtain ⟨T, eT⟩ : ∃ T, T = st F (rt (cc u.h) (cc u.m) - cr u.l) c := ⟨_, rfl⟩
        obtain ⟨R, eR⟩ : ∃ R, R = rt (cc u.h) (cc u.m) := ⟨_, rfl⟩
        obtain ⟨X, eX⟩ : ∃ X, X = ws (wh c) q.x F := ⟨_, rfl⟩
        simp only [← eF] at SH TU htr
        simp only [← eT] at TU htr
        simp only [← eR, ← eX] at SH TU htr
        have HN2 : Hid (pst c p z (k + 1) = ⟨0, 0, R, T, X⟩) := HN.out.trans (hnx.trans htr)
        clear HN hnx htr eF eT eR eX hdue
        have HB : Hid (b < w.heap.size) := hb
        go_wp2
        replace K := K.grown (Grown.refl _).drew
        have ck' : wr.drew.cell? ⟨b, off + k, none⟩ = some (.bool y) := ck
        clear ck hb hd
        refine region_fill [5, 6] [(23, cl q.h q.m q.l q.s), (24, .slice (some ⟨b, off, none⟩) len cap), (25, .int .i64 (k : Int)), (26, .pointer (some ⟨b, off + k, none⟩)), (27, .bool y)] hmx (by kernel_rfl) (by kernel_rfl) ?_
        simp only [fills, Act.put, List.setIfInBounds_toArray, List.set_cons_zero, List.set_cons_succ]
        refine flow_call _ 12 _ rfl ?run (by go_simp) ((CC _).mono ?_)
        case run =>
          intro i o ho hi
          iterate 7 (rcases i with _ | i; · first | (exact absurd hi (by decide)) | (cases ho; exact exec_load_row 23 (.tmp 8) rfl B rfl 23 _ (0, 0) _ K.cb Try.underlying23 rfl (infoC _ _ _ _)) | (cases ho; rfl) | (cases ho; go_simp))
          cases ho
        rintro e w3 ⟨rfl, g3⟩
        have CK := keys_cell ck' (Nat.lt_of_lt_of_le HB.out K.g.2.2) g3
        replace K := K.grown g3
        clear g3 ck'
        refine ⟨_, rfl, ?_⟩
        simp only [Act.put, List.setIfInBounds_toArray]
        refine flow_row _ rfl ?run2 rfl 23 (.tmp 8) (.tmp 28) rfl B _ rfl rfl 23 _ K.cb (infoC _ _ _ _) rfl (by simp [Value.oneCell']) ?next2
        case run2 =>
          intro i o ho hi
          iterate 7 (rcases i with _ | i; · first | (exact absurd hi (by decide)) | (cases ho; exact exec_load_row 23 (.tmp 8) rfl B rfl 23 _ (0, 0) _ K.cb Try.underlying23 rfl (infoC _ _ _ _)) | (cases ho; rfl) | (cases ho; go_simp))
          cases ho
        case next2 =>
          have o1 := off_setRow (cs := #[.int .i64 u.h, .int .i64 u.m, .int .i64 u.l, .int .i64 u.s]) K.cb
          have r1 : Cb _ B u.h u.m u.l u.s := setRow_heap _ _ _ #[.int .i64 u.h, .int .i64 u.m, .int .i64 u.l, .int .i64 u.s] _ _ K.cb
          replace K := K.climb hB (by omega) r1 o1
          clear CK
          obtain ⟨W1, eW1⟩ : ∃ W, W = w3.setRow B #[.int .i64 u.h, .int .i64 u.m, .int .i64 u.l, .int .i64 u.s] := ⟨_, rfl⟩
          rw [← eW1] at K ⊢
          clear eW1 o1 r1
          show Exit.then _ _ Exit.normal _ _
          go_wp2_with (first | (refine wpList_load_cb rfl (.tmp 8) rfl B rfl K.cb ?_) | (refine wpList_load_cb rfl (.tmp 11) rfl w6.heap.size rfl k12 ?_) | (refine wpList_load_qb rfl (.tmp 9) rfl D rfl K.qb ?_) | (go_at_call 14; with_reducible refine (DU _).mono ?_; rintro e w5 ⟨rfl, g5⟩; replace K := K.grown g5; clear g5) | (go_at_call 10; with_reducible refine (TU _).mono ?_; rintro e w6 ⟨rfl, g6⟩; replace K := K.grown g6; clear g6; have hD6 := K.qb.lt; have k12 := Cb.new w6 0 0 R T; replace K := K.grown ((Grown.refl _).alloc #[.int .i64 0, .int .i64 0, .int .i64 R, .int .i64 T] 23)) | (refine wpList_store_cb rfl rfl (.tmp 8) (.tmp 38) rfl B rfl rfl K.cb ?_; intro w7 k7 o7; replace K := K.climb hB (by omega) k7 o7; clear k7 o7 k12) | (go_at_call 31; with_reducible refine (SH _).mono ?_; rintro e w8 ⟨rfl, g8⟩; replace K := K.grown g8; clear g8) | (refine wpList_store_qb rfl rfl (.tmp 9) (.tmp 41) rfl D rfl rfl K.qb ?_; intro w9 k9 o9; replace K := K.quota hB (by omega) k9 o9; clear k9 o9))
          go_roundw
          case rel => exact ⟨k + 1, by omega, by go_num, by rw [HN2.out]; exact K⟩
          case measure => simp [intOf]; omega
      · rw [if_neg hdue] at hnx
        rw [show decide (1 ≤ p ∧ p ≤ cc u.h + cc u.m) = false by simpa using hdue] at DU
        have HN2 : Hid (pst c p z (k + 1) = ⟨u.h, u.m, u.l, u.s, q.x⟩) := by rw [← hx]; exact HN.out.trans hnx
        clear HN hnx hdue TU
        have HB : Hid (b < w.heap.size) := hb
        go_wp2
        replace K := K.grown (Grown.refl _).drew
        have ck' : wr.drew.cell? ⟨b, off + k, none⟩ = some (.bool y) := ck
        clear ck hb hd
        refine region_fill [5, 6] [(23, cl q.h q.m q.l q.s), (24, .slice (some ⟨b, off, none⟩) len cap), (25, .int .i64 (k : Int)), (26, .pointer (some ⟨b, off + k, none⟩)), (27, .bool y)] hmx (by kernel_rfl) (by kernel_rfl) ?_
        simp only [fills, Act.put, List.setIfInBounds_toArray, List.set_cons_zero, List.set_cons_succ]
        refine flow_call _ 12 _ rfl ?run (by go_simp) ((CC _).mono ?_)
        case run =>
          intro i o ho hi
          iterate 7 (rcases i with _ | i; · first | (exact absurd hi (by decide)) | (cases ho; exact exec_load_row 23 (.tmp 8) rfl B rfl 23 _ (0, 0) _ K.cb Try.underlying23 rfl (infoC _ _ _ _)) | (cases ho; rfl) | (cases ho; go_simp))
          cases ho
        rintro e w3 ⟨rfl, g3⟩
        have CK := keys_cell ck' (Nat.lt_of_lt_of_le HB.out K.g.2.2) g3
        replace K := K.grown g3
        clear g3 ck'
        refine ⟨_, rfl, ?_⟩
        simp only [Act.put, List.setIfInBounds_toArray]
        refine flow_row _ rfl ?run2 rfl 23 (.tmp 8) (.tmp 28) rfl B _ rfl rfl 23 _ K.cb (infoC _ _ _ _) rfl (by simp [Value.oneCell']) ?next2
        case run2 =>
          intro i o ho hi
          iterate 7 (rcases i with _ | i; · first | (exact absurd hi (by decide)) | (cases ho; exact exec_load_row 23 (.tmp 8) rfl B rfl 23 _ (0, 0) _ K.cb Try.underlying23 rfl (infoC _ _ _ _)) | (cases ho; rfl) | (cases ho; go_simp))
          cases ho
        case next2 =>
          have o1 := off_setRow (cs := #[.int .i64 u.h, .int .i64 u.m, .int .i64 u.l, .int .i64 u.s]) K.cb
          have r1 : Cb _ B u.h u.m u.l u.s := setRow_heap _ _ _ #[.int .i64 u.h, .int .i64 u.m, .int .i64 u.l, .int .i64 u.s] _ _ K.cb
          replace K := K.climb hB (by omega) r1 o1
          clear CK
          obtain ⟨W1, eW1⟩ : ∃ W, W = w3.setRow B #[.int .i64 u.h, .int .i64 u.m, .int .i64 u.l, .int .i64 u.s] := ⟨_, rfl⟩
          rw [← eW1] at K ⊢
          clear eW1 o1 r1
          show Exit.then _ _ Exit.normal _ _
          go_wp2_with (first | (refine wpList_load_cb rfl (.tmp 8) rfl B rfl K.cb ?_) | (go_at_call 14; with_reducible refine (DU _).mono ?_; rintro e w5 ⟨rfl, g5⟩; replace K := K.grown g5; clear g5))
          go_roundw
          case rel => exact ⟨k + 1, by omega, by go_num, by rw [HN2.out]; exact K⟩
          case measure => simp [intOf]; omega
    · obtain rfl : k = len := by omega
      have hd : decide ((k : Int) < (k : Int)) = false := by rw [decide_eq_false_iff_not]; omega
      obtain ⟨q, eq⟩ : ∃ q, q = pst c p z k := ⟨_, rfl⟩
      have HE : Hid (q = pst c p z k) := eq
      rw [← eq] at K
      clear eq
      replace K := K.grown (Grown.refl _).drew
      clear hz hd
      go_wp2
      refine region_fill [2, 3] [(42, cl q.h q.m q.l q.s), (43, .agg #[.int .i64 (wh c), .int .i64 q.x, .int .i64 (pr (wh c) q.x)])] hmx (by kernel_rfl) (by kernel_rfl) ?_
      simp only [fills, Act.put, List.setIfInBounds_toArray, List.set_cons_zero, List.set_cons_succ]
      refine flow_row _ rfl ?run rfl 23 (.tmp 6) (.tmp 42) rfl w.heap.size _ rfl rfl 23 _ K.ra (infoC _ _ _ _) rfl (by simp [Value.oneCell']) ?next
      case run =>
        intro i o ho hi
        iterate 4 (rcases i with _ | i; · first | (exact absurd hi (by decide)) | (cases ho; exact exec_load_row 23 (.tmp 8) rfl B rfl 23 _ (0, 0) _ K.cb Try.underlying23 rfl (infoC _ _ _ _)) | (cases ho; exact exec_load_row 34 (.tmp 9) rfl D rfl 34 _ (0, 0) _ K.qb Try.underlying34 rfl (infoQ _ _ _)))
        cases ho
      case next =>
        have o1 := off_setRow (cs := #[.int .i64 q.h, .int .i64 q.m, .int .i64 q.l, .int .i64 q.s]) K.ra
        have r1 := setRow_heap _ _ _ #[.int .i64 q.h, .int .i64 q.m, .int .i64 q.l, .int .i64 q.s] _ _ K.ra
        have r2 := K.rq.off o1 (by omega)
        have kb := K.cb.off o1 (by omega)
        have kq := K.qb.off o1 (by omega)
        have o2 := off_setRow (cs := #[.int .i64 (wh c), .int .i64 q.x, .int .i64 (pr (wh c) q.x)]) r2
        have r3 := setRow_heap _ _ _ #[.int .i64 (wh c), .int .i64 q.x, .int .i64 (pr (wh c) q.x)] _ _ r2
        have r4 := (o2.block _ (by have := Cb.lt r1; omega) (by omega)).trans r1
        have gg := o2.grown (o1.grown K.g (by omega)) (by omega)
        refine flow_row _ rfl ?run2 rfl 34 (.tmp 7) (.tmp 43) rfl (w.heap.size + 1) _ rfl rfl 34 _ r2 (infoQ _ _ _) rfl (by simp [Value.oneCell']) ?next2
        case run2 =>
          intro i o ho hi
          iterate 4 (rcases i with _ | i; · first | (exact absurd hi (by decide)) | (cases ho; exact exec_load_row 23 (.tmp 8) rfl B rfl 23 _ (0, 0) _ kb Try.underlying23 rfl (infoC _ _ _ _)) | (cases ho; exact exec_load_row 34 (.tmp 9) rfl D rfl 34 _ (0, 0) _ kq Try.underlying34 rfl (infoQ _ _ _)))
          cases ho
        case next2 =>
          show Exit.then _ _ Exit.normal _ _
          go_wp2
          exact bodyPost_ret (results_row_row Try.results20 _ _ w.heap.size (w.heap.size + 1) 23 34 _ _ (0, 0) (0, 0) _ _ rfl r4 rfl r3 Try.underlying23 rfl (infoC _ _ _ _) Try.underlying34 rfl (infoQ _ _ _)) rfl ⟨by rw [HE.out], gg⟩
end Go.Proofs.Ytimklnecjmklhaa.Cm
