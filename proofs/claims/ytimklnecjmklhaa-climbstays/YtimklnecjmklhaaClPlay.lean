/-
  What Play of package climb does when it is called: the climb and the quota told here, of any capacity, any period, and any slice of bools that was there; memory has at most new blocks. Condition: the numbers are of the Go type int.
-/
import Derived.Test.YtimklnecjmklhaaClTurn
import Derived.Test.YtimklnecjmklhaaGenFlow
import Derived.Test.YtimklnecjmklhaaQtMore
namespace Go.Proofs.Ytimklnecjmklhaa.Cm
open Go.RowKit Go.Deep

theorem results_row_row {P : Program} {fn : Func} {p q : Tmp} {ty uy : TypeId} (h : fn.results = #[.cell p ty, .cell q uy]) (tmps : Array Value) (w : World) (g i : Nat) (t u : TypeId) (cs ds : Array Value) (fr gr : Nat × Nat) (d e : TypeDesc)
    (hp : tmps.getD p undef = .pointer (some ⟨g, 0, none⟩)) (hg : w.heap[g]? = some (.cells cs t fr)) (hq : tmps.getD q undef = .pointer (some ⟨i, 0, none⟩)) (hi : w.heap[i]? = some (.cells ds u gr))
    (hu : P.underlying ty = some d) (hd : (match d with | .struct _ | .array _ _ => true | _ => false) = true) (hs : (P.info? ty).map (·.size) = some cs.size)
    (hv : P.underlying uy = some e) (he : (match e with | .struct _ | .array _ _ => true | _ => false) = true) (hr : (P.info? uy).map (·.size) = some ds.size) :
    (results fn tmps).run P w = .ok (.tuple #[.agg cs, .agg ds]) w := by
  have hp' : tmps[p]?.getD undef = .pointer (some ⟨g, 0, none⟩) := by simpa using hp
  have hq' : tmps[q]?.getD undef = .pointer (some ⟨i, 0, none⟩) := by simpa using hq
  simp [results, h, hp', hq', asAddr, run_loadVar_row w g t ty cs fr d hg hu hd hs, run_loadVar_row w i u uy ds gr e hi hv he hr]

theorem hmx : Try.prog.follows .mixedOrders = true := by kernel_rfl
/-- A climb and a window. -/
structure Cq where
  h : Int
  m : Int
  l : Int
  s : Int
  x : Int
/-- Behind one hit, or miss, more: a climb as it is counted. -/
def Cq.cnt (q : Cq) (b : Bool) : Cq := ⟨if b then cc (cc q.h + 1) else cc q.h, if b then cc q.m else cc (cc q.m + 1), cr q.l, cs q.s, q.x⟩
def Cq.trn (q : Cq) (c : Int) : Cq := ⟨0, 0, rt (cc q.h) (cc q.m), st (fa q.h q.m q.l q.s) (rt (cc q.h) (cc q.m) - cr q.l) c, ws (wh c) q.x (fa q.h q.m q.l q.s)⟩
def Cq.nx (q : Cq) (c p : Int) (b : Bool) : Cq := if 1 ≤ p ∧ p ≤ cc (q.cnt b).h + cc (q.cnt b).m then (q.cnt b).trn c else q.cnt b
/-- Behind the first of a row. -/
def pst (c p : Int) (z : Nat → Bool) : Nat → Cq
  | 0 => ⟨0, 0, 0, fs c, wo c⟩
  | k + 1 => (pst c p z k).nx c p (z k)

/-- A slice of bools that is there: it has none, or they lie in a block. -/
def Sb (w : World) (a : Option Addr) (len : Nat) (z : Nat → Bool) : Prop := len = 0 ∨ ∃ b off, a = some ⟨b, off, none⟩ ∧ b < w.heap.size ∧ ∀ i, i < len → w.cell? ⟨b, off + i, none⟩ = some (.bool (z i))
theorem Sb.grown {w w' : World} {a : Option Addr} {len : Nat} {z : Nat → Bool} (h : Sb w a len z) (g : Grown w w') : Sb w' a len z := by
  rcases h with h | ⟨b, off, e, hb, hc⟩
  · exact .inl h
  · exact .inr ⟨b, off, e, Nat.lt_of_lt_of_le hb g.2.2, fun i hi => keys_cell (hc i hi) hb g⟩
theorem _root_.Go.Proofs.Ytimklnecjmklhaa.Qb.free {w : World} {b : Nat} {c x p : Int} (h : Qb w b c x p) : w.frozen? ⟨b, 0, none⟩ = false ∧ w.frozen? ⟨b, 1, none⟩ = false ∧ w.frozen? ⟨b, 2, none⟩ = false := by
  unfold Qb at h
  simp [World.frozen?, h]
theorem _root_.Go.Proofs.Ytimklnecjmklhaa.Qb.other {w : World} {b : Nat} {c x p : Int} (k : Qb w b c x p) {a : Addr} (hne : b ≠ a.block) (v : Value) : Qb (w.setCell a v) b c x p := (blk_setCell_other _ _ _ _ hne).trans k
theorem _root_.Go.Proofs.Ytimklnecjmklhaa.Qb.off {w W : World} {b d n : Nat} {c x p : Int} (k : Qb w b c x p) (o : Off d n w W) (hne : b < d ∨ d + n ≤ b) : Qb W b c x p := (o.block b k.lt hne).trans k
theorem _root_.Go.Proofs.Ytimklnecjmklhaa.Qb.set3 {w : World} {b : Nat} {c x p : Int} (k : Qb w b c x p) (c' x' p' : Int) :
    Qb (((w.setCell ⟨b, 0, none⟩ (.int .i64 c')).setCell ⟨b, 1, none⟩ (.int .i64 x')).setCell ⟨b, 2, none⟩ (.int .i64 p')) b c' x' p' := blk_set (blk_set (blk_set k 0 _) 1 _) 2 _
/-- What Play keeps while it goes over its row: its climb and its quota in the blocks B and D, the results' in A and A + 1. -/
structure Pl (w wr : World) (B D : Nat) (c : Int) (q : Cq) : Prop where
  cb : Cb wr B q.h q.m q.l q.s
  qb : Qb wr D (wh c) q.x (pr (wh c) q.x)
  ra : Cb wr w.heap.size 0 0 0 0
  rq : Qb wr (w.heap.size + 1) 0 0 0
  g : Grown w wr
theorem Pl.grown {w wr W : World} {B D : Nat} {c : Int} {q : Cq} (h : Pl w wr B D c q) (g : Grown wr W) : Pl w W B D c q :=
  ⟨h.cb.grown g, (h.qb).grown g, h.ra.grown g, h.rq.grown g, grownTrans h.g g⟩
/-- Its climb is stored anew. -/
theorem Pl.climb {w wr W : World} {B D : Nat} {c : Int} {q : Cq} (k : Pl w wr B D c q) {h m l s : Int} (hb : w.heap.size + 2 ≤ B) (hd : B < D) (kb : Cb W B h m l s) (o : Off B 1 wr W) : Pl w W B D c ⟨h, m, l, s, q.x⟩ :=
  ⟨kb, k.qb.off o (by omega), k.ra.off o (by omega), k.rq.off o (by omega), o.grown k.g (by omega)⟩

/-- Its quota is stored anew. -/
theorem Pl.quota {w wr W : World} {B D : Nat} {c : Int} {q : Cq} (k : Pl w wr B D c q) {x : Int} (hb : w.heap.size + 2 ≤ B) (hd : B < D) (kb : Qb W D (wh c) x (pr (wh c) x)) (o : Off D 1 wr W) : Pl w W B D c ⟨q.h, q.m, q.l, q.s, x⟩ :=
  ⟨k.cb.off o (by omega), kb, k.ra.off o (by omega), k.rq.off o (by omega), o.grown k.g (by omega)⟩

set_option maxHeartbeats 4000000 in
theorem play_c (c p : Int) (a : Option Addr) (len cap : Nat) (z : Nat → Bool) (w : World) (hz : Sb w a len z) (hl : len ≤ 1000000) :
    Calls Try.prog 19 #[.int .i64 c, .int .i64 p, .slice a len cap] w fun e w' => e = .returned (.tuple #[cl (pst c p z len).h (pst c p z len).m (pst c p z len).l (pst c p z len).s, .agg #[.int .i64 (wh c), .int .i64 (pst c p z len).x, .int .i64 (pr (wh c) (pst c p z len).x)]]) ∧ Grown w w' := by
  have NC := fun w => new_c c w
  have OC := fun w => of_c c w
  have g0 := (((Grown.refl w).alloc #[.int .i64 0, .int .i64 0, .int .i64 0, .int .i64 0] 23).alloc #[.int .i64 0, .int .i64 0, .int .i64 0] 34)
  have q0 := heap2_old w (.cells #[.int .i64 0, .int .i64 0, .int .i64 0, .int .i64 0] 23) (.cells #[.int .i64 0, .int .i64 0, .int .i64 0] 34)
  have q1 := heap2_new w (.cells #[.int .i64 0, .int .i64 0, .int .i64 0, .int .i64 0] 23) (.cells #[.int .i64 0, .int .i64 0, .int .i64 0] 34)
  have hs0 : ((w.alloc (.cells #[.int .i64 0, .int .i64 0, .int .i64 0, .int .i64 0] 23)).alloc (.cells #[.int .i64 0, .int .i64 0, .int .i64 0] 34)).heap.size = w.heap.size + 2 := by simp
  go_enter Try.func19, Try.ntmps19
  go_wp2_with (first | (go_at_call 17; refine (NC _).mono ?_; rintro e w1 ⟨rfl, g1⟩) | (go_at_call 28; refine (OC _).mono ?_; rintro e w2 ⟨rfl, g2⟩))
  have g3 := grownTrans g1 g2
  have kb : Cb ((w2.alloc (.cells #[.int .i64 0, .int .i64 0, .int .i64 0, .int .i64 (fs c)] 23)).alloc (.cells #[.int .i64 (wh c), .int .i64 (wo c), .int .i64 (pr (wh c) (wo c))] 34)) w2.heap.size 0 0 0 (fs c) := heap2_old _ _ _
  have kq : Qb ((w2.alloc (.cells #[.int .i64 0, .int .i64 0, .int .i64 0, .int .i64 (fs c)] 23)).alloc (.cells #[.int .i64 (wh c), .int .i64 (wo c), .int .i64 (pr (wh c) (wo c))] 34)) (w2.heap.size + 1) (wh c) (wo c) (pr (wh c) (wo c)) := heap2_new _ _ _
  have g4 : Grown w2 ((w2.alloc (.cells #[.int .i64 0, .int .i64 0, .int .i64 0, .int .i64 (fs c)] 23)).alloc (.cells #[.int .i64 (wh c), .int .i64 (wo c), .int .i64 (pr (wh c) (wo c))] 34)) := ((Grown.refl _).alloc _ _).alloc _ _
  have hB : w.heap.size + 2 ≤ w2.heap.size := by have := g3.2.2; omega
  have K0 := (Pl.mk (q := pst c p z 0) kb kq ((grown_block (grownTrans g3 g4) (by omega)).trans q0) ((grown_block (grownTrans g3 g4) (by omega)).trans q1) (grownTrans g0 (grownTrans g3 g4)) : Pl w _ _ _ c _)
  obtain ⟨B, eB⟩ : ∃ B, B = w2.heap.size := ⟨_, rfl⟩
  simp only [← eB] at K0 hB ⊢
  obtain ⟨W0, eW⟩ : ∃ W, W = ((w2.alloc (.cells #[.int .i64 0, .int .i64 0, .int .i64 0, .int .i64 (fs c)] 23)).alloc (.cells #[.int .i64 (wh c), .int .i64 (wo c), .int .i64 (pr (wh c) (wo c))] 34)) := ⟨_, rfl⟩
  simp only [← eW] at K0 ⊢
  clear eB eW kb kq g4 g3 g2 g1 g0 q0 q1 hs0 NC OC
  go_loopw [20] (fun i wr => ∃ k : Nat, k ≤ len ∧ i = .int .i64 k ∧ Pl w wr B (B + 1) c (pst c p z k)) (fun i _ => len - (intOf i).toNat)
  case atStart => exact ⟨0, by omega, rfl, K0⟩
  case round =>
    clear K0
    obtain ⟨k, hk, rfl, K⟩ := hrel
    by_cases hlt : k < len
    · have hd : decide ((k : Int) < (len : Int)) = true := by rw [decide_eq_true_eq]; omega
      rcases hz with h0 | ⟨b, off, rfl, hb, hc⟩
      · omega
      have ck := keys_cell (hc k hlt) hb K.g
      obtain ⟨y, ey⟩ : ∃ y, y = z k := ⟨_, rfl⟩
      have HN : Hid (pst c p z (k + 1) = (pst c p z k).nx c p y) := by rw [ey]; rfl
      rw [← ey] at ck
      clear ey hc
      obtain ⟨q, eq⟩ : ∃ q, q = pst c p z k := ⟨_, rfl⟩
      rw [← eq] at K HN
      clear eq
      have CC : ∀ w, Calls Try.prog 11 #[cl q.h q.m q.l q.s, .bool y] w fun e w' => e = .returned (cl (q.cnt y).h (q.cnt y).m (q.cnt y).l (q.cnt y).s) ∧ Grown w w' := fun w => count_c q.h q.m q.l q.s y w
      have hx : (q.cnt y).x = q.x := rfl
      have hnx : q.nx c p y = if 1 ≤ p ∧ p ≤ cc (q.cnt y).h + cc (q.cnt y).m then (q.cnt y).trn c else q.cnt y := rfl
      obtain ⟨u, eu⟩ : ∃ u, u = q.cnt y := ⟨_, rfl⟩
      simp only [← eu] at CC hx hnx
      clear eu
      have DU := fun w => due_c u.h u.m u.l u.s p w
      have TU := fun w => turn_c u.h u.m u.l u.s c w
      by_cases hdue : 1 ≤ p ∧ p ≤ cc u.h + cc u.m
      · rw [if_pos hdue] at hnx
        rw [show decide (1 ≤ p ∧ p ≤ cc u.h + cc u.m) = true by simpa using hdue] at DU
        have SH := fun w => shift_c (wh c) q.x (pr (wh c) q.x) (fa u.h u.m u.l u.s) w
        rw [wh_wh] at SH
        have htr : u.trn c = ⟨0, 0, rt (cc u.h) (cc u.m), st (fa u.h u.m u.l u.s) (rt (cc u.h) (cc u.m) - cr u.l) c, ws (wh c) u.x (fa u.h u.m u.l u.s)⟩ := rfl
        rw [hx] at htr
        obtain ⟨F, eF⟩ : ∃ F, F = fa u.h u.m u.l u.s := ⟨_, rfl⟩
        obtain ⟨T, eT⟩ : ∃ T, T = st F (rt (cc u.h) (cc u.m) - cr u.l) c := ⟨_, rfl⟩
        obtain ⟨R, eR⟩ : ∃ R, R = rt (cc u.h) (cc u.m) := ⟨_, rfl⟩
        obtain ⟨X, eX⟩ : ∃ X, X = ws (wh c) q.x F := ⟨_, rfl⟩
        simp only [← eF] at SH TU htr
        simp only [← eT] at TU htr
        simp only [← eR, ← eX] at SH TU htr
        have HN2 : Hid (pst c p z (k + 1) = ⟨0, 0, R, T, X⟩) := HN.out.trans (hnx.trans htr)
        clear HN hnx htr eF eT eR eX hdue
        go_wp2_with (first | (refine wpList_load_cb rfl (.tmp 8) rfl B rfl K.cb ?_) | (go_at_call 11; with_reducible refine (CC _).mono ?_; rintro e w3 ⟨rfl, g3⟩; replace K := K.grown g3; clear g3) | (refine wpList_store_cb rfl rfl (.tmp 8) (.tmp 26) rfl B rfl rfl K.cb ?_; intro w4 k4 o4; replace K := K.climb hB (by omega) k4 o4; clear k4 o4) | (go_at_call 13; with_reducible refine (DU _).mono ?_; rintro e w5 ⟨rfl, g5⟩; replace K := K.grown g5; clear g5) | (go_at_call 9; with_reducible refine (TU _).mono ?_; rintro e w6 ⟨rfl, g6⟩; replace K := K.grown g6; clear g6))
        have k12 : Cb (w6.alloc (.cells #[.int .i64 0, .int .i64 0, .int .i64 R, .int .i64 T] 23)).drew w6.heap.size 0 0 R T := Cb.new _ _ _ _ _
        have hBw := K.qb.lt
        replace K := K.grown ((Grown.refl _).alloc #[.int .i64 0, .int .i64 0, .int .i64 R, .int .i64 T] 23).drew
        clear CC DU TU hd hb
        refine region_fill [3, 4, 5] [(36, cl 0 0 R T), (37, .agg #[.int .i64 (wh c), .int .i64 q.x, .int .i64 (pr (wh c) q.x)]), (38, .int .i64 F)] hmx (by kernel_rfl) (by kernel_rfl) ?_
        simp only [fills, Act.put, List.setIfInBounds_toArray, List.set_cons_zero, List.set_cons_succ]
        refine flow_call _ 29 _ rfl ?run (by go_simp) ((SH _).mono ?_)
        case run =>
          intro i o ho hi
          iterate 6 (rcases i with _ | i; · first | (exact absurd hi (by decide)) | (cases ho; exact exec_load_row 23 (.tmp 12) rfl w6.heap.size rfl 23 _ (0, 0) _ k12 Try.underlying23 rfl (infoC _ _ _ _)) | (cases ho; exact exec_load_row 34 (.tmp 9) rfl (B + 1) rfl 34 _ (0, 0) _ K.qb Try.underlying34 rfl (infoQ _ _ _)) | (cases ho; rfl))
          cases ho
        rintro e w7 ⟨rfl, g7⟩
        replace K := K.grown g7
        replace k12 := k12.grown g7
        refine ⟨_, rfl, ?_⟩
        simp only [Act.put, List.setIfInBounds_toArray]
        refine flow_row _ rfl ?run2 rfl 23 (.tmp 8) (.tmp 36) rfl B _ rfl rfl 23 _ K.cb (infoC _ _ _ _) rfl (by simp [Value.oneCell']) ?next2
        case run2 =>
          intro i o ho hi
          iterate 6 (rcases i with _ | i; · first | (exact absurd hi (by decide)) | (cases ho; exact exec_load_row 23 (.tmp 12) rfl w6.heap.size rfl 23 _ (0, 0) _ k12 Try.underlying23 rfl (infoC _ _ _ _)) | (cases ho; exact exec_load_row 34 (.tmp 9) rfl (B + 1) rfl 34 _ (0, 0) _ K.qb Try.underlying34 rfl (infoQ _ _ _)) | (cases ho; rfl))
          cases ho
        case next2 =>
          have o1 := off_setRow (cs := #[.int .i64 0, .int .i64 0, .int .i64 R, .int .i64 T]) K.cb
          have r1 : Cb _ B 0 0 R T := setRow_heap _ _ _ #[.int .i64 0, .int .i64 0, .int .i64 R, .int .i64 T] _ _ K.cb
          replace K := K.climb hB (by omega) r1 o1
          replace k12 := k12.off o1 (by omega)
          clear o1 r1
          refine flow_row _ rfl ?run3 rfl 34 (.tmp 9) (.tmp 39) rfl (B + 1) _ rfl rfl 34 _ K.qb (infoQ _ _ _) rfl (by simp [Value.oneCell']) ?next3
          case run3 =>
            intro i o ho hi
            iterate 6 (rcases i with _ | i; · first | (exact absurd hi (by decide)) | (cases ho; exact exec_load_row 23 (.tmp 12) rfl w6.heap.size rfl 23 _ (0, 0) _ k12 Try.underlying23 rfl (infoC _ _ _ _)) | (cases ho; exact exec_load_row 34 (.tmp 9) rfl (B + 1) rfl 34 _ (0, 0) _ K.qb Try.underlying34 rfl (infoQ _ _ _)) | (cases ho; rfl))
            cases ho
          case next3 =>
            have o2 := off_setRow (cs := #[.int .i64 (wh c), .int .i64 X, .int .i64 (pr (wh c) X)]) K.qb
            have r2 : Qb _ (B + 1) (wh c) X (pr (wh c) X) := setRow_heap _ _ _ #[.int .i64 (wh c), .int .i64 X, .int .i64 (pr (wh c) X)] _ _ K.qb
            replace K := K.quota hB (by omega) r2 o2
            show Exit.inBlock 1 (Exit.then _ _) Exit.normal _ _
            go_wp2
            go_roundw
            case rel => exact ⟨k + 1, by omega, by go_num, by rw [HN2.out]; exact K⟩
            case measure => simp [intOf]; omega
      · rw [if_neg hdue] at hnx
        rw [show decide (1 ≤ p ∧ p ≤ cc u.h + cc u.m) = false by simpa using hdue] at DU
        have HN2 : Hid (pst c p z (k + 1) = ⟨u.h, u.m, u.l, u.s, q.x⟩) := by rw [← hx]; exact HN.out.trans hnx
        clear HN hnx hdue TU
        go_wp2_with (first | (refine wpList_load_cb rfl (.tmp 8) rfl B rfl K.cb ?_) | (go_at_call 11; with_reducible refine (CC _).mono ?_; rintro e w3 ⟨rfl, g3⟩; replace K := K.grown g3; clear g3) | (refine wpList_store_cb rfl rfl (.tmp 8) (.tmp 26) rfl B rfl rfl K.cb ?_; intro w4 k4 o4; replace K := K.climb hB (by omega) k4 o4; clear k4 o4) | (go_at_call 13; with_reducible refine (DU _).mono ?_; rintro e w5 ⟨rfl, g5⟩; replace K := K.grown g5; clear g5))
        go_roundw
        case rel => exact ⟨k + 1, by omega, by go_num, by rw [HN2.out]; exact K⟩
        case measure => simp [intOf]; omega
    · obtain rfl : k = len := by omega
      have hd : decide ((k : Int) < (k : Int)) = false := by rw [decide_eq_false_iff_not]; omega
      obtain ⟨q, eq⟩ : ∃ q, q = pst c p z k := ⟨_, rfl⟩
      have HE : Hid (q = pst c p z k) := eq
      rw [← eq] at K
      clear eq
      replace K := K.grown (Grown.refl _).drew
      clear hz hd
      go_wp2
      refine region_fill [2, 3] [(41, cl q.h q.m q.l q.s), (42, .agg #[.int .i64 (wh c), .int .i64 q.x, .int .i64 (pr (wh c) q.x)])] hmx (by kernel_rfl) (by kernel_rfl) ?_
      simp only [fills, Act.put, List.setIfInBounds_toArray, List.set_cons_zero, List.set_cons_succ]
      refine flow_row _ rfl ?run rfl 23 (.tmp 6) (.tmp 41) rfl w.heap.size _ rfl rfl 23 _ K.ra (infoC _ _ _ _) rfl (by simp [Value.oneCell']) ?next
      case run =>
        intro i o ho hi
        iterate 4 (rcases i with _ | i; · first | (exact absurd hi (by decide)) | (cases ho; exact exec_load_row 23 (.tmp 8) rfl B rfl 23 _ (0, 0) _ K.cb Try.underlying23 rfl (infoC _ _ _ _)) | (cases ho; exact exec_load_row 34 (.tmp 9) rfl (B + 1) rfl 34 _ (0, 0) _ K.qb Try.underlying34 rfl (infoQ _ _ _)))
        cases ho
      case next =>
        have o1 := off_setRow (cs := #[.int .i64 q.h, .int .i64 q.m, .int .i64 q.l, .int .i64 q.s]) K.ra
        have r1 := setRow_heap _ _ _ #[.int .i64 q.h, .int .i64 q.m, .int .i64 q.l, .int .i64 q.s] _ _ K.ra
        have r2 := K.rq.off o1 (by omega)
        have kb := K.cb.off o1 (by omega)
        have kq := K.qb.off o1 (by omega)
        have o2 := off_setRow (cs := #[.int .i64 (wh c), .int .i64 q.x, .int .i64 (pr (wh c) q.x)]) r2
        have r3 := setRow_heap _ _ _ #[.int .i64 (wh c), .int .i64 q.x, .int .i64 (pr (wh c) q.x)] _ _ r2
        have r4 := (o2.block _ (by have := Cb.lt r1; omega) (by omega)).trans r1
        have gg := o2.grown (o1.grown K.g (by omega)) (by omega)
        refine flow_row _ rfl ?run2 rfl 34 (.tmp 7) (.tmp 42) rfl (w.heap.size + 1) _ rfl rfl 34 _ r2 (infoQ _ _ _) rfl (by simp [Value.oneCell']) ?next2
        case run2 =>
          intro i o ho hi
          iterate 4 (rcases i with _ | i; · first | (exact absurd hi (by decide)) | (cases ho; exact exec_load_row 23 (.tmp 8) rfl B rfl 23 _ (0, 0) _ kb Try.underlying23 rfl (infoC _ _ _ _)) | (cases ho; exact exec_load_row 34 (.tmp 9) rfl (B + 1) rfl 34 _ (0, 0) _ kq Try.underlying34 rfl (infoQ _ _ _)))
          cases ho
        case next2 =>
          show Exit.then _ _ Exit.normal _ _
          go_wp2
          exact bodyPost_ret (results_row_row Try.results19 _ _ w.heap.size (w.heap.size + 1) 23 34 _ _ (0, 0) (0, 0) _ _ rfl r4 rfl r3 Try.underlying23 rfl (infoC _ _ _ _) Try.underlying34 rfl (infoQ _ _ _)) rfl ⟨by rw [HE.out], gg⟩
end Go.Proofs.Ytimklnecjmklhaa.Cm
