/-
  Proved: pantrylaw15.TablePlays returns true for every seed and every slice of steps: a table, call by call, answers as the document's own, and holds what that holds (P15.1 to P15.4). No condition.
-/
import Derived.Test.YthjcdloaclailaaRows
import Derived.WalkKit
import Derived.ProofKit
import Derived.OpenShut
import Derived.Test.YthjcdloaclailaaTbSmall
import Derived.Test.YthjcdloaclailaaRtPlay
import Derived.BigQuiet
import Derived.Deep.CutRange
import Derived.Deep.CutBlock
import Derived.ShutString
import Derived.ChangeOld
import Derived.Below
import Derived.Test.YthjcdloaclailaaGenArgs
namespace Go.Proofs.Ythjcdloaclailaa.tablePlays
open Go.ChangeShapes Go.WideShapes Go.ChangeAt Go.RowKit
set_option linter.unusedVariables false

theorem own : ownKnob Try.prog.godebug = none := by kernel_rfl
theorem laidOut : laidOutB Try.prog = true := by kernel_rfl

/-! ### The walk: the law returns true, and writes nothing that was there -/
open Go.Proofs.Ythjcdloaclailaa.Us Go.Proofs.Ythjcdloaclailaa.Tb in set_option maxRecDepth 40000 in set_option maxHeartbeats 32000000 in
theorem walk (a0 : Int) (a1 : Option Addr) (len1 cap1 : Nat) (z1 : Nat → Nat → Int) (w : World) (w0 : (Lit.int .i64 a0).wf = true) (w1 : IsGrid .i64 3 w a1 len1 cap1 z1) :
    Calls Try.prog 3 #[.int .i64 a0, .slice a1 len1 cap1] w fun e w' => e = .returned (.bool true) ∧ Grown w w' := by
  have hk1 := grid_open (by decide) w1
  clear w0 w1
  have nw := fun (w1 : World) (g : Grown w w1) => new_s a0 (Apt.none g)
  have nv := fun (t : Tab) (w1 : World) (h : Apt w w1 [obT t]) => rnew_s a0 h
  by_cases hl : 200 < len1
  · clear hk1
    have d1 : decide (200 < (len1 : Int)) = true := by rw [decide_eq_true_eq]; omega
    go_enter Try.func3, Try.ntmps3
    go_wp2_with (first | (go_at_call 9; refine (Tb.small_s _).mono ?_; rintro e ws ⟨rfl, hgs⟩) | (go_at_call 10; refine (nw _ hgs).mono ?_; rintro e wx ⟨t, rfl, hx, t1, t2, t3, t4, t5⟩; clear nw hgs; have ht : Hid (t.s = a0 ∧ t.n = 8 ∧ t.l = 0 ∧ t.D = [] ∧ t.c = fun _ => []) := ⟨t1, t2, t3, t4, t5⟩; clear t1 t2 t3 t4 t5; have hx : Hid (Apt w wx [obT t]) := hx; obtain ⟨X, hX⟩ : ∃ X, Hid (t.X = X) := ⟨_, rfl⟩; rw [hX.out]; unfold ptr) | (go_at_call 11; refine (nv t _ hx.out).mono ?_; rintro e wy ⟨u, rfl, hy, u1, u2⟩; clear nv hx; have hy : Hid (Apt w wy [obT t, obR u]) := hy; obtain ⟨Y, hY⟩ : ∃ Y, Hid (u.X = Y) := ⟨_, rfl⟩; have pr : Hid (Pair t u X Y 0) := both_new X Y hX.out hY.out (by rw [ht.out.1, u1]) ht.out.2.1 ht.out.2.2.1 ht.out.2.2.2.1 ht.out.2.2.2.2 (by rw [u1]) u2; rw [hY.out]; clear u1 u2 ht hX hY))
    go_ret
    exact ⟨rfl, hy.out.grown⟩
  · have d1 : decide (200 < (len1 : Int)) = false := by rw [decide_eq_false_iff_not]; omega
    have hlen : len1 ≤ 200 := by omega
    have hkk : ∀ k, k < len1 → ∃ kb off, a1 = some ⟨kb, off, none⟩ ∧ ∀ W, Grown w W → kb < W.heap.size ∧ W.cell? ⟨kb, off + k * 3, none⟩ = some (.int .i64 (z1 k 0)) ∧ W.cell? ⟨kb, off + k * 3 + 1, none⟩ = some (.int .i64 (z1 k 1)) ∧ W.cell? ⟨kb, off + k * 3 + 2, none⟩ = some (.int .i64 (z1 k 2)) := fun k hlt => by
      rcases hk1 with h | ⟨kb, off, h1, h2, h3⟩
      · omega
      · exact ⟨kb, off, h1, fun W g => ⟨Nat.lt_of_lt_of_le h2 g.2.2, keys_cell (h3 k hlt 0 (by decide)) h2 g, by have := keys_cell (h3 k hlt 1 (by decide)) h2 g; rwa [← Nat.add_assoc] at this, by have := keys_cell (h3 k hlt 2 (by decide)) h2 g; rwa [← Nat.add_assoc] at this⟩⟩
    clear hk1 hl
    go_enter Try.func3, Try.ntmps3
    go_wp2_with (first | (go_at_call 9; refine (Tb.small_s _).mono ?_; rintro e ws ⟨rfl, hgs⟩) | (go_at_call 10; refine (nw _ hgs).mono ?_; rintro e wx ⟨t, rfl, hx, t1, t2, t3, t4, t5⟩; clear nw hgs; have ht : Hid (t.s = a0 ∧ t.n = 8 ∧ t.l = 0 ∧ t.D = [] ∧ t.c = fun _ => []) := ⟨t1, t2, t3, t4, t5⟩; clear t1 t2 t3 t4 t5; have hx : Hid (Apt w wx [obT t]) := hx; obtain ⟨X, hX⟩ : ∃ X, Hid (t.X = X) := ⟨_, rfl⟩; rw [hX.out]; unfold ptr) | (go_at_call 11; refine (nv t _ hx.out).mono ?_; rintro e wy ⟨u, rfl, hy, u1, u2⟩; clear nv hx; have hy : Hid (Apt w wy [obT t, obR u]) := hy; obtain ⟨Y, hY⟩ : ∃ Y, Hid (u.X = Y) := ⟨_, rfl⟩; have pr : Hid (Pair t u X Y 0) := both_new X Y hX.out hY.out (by rw [ht.out.1, u1]) ht.out.2.1 ht.out.2.2.1 ht.out.2.2.2.1 ht.out.2.2.2.2 (by rw [u1]) u2; rw [hY.out]; clear u1 u2 ht hX hY))
    go_loopw [8, 9, 10, 11, 12, 13, 14, 15, 16, 17, 18, 19, 20, 21, 22] (fun i _ _ _ _ _ _ _ _ _ _ _ _ _ _ wr => ∃ (k : Nat) (t : Tab) (u : Rt), k ≤ len1 ∧ i = .int .i64 (k : Int) ∧ Hid (Pair t u X Y k) ∧ Hid (Apt w wr [obT t, obR u])) (fun i _ _ _ _ _ _ _ _ _ _ _ _ _ _ _ => len1 - (intOf i).toNat)
    case atStart => exact ⟨0, t, u, by omega, rfl, pr, hy⟩
    case round =>
      clear hy pr
      obtain ⟨k, t, u, hk, rfl, pr, hx⟩ := hrel
      by_cases hlt : k < len1
      · have hd : decide ((k : Int) < (len1 : Int)) = true := by rw [decide_eq_true_eq]; omega
        obtain ⟨kb, off, rfl, gk⟩ := hkk k hlt
        obtain ⟨z, hz⟩ : ∃ z, z = z1 k 0 := ⟨_, rfl⟩
        obtain ⟨y, hy⟩ : ∃ y, y = z1 k 1 := ⟨_, rfl⟩
        obtain ⟨x, hxx⟩ : ∃ x, x = z1 k 2 := ⟨_, rfl⟩
        rw [← hz, ← hy, ← hxx] at gk
        have gk : Hid (∀ W, Grown w W → kb < W.heap.size ∧ W.cell? ⟨kb, off + k * 3, none⟩ = some (.int .i64 z) ∧ W.cell? ⟨kb, off + k * 3 + 1, none⟩ = some (.int .i64 y) ∧ W.cell? ⟨kb, off + k * 3 + 2, none⟩ = some (.int .i64 x)) := gk
        clear hz hy hxx hkk
        have kn : (k : Int) < (len1 : Int) := by omega
        have hk6 : k + 1 ≤ 1000000 := by omega
        go_wp2
        refine region_fill [13, 14] [(49, .slice (some ⟨kb, off, none⟩) len1 cap1), (50, .int .i64 (k : Int)), (51, .pointer (some ⟨kb, off + k * 3, none⟩)), (52, .pointer (some ⟨kb, off + k * 3 + 1, none⟩)), (53, .int .i64 y), (54, .slice (some ⟨kb, off, none⟩) len1 cap1), (55, .int .i64 (k : Int)), (56, .pointer (some ⟨kb, off + k * 3, none⟩)), (57, .pointer (some ⟨kb, off + k * 3 + 2, none⟩)), (58, .int .i64 x), (59, .int .i64 (k : Int)), (60, .int .i64 (k : Int)), (61, .agg #[.int .i64 y, .int .i64 x, .int .i64 (k : Int), .int .i64 (k : Int)])] hmx (by kernel_rfl) (by kernel_rfl) ?_
        simp only [fills, Act.put, List.setIfInBounds_toArray, List.set_cons_zero, List.set_cons_succ]
        have h1 : Hid (Apt w wr.drew [obT t, obR u]) := hx.out.drew
        clear hx
        generalize wr.drew = W1 at h1 ⊢
        obtain ⟨lk, ck0, ck1, ck2⟩ := gk.out _ h1.out.grown
        refine flow_val (some 9) (.pointer (some ⟨W1.heap.size, 0, none⟩)) (W1.alloc (.cells #[.int .i64 0, .int .i64 0, .int .i64 0, .int .i64 0] 30)) _ rfl rfl ?run (by go_simp) ?_
        case run =>
          intro i o ho hi
          iterate 15 (rcases i with _ | i; · first | (exact absurd hi (by decide)) | (cases ho; go_simp; done))
          cases ho
        simp only [Act.put, List.setIfInBounds_toArray, List.set_cons_zero, List.set_cons_succ]
        refine flow_row _ rfl ?run rfl 30 (.tmp 9) (.tmp 61) rfl W1.heap.size #[.int .i64 y, .int .i64 x, .int .i64 (k : Int), .int .i64 (k : Int)] rfl rfl 30 #[.int .i64 0, .int .i64 0, .int .i64 0, .int .i64 0] (Go.Deep.blk_alloc_new W1 _) sizeEn rfl (by simp [Value.oneCell']) ?_
        case run =>
          intro i o ho hi
          iterate 15 (rcases i with _ | i; · first | (exact absurd hi (by decide)) | (cases ho; go_simp; done))
          cases ho
        rw [setRow_alloc1]
        have h2 : Hid (Apt w (W1.alloc (.cells #[.int .i64 y, .int .i64 x, .int .i64 (k : Int), .int .i64 (k : Int)] 30)) [obT t, obR u, obBlk W1.heap.size 30 #[.int .i64 y, .int .i64 x, .int .i64 (k : Int), .int .i64 (k : Int)]]) := en_block h1.out _ _
        clear h1 lk ck0 ck1 ck2
        generalize W1.heap.size = eb at h2 ⊢
        generalize W1.alloc (.cells #[.int .i64 y, .int .i64 x, .int .i64 (k : Int), .int .i64 (k : Int)] 30) = W2 at h2 ⊢
        first | show Exit.then _ _ Exit.normal _ _ | show Exit.inBlock _ _ Exit.normal _ _ | simp only [Flow]
        obtain ⟨lk, ck0, ck1, ck2⟩ := gk.out _ h2.out.grown
        go_upto_block 2 with fail
        go_cut [10, 11, 12, 13, 14, 15, 16, 17, 18] from 43 to 188 (fun sv _ _ _ _ _ _ _ _ wc => sv = .bool true ∧ ∃ (t : Tab) (u : Rt), Hid (Pair t u X Y (k + 1)) ∧ Hid (Apt w wc [obT t, obR u]))
        case first =>
          rcases and3 z with hc | hc | hc | hc
          · have hz : Hid (bits .and .i64 z 3 = 0) := hc
            have g0 : (bits .and .i64 z 3 == 0) = true := by rw [hz.out]; rfl
            have g1 : (bits .and .i64 z 3 == 1) = false := by rw [hz.out]; rfl
            have g2 : (bits .and .i64 z 3 == 2) = false := by rw [hz.out]; rfl
            clear hc
            obtain ⟨r, b, P1⟩ := both_put (j := 1) h2.out (i := 0) rfl pr.out hk6 (⟨y, x, k, k⟩ : En)
            change Hid (Calls Try.prog 12 #[.pointer (some ⟨X, 0, none⟩), .agg #[.int .i64 y, .int .i64 x, .int .i64 (k : Int), .int .i64 (k : Int)]] W2 _) at P1
            have hE2 : W2.heap[eb]? = some (.cells #[.int .i64 y, .int .i64 x, .int .i64 (k : Int), .int .i64 (k : Int)] 30 (0, 0)) := h2.out.all 2 _ rfl
            have lE2 := lt_of hE2
            have he := eqEn
            have hg := guardEn
            go_wp2_with (first
              | (refine wpList_load_en rfl (.tmp 9) rfl eb rfl hE2 ?_)
              | (go_at_call 12; refine P1.out.mono ?_; clear P1 hE2 lE2; rintro e w3 ⟨t3, rfl, h3, P2⟩; have h4 : Hid (Apt w (w3.alloc (.cells #[.int .i64 r.k, .int .i64 r.a, .int .i64 r.x, .int .i64 r.n] 30)) ([obT t3, obR u, obBlk eb 30 #[.int .i64 y, .int .i64 x, .int .i64 (k : Int), .int .i64 (k : Int)], obBlk w3.heap.size 30 #[.int .i64 r.k, .int .i64 r.a, .int .i64 r.x, .int .i64 r.n]])) := en_block h3.out _ _; clear h3; have hE4 : (w3.alloc (.cells #[.int .i64 r.k, .int .i64 r.a, .int .i64 r.x, .int .i64 r.n] 30)).heap[eb]? = some (.cells #[.int .i64 y, .int .i64 x, .int .i64 (k : Int), .int .i64 (k : Int)] 30 (0, 0)) := h4.out.all 2 _ rfl; have lE4 := lt_of hE4)
              | (refine wpList_load_en rfl (.tmp 9) rfl eb rfl hE4 ?_)
              | (go_at_call 13; refine (P2.out _ _ h4.out rfl).mono ?_; clear P2 hE4 lE4; generalize w3.heap.size = b3 at h4 ⊢; generalize w3.alloc (.cells #[.int .i64 r.k, .int .i64 r.a, .int .i64 r.x, .int .i64 r.n] 30) = W4 at h4 ⊢; rintro e w5 ⟨u5, rfl, h5, pr5⟩; have h6 : Hid (Apt w (w5.alloc (.cells #[.int .i64 r.k, .int .i64 r.a, .int .i64 r.x, .int .i64 r.n] 30)) ([obT t3, obR u5, obBlk eb 30 #[.int .i64 y, .int .i64 x, .int .i64 (k : Int), .int .i64 (k : Int)], obBlk b3 30 #[.int .i64 r.k, .int .i64 r.a, .int .i64 r.x, .int .i64 r.n], obBlk w5.heap.size 30 #[.int .i64 r.k, .int .i64 r.a, .int .i64 r.x, .int .i64 r.n]])) := en_block h5.out _ _; clear h5 h4; have hA : (w5.alloc (.cells #[.int .i64 r.k, .int .i64 r.a, .int .i64 r.x, .int .i64 r.n] 30)).heap[b3]? = some (.cells #[.int .i64 r.k, .int .i64 r.a, .int .i64 r.x, .int .i64 r.n] 30 (0, 0)) := h6.out.all 3 _ rfl; have hB : (w5.alloc (.cells #[.int .i64 r.k, .int .i64 r.a, .int .i64 r.x, .int .i64 r.n] 30)).heap[w5.heap.size]? = some (.cells #[.int .i64 r.k, .int .i64 r.a, .int .i64 r.x, .int .i64 r.n] 30 (0, 0)) := h6.out.all 4 _ rfl; have lA := lt_of hA; have lB := lt_of hB)
              | (refine wpList_load_en rfl (.tmp 11) rfl b3 rfl hA ?_)
              | (refine wpList_load_en rfl (.tmp 13) rfl w5.heap.size rfl hB ?_))
            go_meet
            exact ⟨rfl, t3, u5, pr5, h6.out.heads (m := [obBlk eb 30 #[.int .i64 y, .int .i64 x, .int .i64 (k : Int), .int .i64 (k : Int)], obBlk b3 30 #[.int .i64 r.k, .int .i64 r.a, .int .i64 r.x, .int .i64 r.n], obBlk w5.heap.size 30 #[.int .i64 r.k, .int .i64 r.a, .int .i64 r.x, .int .i64 r.n]]) (l := [obT t3, obR u5])⟩
          · have hz : Hid (bits .and .i64 z 3 = 1) := hc
            have g0 : (bits .and .i64 z 3 == 0) = false := by rw [hz.out]; rfl
            have g1 : (bits .and .i64 z 3 == 1) = true := by rw [hz.out]; rfl
            have g2 : (bits .and .i64 z 3 == 2) = false := by rw [hz.out]; rfl
            clear hc
            obtain ⟨r, b, P1⟩ := both_put (j := 1) h2.out (i := 0) rfl pr.out hk6 (⟨y, x, k, k⟩ : En)
            change Hid (Calls Try.prog 12 #[.pointer (some ⟨X, 0, none⟩), .agg #[.int .i64 y, .int .i64 x, .int .i64 (k : Int), .int .i64 (k : Int)]] W2 _) at P1
            have hE2 : W2.heap[eb]? = some (.cells #[.int .i64 y, .int .i64 x, .int .i64 (k : Int), .int .i64 (k : Int)] 30 (0, 0)) := h2.out.all 2 _ rfl
            have lE2 := lt_of hE2
            have he := eqEn
            have hg := guardEn
            go_wp2_with (first
              | (refine wpList_load_en rfl (.tmp 9) rfl eb rfl hE2 ?_)
              | (go_at_call 12; refine P1.out.mono ?_; clear P1 hE2 lE2; rintro e w3 ⟨t3, rfl, h3, P2⟩; have h4 : Hid (Apt w (w3.alloc (.cells #[.int .i64 r.k, .int .i64 r.a, .int .i64 r.x, .int .i64 r.n] 30)) ([obT t3, obR u, obBlk eb 30 #[.int .i64 y, .int .i64 x, .int .i64 (k : Int), .int .i64 (k : Int)], obBlk w3.heap.size 30 #[.int .i64 r.k, .int .i64 r.a, .int .i64 r.x, .int .i64 r.n]])) := en_block h3.out _ _; clear h3; have hE4 : (w3.alloc (.cells #[.int .i64 r.k, .int .i64 r.a, .int .i64 r.x, .int .i64 r.n] 30)).heap[eb]? = some (.cells #[.int .i64 y, .int .i64 x, .int .i64 (k : Int), .int .i64 (k : Int)] 30 (0, 0)) := h4.out.all 2 _ rfl; have lE4 := lt_of hE4)
              | (refine wpList_load_en rfl (.tmp 9) rfl eb rfl hE4 ?_)
              | (go_at_call 13; refine (P2.out _ _ h4.out rfl).mono ?_; clear P2 hE4 lE4; generalize w3.heap.size = b3 at h4 ⊢; generalize w3.alloc (.cells #[.int .i64 r.k, .int .i64 r.a, .int .i64 r.x, .int .i64 r.n] 30) = W4 at h4 ⊢; rintro e w5 ⟨u5, rfl, h5, pr5⟩; have h6 : Hid (Apt w (w5.alloc (.cells #[.int .i64 r.k, .int .i64 r.a, .int .i64 r.x, .int .i64 r.n] 30)) ([obT t3, obR u5, obBlk eb 30 #[.int .i64 y, .int .i64 x, .int .i64 (k : Int), .int .i64 (k : Int)], obBlk b3 30 #[.int .i64 r.k, .int .i64 r.a, .int .i64 r.x, .int .i64 r.n], obBlk w5.heap.size 30 #[.int .i64 r.k, .int .i64 r.a, .int .i64 r.x, .int .i64 r.n]])) := en_block h5.out _ _; clear h5 h4; have hA : (w5.alloc (.cells #[.int .i64 r.k, .int .i64 r.a, .int .i64 r.x, .int .i64 r.n] 30)).heap[b3]? = some (.cells #[.int .i64 r.k, .int .i64 r.a, .int .i64 r.x, .int .i64 r.n] 30 (0, 0)) := h6.out.all 3 _ rfl; have hB : (w5.alloc (.cells #[.int .i64 r.k, .int .i64 r.a, .int .i64 r.x, .int .i64 r.n] 30)).heap[w5.heap.size]? = some (.cells #[.int .i64 r.k, .int .i64 r.a, .int .i64 r.x, .int .i64 r.n] 30 (0, 0)) := h6.out.all 4 _ rfl; have lA := lt_of hA; have lB := lt_of hB)
              | (refine wpList_load_en rfl (.tmp 11) rfl b3 rfl hA ?_)
              | (refine wpList_load_en rfl (.tmp 13) rfl w5.heap.size rfl hB ?_))
            go_meet
            exact ⟨rfl, t3, u5, pr5, h6.out.heads (m := [obBlk eb 30 #[.int .i64 y, .int .i64 x, .int .i64 (k : Int), .int .i64 (k : Int)], obBlk b3 30 #[.int .i64 r.k, .int .i64 r.a, .int .i64 r.x, .int .i64 r.n], obBlk w5.heap.size 30 #[.int .i64 r.k, .int .i64 r.a, .int .i64 r.x, .int .i64 r.n]]) (l := [obT t3, obR u5])⟩
          · have hz : Hid (bits .and .i64 z 3 = 2) := hc
            have g0 : (bits .and .i64 z 3 == 0) = false := by rw [hz.out]; rfl
            have g1 : (bits .and .i64 z 3 == 1) = false := by rw [hz.out]; rfl
            have g2 : (bits .and .i64 z 3 == 2) = true := by rw [hz.out]; rfl
            clear hc
            obtain ⟨r, b, P1⟩ := both_rem (j := 1) h2.out (i := 0) rfl pr.out (by omega) y
            have he := eqEn
            have hg := guardEn
            go_wp2_with (first
              | (go_at_call 14; refine P1.out.mono ?_; clear P1 lk ck0 ck1 ck2; rintro e w3 ⟨t3, rfl, h3, P2⟩; have h4 : Hid (Apt w (w3.alloc (.cells #[.int .i64 r.k, .int .i64 r.a, .int .i64 r.x, .int .i64 r.n] 30)) ([obT t3, obR u, obBlk eb 30 #[.int .i64 y, .int .i64 x, .int .i64 (k : Int), .int .i64 (k : Int)], obBlk w3.heap.size 30 #[.int .i64 r.k, .int .i64 r.a, .int .i64 r.x, .int .i64 r.n]])) := en_block h3.out _ _; clear h3; obtain ⟨lk, ck0, ck1, ck2⟩ := gk.out _ h4.out.grown)
              | (go_at_call 15; refine (P2.out _ _ h4.out rfl).mono ?_; clear P2 lk ck0 ck1 ck2; generalize w3.heap.size = b3 at h4 ⊢; generalize w3.alloc (.cells #[.int .i64 r.k, .int .i64 r.a, .int .i64 r.x, .int .i64 r.n] 30) = W4 at h4 ⊢; rintro e w5 ⟨u5, rfl, h5, pr5⟩; have h6 : Hid (Apt w (w5.alloc (.cells #[.int .i64 r.k, .int .i64 r.a, .int .i64 r.x, .int .i64 r.n] 30)) ([obT t3, obR u5, obBlk eb 30 #[.int .i64 y, .int .i64 x, .int .i64 (k : Int), .int .i64 (k : Int)], obBlk b3 30 #[.int .i64 r.k, .int .i64 r.a, .int .i64 r.x, .int .i64 r.n], obBlk w5.heap.size 30 #[.int .i64 r.k, .int .i64 r.a, .int .i64 r.x, .int .i64 r.n]])) := en_block h5.out _ _; clear h5 h4; have hA : (w5.alloc (.cells #[.int .i64 r.k, .int .i64 r.a, .int .i64 r.x, .int .i64 r.n] 30)).heap[b3]? = some (.cells #[.int .i64 r.k, .int .i64 r.a, .int .i64 r.x, .int .i64 r.n] 30 (0, 0)) := h6.out.all 3 _ rfl; have hB : (w5.alloc (.cells #[.int .i64 r.k, .int .i64 r.a, .int .i64 r.x, .int .i64 r.n] 30)).heap[w5.heap.size]? = some (.cells #[.int .i64 r.k, .int .i64 r.a, .int .i64 r.x, .int .i64 r.n] 30 (0, 0)) := h6.out.all 4 _ rfl; have lA := lt_of hA; have lB := lt_of hB)
              | (refine wpList_load_en rfl (.tmp 15) rfl b3 rfl hA ?_)
              | (refine wpList_load_en rfl (.tmp 17) rfl w5.heap.size rfl hB ?_))
            go_meet
            exact ⟨rfl, t3, u5, pr5.out.more (Nat.le_succ k), h6.out.heads (m := [obBlk eb 30 #[.int .i64 y, .int .i64 x, .int .i64 (k : Int), .int .i64 (k : Int)], obBlk b3 30 #[.int .i64 r.k, .int .i64 r.a, .int .i64 r.x, .int .i64 r.n], obBlk w5.heap.size 30 #[.int .i64 r.k, .int .i64 r.a, .int .i64 r.x, .int .i64 r.n]]) (l := [obT t3, obR u5])⟩
          · have hz : Hid (bits .and .i64 z 3 = 3) := hc
            have g0 : (bits .and .i64 z 3 == 0) = false := by rw [hz.out]; rfl
            have g1 : (bits .and .i64 z 3 == 1) = false := by rw [hz.out]; rfl
            have g2 : (bits .and .i64 z 3 == 2) = false := by rw [hz.out]; rfl
            clear hc
            go_wp2
            go_meet
            exact ⟨rfl, t, u, pr.out.more (Nat.le_succ k), h2.out.heads (m := [obBlk eb 30 #[.int .i64 y, .int .i64 x, .int .i64 (k : Int), .int .i64 (k : Int)]]) (l := [obT t, obR u])⟩
        case rest =>
          clear h2 pr
          obtain ⟨rfl, t, u, pr, hx⟩ := hcut
          obtain ⟨lk, ck0, ck1, ck2⟩ := gk.out _ hx.out.grown
          obtain ⟨r, b, G1, G2⟩ := both_get (j := 1) hx.out (i := 0) rfl pr.out hk6 x
          go_wp2_with (first
            | (go_at_call 16; refine (G1.out _ _ hx.out rfl).mono ?_; clear G1 lk ck0 ck1 ck2; rintro e w3 ⟨rfl, h3⟩; clear hx; have h4 : Hid (Apt w (w3.alloc (.cells #[.int .i64 r.k, .int .i64 r.a, .int .i64 r.x, .int .i64 r.n] 30)) ([obT t, obR u, obBlk w3.heap.size 30 #[.int .i64 r.k, .int .i64 r.a, .int .i64 r.x, .int .i64 r.n]])) := en_block h3.out _ _; clear h3; obtain ⟨lk, ck0, ck1, ck2⟩ := gk.out _ h4.out.grown)
            | (go_at_call 17; refine (G2.out _ _ h4.out rfl).mono ?_; clear G2 lk ck0 ck1 ck2; generalize w3.heap.size = E1 at h4 ⊢; generalize w3.alloc (.cells #[.int .i64 r.k, .int .i64 r.a, .int .i64 r.x, .int .i64 r.n] 30) = W4 at h4 ⊢; rintro e w5 ⟨rfl, h5⟩; clear h4; have h6 : Hid (Apt w (w5.alloc (.cells #[.int .i64 r.k, .int .i64 r.a, .int .i64 r.x, .int .i64 r.n] 30)) ([obT t, obR u, obBlk E1 30 #[.int .i64 r.k, .int .i64 r.a, .int .i64 r.x, .int .i64 r.n], obBlk w5.heap.size 30 #[.int .i64 r.k, .int .i64 r.a, .int .i64 r.x, .int .i64 r.n]])) := en_block h5.out _ _; clear h5))
          have h7 := h6
          clear h6
          generalize w5.heap.size = E2 at h7 ⊢
          generalize w5.alloc (.cells #[.int .i64 r.k, .int .i64 r.a, .int .i64 r.x, .int .i64 r.n] 30) = W7 at h7 ⊢
          have hpX := pr.out.X
          have hpY := pr.out.Y
          have hD6 : t.D.length ≤ 1000000 := Nat.le_trans pr.out.D hk6
          obtain ⟨e1, e2, e3⟩ := both_len h7.out (i := 0) rfl pr.out
          obtain ⟨m, hm⟩ : ∃ m, Hid (t.D.length = m) := ⟨_, rfl⟩
          obtain ⟨n, hn⟩ : ∃ n, Hid (t.n = n) := ⟨_, rfl⟩
          obtain ⟨s, hs⟩ : ∃ s, Hid (t.l = s) := ⟨_, rfl⟩
          obtain ⟨P, hP⟩ : ∃ P, Hid (u.P = P) := ⟨_, rfl⟩
          obtain ⟨kk, hkk2⟩ : ∃ kk, Hid (k % 32 = kk) := ⟨_, rfl⟩
          have hb31 : bits .and .i64 (k : Int) 31 = (kk : Int) := by rw [and31, hkk2.out]
          obtain ⟨ks, hks⟩ : ∃ ks, Hid (t.kAt (kk : Int) = ks) := ⟨_, rfl⟩
          have hks2 : Hid (u.A.kAt (kk : Int) = ks) := (kAt_eq pr.out.ag kk).symm.trans hks.out
          obtain ⟨N, hNk⟩ : ∃ N, Hid (ks.length = N) := ⟨_, rfl⟩
          have hkk6 : kk ≤ 1000000 := by rw [← hkk2.out]; have := Nat.mod_lt k (show 0 < 32 by omega); omega
          have hN6 : N ≤ 1000000 := by
            rw [← hNk.out, ← hks2.out]
            unfold Rp.kAt
            split
            · rw [List.length_map]; exact Nat.le_trans (pr.out.bd _) hk6
            · exact Nat.zero_le _
          have lenX : Hid (∀ W L, Apt w W L → L[0]? = some (obT t) → Calls Try.prog 18 #[.pointer (some ⟨X, 0, none⟩)] W fun e w' => e = .returned (.int .i64 (m : Int)) ∧ w' = W) := fun W L h hi => by
            have := len_s h hi
            rw [hm.out] at this
            unfold ptr at this
            rw [hpX] at this
            exact this
          have bucX : Hid (∀ W L, Apt w W L → L[0]? = some (obT t) → Calls Try.prog 20 #[.pointer (some ⟨X, 0, none⟩)] W fun e w' => e = .returned (.int .i64 (n : Int)) ∧ w' = W) := fun W L h hi => by
            have := buckets_s h hi
            rw [hn.out] at this
            unfold ptr at this
            rw [hpX] at this
            exact this
          have lefX : Hid (∀ W L, Apt w W L → L[0]? = some (obT t) → Calls Try.prog 21 #[.pointer (some ⟨X, 0, none⟩)] W fun e w' => e = .returned (.int .i64 (s : Int)) ∧ w' = W) := fun W L h hi => by
            have := left_s h hi
            rw [hs.out] at this
            unfold ptr at this
            rw [hpX] at this
            exact this
          have lenY : Hid (∀ W L, Apt w W L → L[1]? = some (obR u) → Calls Try.prog 19 #[.pointer (some ⟨Y, 0, none⟩)] W fun e w' => e = .returned (.int .i64 (m : Int)) ∧ Hid (Apt w w' L)) := fun W L h hi => by
            have := rlen_s h hi hpY pr.out.h (by rw [e1]; exact hD6)
            rw [e1, hm.out] at this
            exact this
          have lefY : Hid (∀ W L, Apt w W L → L[1]? = some (obR u) → Calls Try.prog 22 #[.pointer (some ⟨Y, 0, none⟩)] W fun e w' => e = .returned (.int .i64 (s : Int)) ∧ Hid (Apt w w' L)) := fun W L h hi => by
            have := left_r (h.all 1 _ hi)
            rw [e3, hs.out, hpY] at this
            refine this.mono ?_
            rintro e w' ⟨rfl, d, rfl⟩
            exact ⟨rfl, h.drewN d⟩
          have chaX : Hid (∀ W L, Apt w W L → L[0]? = some (obT t) → Calls Try.prog 24 #[.pointer (some ⟨X, 0, none⟩), .int .i64 (kk : Int)] W fun e w' => ∃ p c, e = .returned (.slice p N c) ∧ Hid (Apt w w' (L ++ [obV p c ks]))) := fun W L h hi => by
            have := chain_s h hi hD6 (kk : Int)
            rw [hks.out, hNk.out] at this
            unfold ptr at this
            rw [hpX] at this
            exact this
          have chaY : Hid (∀ W L, Apt w W L → L[1]? = some (obR u) → Calls Try.prog 25 #[.pointer (some ⟨Y, 0, none⟩), .int .i64 (kk : Int)] W fun e w' => ∃ p c, e = .returned (.slice p N c) ∧ Hid (Apt w w' (L ++ [obV p c ks]))) := fun W L h hi => by
            have := rchain_s h hi hpY pr.out.h (fun p => Nat.le_trans (pr.out.bd p) hk6) kk hkk6
            rw [hks2.out, hNk.out] at this
            exact this
          have cells : Hid (∀ W, RM W u → W.cell? ⟨Y, 0, none⟩ = some (.slice (some ⟨P, 0, none⟩) n n) ∧ Y < W.heap.size) := fun W h => by
            obtain ⟨a, _⟩ := h.cells
            have b := lt_of h.head
            rw [hpY] at a b
            rw [e2, hn.out, hP.out] at a
            exact ⟨a, b⟩
          clear hpX hpY hD6 e1 e2 e3 hm hn hs hP hkk2 hks hks2 hkk6
          have he := eqEn
          have hg := guardEn
          have hbb : (b != b) = false := by cases b <;> rfl
          have h8 : Hid (Apt w W7.drew [obT t, obR u, obBlk E1 30 #[.int .i64 r.k, .int .i64 r.a, .int .i64 r.x, .int .i64 r.n], obBlk E2 30 #[.int .i64 r.k, .int .i64 r.a, .int .i64 r.x, .int .i64 r.n]]) := h7.out.drew
          clear h7 lk ck0 ck1 ck2
          --R23
          refine region_flowG [(14, []), (16, [17, 18, 19, 20, 22, 23, 24, 25, 26]), (21, [27, 28, 29, 30, 32]), (31, []), (33, [34, 35, 36, 37, 38, 39, 41, 42, 43]), (40, []), (44, []), (45, [46]), (47, [])] 47 [(141, .bool true), (142, .bool false), (143, .bool false), (144, .agg #[.int .i64 r.k, .int .i64 r.a, .int .i64 r.x, .int .i64 r.n]), (145, .agg #[.int .i64 r.k, .int .i64 r.a, .int .i64 r.x, .int .i64 r.n]), (146, .bool false), (147, .bool false), (148, .bool false), (149, .bool b), (150, .bool b), (151, .bool false), (152, .bool false), (153, .bool false), (154, .pointer (some ⟨X, 0, none⟩)), (156, .pointer (some ⟨Y, 0, none⟩))] hmx (by kernel_rfl) (by decide) (by kernel_rfl) ?_
          simp only [fills, Act.put, List.setIfInBounds_toArray, List.set_cons_zero, List.set_cons_succ]
          generalize W7.drew = W8 at h8 ⊢
          obtain ⟨k0, k1, k2, k3, lE1⟩ := row_cells (h8.out.all 2 _ rfl)
          obtain ⟨j0, j1, j2, j3, lE2⟩ := row_cells (h8.out.all 3 _ rfl)
          obtain ⟨cP, lY⟩ := cells.out _ (h8.out.all 1 _ rfl)
          have c14 := lenX.out _ _ h8.out rfl
          refine flowG_only (14, []) [(16, [17, 18, 19, 20, 22, 23, 24, 25, 26]), (21, [27, 28, 29, 30, 32]), (31, []), (33, [34, 35, 36, 37, 38, 39, 41, 42, 43]), (40, []), (44, []), (45, [46]), (47, [])] (by kernel_rfl) rfl ?run (stepG_call _ (some 155) 18 #[.pointer (some ⟨X, 0, none⟩)] rfl rfl (wanted_ev rfl rfl rfl rfl) (by go_simp) ((c14).mono ?_))
          case run =>
            clear c14
            refine runsG_hide [(6, .pointer (some ⟨X, 0, none⟩)), (7, .pointer (some ⟨Y, 0, none⟩)), (8, .int .i64 (k : Int)), (10, .bool true), (19, .pointer (some ⟨E1, 0, none⟩)), (20, .bool b), (21, .pointer (some ⟨E2, 0, none⟩)), (22, .bool b), (141, .bool true), (142, .bool false), (143, .bool false), (144, .agg #[.int .i64 r.k, .int .i64 r.a, .int .i64 r.x, .int .i64 r.n]), (145, .agg #[.int .i64 r.k, .int .i64 r.a, .int .i64 r.x, .int .i64 r.n]), (146, .bool false), (147, .bool false), (148, .bool false), (149, .bool b), (150, .bool b), (151, .bool false), (152, .bool false), (153, .bool false), (154, .pointer (some ⟨X, 0, none⟩)), (156, .pointer (some ⟨Y, 0, none⟩))] ⟨rfl, rfl, rfl, rfl, rfl, rfl, rfl, rfl, rfl, rfl, rfl, rfl, rfl, rfl, rfl, rfl, rfl, rfl, rfl, rfl, rfl, rfl, rfl, trivial⟩ ?_
            rintro A ⟨e6, e7, e8, e10, e19, e20, e21, e22, e141, e142, e143, e144, e145, e146, e147, e148, e149, e150, e151, e152, e153, e154, e156, _⟩
            intro i o ho h1 h2
            rcases i with _ | i
            · cases ho; exact Or.inl ⟨wanted_none rfl, by go_simp⟩
            rcases i with _ | i
            · cases ho; exact Or.inl ⟨wanted_none rfl, by go_simp⟩
            rcases i with _ | i
            · cases ho; exact Or.inl ⟨wanted_none rfl, by go_simp⟩
            rcases i with _ | i
            · cases ho; exact Or.inl ⟨wanted_ev rfl rfl rfl (by assumption), by go_simp⟩
            rcases i with _ | i
            · cases ho; exact Or.inl ⟨wanted_ev rfl rfl rfl (by assumption), by go_simp⟩
            rcases i with _ | i
            · cases ho; exact Or.inl ⟨wanted_ev rfl rfl rfl (by assumption), by go_simp⟩
            rcases i with _ | i
            · cases ho; exact Or.inl ⟨wanted_none rfl, by go_simp⟩
            rcases i with _ | i
            · cases ho; exact Or.inl ⟨wanted_none rfl, by go_simp⟩
            rcases i with _ | i
            · cases ho; exact Or.inl ⟨wanted_ev rfl rfl rfl (by assumption), by go_simp⟩
            rcases i with _ | i
            · cases ho; exact Or.inl ⟨wanted_ev rfl rfl rfl (by assumption), by go_simp⟩
            rcases i with _ | i
            · cases ho; exact Or.inl ⟨wanted_ev rfl rfl rfl (by assumption), by go_simp⟩
            rcases i with _ | i
            · cases ho; exact Or.inl ⟨wanted_none rfl, by go_simp⟩
            rcases i with _ | i
            · cases ho; exact Or.inl ⟨wanted_none rfl, by go_simp⟩
            rcases i with _ | i
            · cases ho; exact Or.inl ⟨wanted_ev rfl rfl rfl (by assumption), by go_simp⟩
            rcases i with _ | i
            · exact absurd h1 (by decide)
            rcases i with _ | i
            · cases ho; exact Or.inl ⟨wanted_ev rfl rfl rfl (by assumption), by go_simp⟩
            rcases i with _ | i
            · exact absurd h1 (by decide)
            rcases i with _ | i
            · exact absurd h2 (by decide)
            rcases i with _ | i
            · exact absurd h2 (by decide)
            rcases i with _ | i
            · exact absurd h2 (by decide)
            rcases i with _ | i
            · exact absurd h2 (by decide)
            rcases i with _ | i
            · exact absurd h1 (by decide)
            rcases i with _ | i
            · exact absurd h2 (by decide)
            rcases i with _ | i
            · exact absurd h2 (by decide)
            rcases i with _ | i
            · exact absurd h2 (by decide)
            rcases i with _ | i
            · exact absurd h2 (by decide)
            rcases i with _ | i
            · exact absurd h2 (by decide)
            rcases i with _ | i
            · exact absurd h2 (by decide)
            rcases i with _ | i
            · exact absurd h2 (by decide)
            rcases i with _ | i
            · exact absurd h2 (by decide)
            rcases i with _ | i
            · exact absurd h2 (by decide)
            rcases i with _ | i
            · exact absurd h1 (by decide)
            rcases i with _ | i
            · exact absurd h2 (by decide)
            rcases i with _ | i
            · exact absurd h1 (by decide)
            rcases i with _ | i
            · exact absurd h2 (by decide)
            rcases i with _ | i
            · exact absurd h2 (by decide)
            rcases i with _ | i
            · exact absurd h2 (by decide)
            rcases i with _ | i
            · exact absurd h2 (by decide)
            rcases i with _ | i
            · exact absurd h2 (by decide)
            rcases i with _ | i
            · exact absurd h2 (by decide)
            rcases i with _ | i
            · exact absurd h1 (by decide)
            rcases i with _ | i
            · exact absurd h2 (by decide)
            rcases i with _ | i
            · exact absurd h2 (by decide)
            rcases i with _ | i
            · exact absurd h2 (by decide)
            rcases i with _ | i
            · exact absurd h1 (by decide)
            rcases i with _ | i
            · exact absurd h1 (by decide)
            rcases i with _ | i
            · exact absurd h2 (by decide)
            rcases i with _ | i
            · exact absurd h1 (by decide)
            cases ho
          rintro e w14 ⟨rfl, hw⟩
          refine ⟨_, rfl, [], by kernel_rfl, ?_⟩
          simp only [fills, Act.put, List.setIfInBounds_toArray, List.set_cons_zero, List.set_cons_succ]
          replace hw := hw.symm
          subst hw
          clear c14
          have c16 := lenY.out _ _ h8.out rfl
          refine flowG_only (16, [17, 18, 19, 20, 22, 23, 24, 25, 26]) [(21, [27, 28, 29, 30, 32]), (31, []), (33, [34, 35, 36, 37, 38, 39, 41, 42, 43]), (40, []), (44, []), (45, [46]), (47, [])] (by kernel_rfl) rfl ?run (stepG_call _ (some 157) 19 #[.pointer (some ⟨Y, 0, none⟩)] rfl rfl (wanted_ev rfl rfl rfl rfl) (by go_simp) ((c16).mono ?_))
          case run =>
            clear c16
            refine runsG_hide [(6, .pointer (some ⟨X, 0, none⟩)), (7, .pointer (some ⟨Y, 0, none⟩)), (8, .int .i64 (k : Int)), (10, .bool true), (19, .pointer (some ⟨E1, 0, none⟩)), (20, .bool b), (21, .pointer (some ⟨E2, 0, none⟩)), (22, .bool b), (141, .bool true), (142, .bool false), (143, .bool false), (144, .agg #[.int .i64 r.k, .int .i64 r.a, .int .i64 r.x, .int .i64 r.n]), (145, .agg #[.int .i64 r.k, .int .i64 r.a, .int .i64 r.x, .int .i64 r.n]), (146, .bool false), (147, .bool false), (148, .bool false), (149, .bool b), (150, .bool b), (151, .bool false), (152, .bool false), (153, .bool false), (154, .pointer (some ⟨X, 0, none⟩)), (156, .pointer (some ⟨Y, 0, none⟩)), (155, .int .i64 (m : Int))] ⟨rfl, rfl, rfl, rfl, rfl, rfl, rfl, rfl, rfl, rfl, rfl, rfl, rfl, rfl, rfl, rfl, rfl, rfl, rfl, rfl, rfl, rfl, rfl, rfl, trivial⟩ ?_
            rintro A ⟨e6, e7, e8, e10, e19, e20, e21, e22, e141, e142, e143, e144, e145, e146, e147, e148, e149, e150, e151, e152, e153, e154, e156, e155, _⟩
            intro i o ho h1 h2
            rcases i with _ | i
            · cases ho; exact Or.inl ⟨wanted_none rfl, by go_simp⟩
            rcases i with _ | i
            · cases ho; exact Or.inl ⟨wanted_none rfl, by go_simp⟩
            rcases i with _ | i
            · cases ho; exact Or.inl ⟨wanted_none rfl, by go_simp⟩
            rcases i with _ | i
            · cases ho; exact Or.inl ⟨wanted_ev rfl rfl rfl (by assumption), by go_simp⟩
            rcases i with _ | i
            · cases ho; exact Or.inl ⟨wanted_ev rfl rfl rfl (by assumption), by go_simp⟩
            rcases i with _ | i
            · cases ho; exact Or.inl ⟨wanted_ev rfl rfl rfl (by assumption), by go_simp⟩
            rcases i with _ | i
            · cases ho; exact Or.inl ⟨wanted_none rfl, by go_simp⟩
            rcases i with _ | i
            · cases ho; exact Or.inl ⟨wanted_none rfl, by go_simp⟩
            rcases i with _ | i
            · cases ho; exact Or.inl ⟨wanted_ev rfl rfl rfl (by assumption), by go_simp⟩
            rcases i with _ | i
            · cases ho; exact Or.inl ⟨wanted_ev rfl rfl rfl (by assumption), by go_simp⟩
            rcases i with _ | i
            · cases ho; exact Or.inl ⟨wanted_ev rfl rfl rfl (by assumption), by go_simp⟩
            rcases i with _ | i
            · cases ho; exact Or.inl ⟨wanted_none rfl, by go_simp⟩
            rcases i with _ | i
            · cases ho; exact Or.inl ⟨wanted_none rfl, by go_simp⟩
            rcases i with _ | i
            · cases ho; exact Or.inl ⟨wanted_ev rfl rfl rfl (by assumption), by go_simp⟩
            rcases i with _ | i
            · exact absurd h1 (by decide)
            rcases i with _ | i
            · cases ho; exact Or.inl ⟨wanted_ev rfl rfl rfl (by assumption), by go_simp⟩
            rcases i with _ | i
            · exact absurd h1 (by decide)
            rcases i with _ | i
            · exact absurd h2 (by decide)
            rcases i with _ | i
            · exact absurd h2 (by decide)
            rcases i with _ | i
            · exact absurd h2 (by decide)
            rcases i with _ | i
            · exact absurd h2 (by decide)
            rcases i with _ | i
            · exact absurd h1 (by decide)
            rcases i with _ | i
            · exact absurd h2 (by decide)
            rcases i with _ | i
            · exact absurd h2 (by decide)
            rcases i with _ | i
            · exact absurd h2 (by decide)
            rcases i with _ | i
            · exact absurd h2 (by decide)
            rcases i with _ | i
            · exact absurd h2 (by decide)
            rcases i with _ | i
            · exact absurd h2 (by decide)
            rcases i with _ | i
            · exact absurd h2 (by decide)
            rcases i with _ | i
            · exact absurd h2 (by decide)
            rcases i with _ | i
            · exact absurd h2 (by decide)
            rcases i with _ | i
            · exact absurd h1 (by decide)
            rcases i with _ | i
            · exact absurd h2 (by decide)
            rcases i with _ | i
            · exact absurd h1 (by decide)
            rcases i with _ | i
            · exact absurd h2 (by decide)
            rcases i with _ | i
            · exact absurd h2 (by decide)
            rcases i with _ | i
            · exact absurd h2 (by decide)
            rcases i with _ | i
            · exact absurd h2 (by decide)
            rcases i with _ | i
            · exact absurd h2 (by decide)
            rcases i with _ | i
            · exact absurd h2 (by decide)
            rcases i with _ | i
            · exact absurd h1 (by decide)
            rcases i with _ | i
            · exact absurd h2 (by decide)
            rcases i with _ | i
            · exact absurd h2 (by decide)
            rcases i with _ | i
            · exact absurd h2 (by decide)
            rcases i with _ | i
            · exact absurd h1 (by decide)
            rcases i with _ | i
            · exact absurd h1 (by decide)
            rcases i with _ | i
            · exact absurd h2 (by decide)
            rcases i with _ | i
            · exact absurd h1 (by decide)
            cases ho
          rintro e w16 ⟨rfl, h9⟩
          refine ⟨_, rfl, [(158, .bool false), (159, .bool false), (160, .bool false), (161, .pointer (some ⟨X, 0, none⟩)), (163, .pointer (some ⟨Y, 0, none⟩)), (164, .pointer (some ⟨Y, 0, none⟩)), (165, .pointer (some ⟨Y, 0, none⟩)), (166, .slice (some ⟨P, 0, none⟩) n n), (167, .int .i64 (n : Int))], by kernel_rfl, ?_⟩
          simp only [fills, Act.put, List.setIfInBounds_toArray, List.set_cons_zero, List.set_cons_succ]
          clear c16 h8 k0 k1 k2 k3 j0 j1 j2 j3 lE1 lE2 cP lY
          have h9 : Hid (Apt w _ [obT t, obR u, obBlk E1 30 #[.int .i64 r.k, .int .i64 r.a, .int .i64 r.x, .int .i64 r.n], obBlk E2 30 #[.int .i64 r.k, .int .i64 r.a, .int .i64 r.x, .int .i64 r.n]]) := h9
          obtain ⟨k0, k1, k2, k3, lE1⟩ := row_cells (h9.out.all 2 _ rfl)
          obtain ⟨j0, j1, j2, j3, lE2⟩ := row_cells (h9.out.all 3 _ rfl)
          obtain ⟨cP, lY⟩ := cells.out _ (h9.out.all 1 _ rfl)
          have c21 := bucX.out _ _ h9.out rfl
          refine flowG_only (21, [27, 28, 29, 30, 32]) [(31, []), (33, [34, 35, 36, 37, 38, 39, 41, 42, 43]), (40, []), (44, []), (45, [46]), (47, [])] (by kernel_rfl) rfl ?run (stepG_call _ (some 162) 20 #[.pointer (some ⟨X, 0, none⟩)] rfl rfl (wanted_ev rfl rfl rfl rfl) (by go_simp) ((c21).mono ?_))
          case run =>
            clear c21
            refine runsG_hide [(6, .pointer (some ⟨X, 0, none⟩)), (7, .pointer (some ⟨Y, 0, none⟩)), (8, .int .i64 (k : Int)), (10, .bool true), (19, .pointer (some ⟨E1, 0, none⟩)), (20, .bool b), (21, .pointer (some ⟨E2, 0, none⟩)), (22, .bool b), (141, .bool true), (142, .bool false), (143, .bool false), (144, .agg #[.int .i64 r.k, .int .i64 r.a, .int .i64 r.x, .int .i64 r.n]), (145, .agg #[.int .i64 r.k, .int .i64 r.a, .int .i64 r.x, .int .i64 r.n]), (146, .bool false), (147, .bool false), (148, .bool false), (149, .bool b), (150, .bool b), (151, .bool false), (152, .bool false), (153, .bool false), (154, .pointer (some ⟨X, 0, none⟩)), (156, .pointer (some ⟨Y, 0, none⟩)), (155, .int .i64 (m : Int)), (157, .int .i64 (m : Int)), (158, .bool false), (159, .bool false), (160, .bool false), (161, .pointer (some ⟨X, 0, none⟩)), (163, .pointer (some ⟨Y, 0, none⟩)), (164, .pointer (some ⟨Y, 0, none⟩)), (165, .pointer (some ⟨Y, 0, none⟩)), (166, .slice (some ⟨P, 0, none⟩) n n), (167, .int .i64 (n : Int))] ⟨rfl, rfl, rfl, rfl, rfl, rfl, rfl, rfl, rfl, rfl, rfl, rfl, rfl, rfl, rfl, rfl, rfl, rfl, rfl, rfl, rfl, rfl, rfl, rfl, rfl, rfl, rfl, rfl, rfl, rfl, rfl, rfl, rfl, rfl, trivial⟩ ?_
            rintro A ⟨e6, e7, e8, e10, e19, e20, e21, e22, e141, e142, e143, e144, e145, e146, e147, e148, e149, e150, e151, e152, e153, e154, e156, e155, e157, e158, e159, e160, e161, e163, e164, e165, e166, e167, _⟩
            intro i o ho h1 h2
            rcases i with _ | i
            · cases ho; exact Or.inl ⟨wanted_none rfl, by go_simp⟩
            rcases i with _ | i
            · cases ho; exact Or.inl ⟨wanted_none rfl, by go_simp⟩
            rcases i with _ | i
            · cases ho; exact Or.inl ⟨wanted_none rfl, by go_simp⟩
            rcases i with _ | i
            · cases ho; exact Or.inl ⟨wanted_ev rfl rfl rfl (by assumption), by go_simp⟩
            rcases i with _ | i
            · cases ho; exact Or.inl ⟨wanted_ev rfl rfl rfl (by assumption), by go_simp⟩
            rcases i with _ | i
            · cases ho; exact Or.inl ⟨wanted_ev rfl rfl rfl (by assumption), by go_simp⟩
            rcases i with _ | i
            · cases ho; exact Or.inl ⟨wanted_none rfl, by go_simp⟩
            rcases i with _ | i
            · cases ho; exact Or.inl ⟨wanted_none rfl, by go_simp⟩
            rcases i with _ | i
            · cases ho; exact Or.inl ⟨wanted_ev rfl rfl rfl (by assumption), by go_simp⟩
            rcases i with _ | i
            · cases ho; exact Or.inl ⟨wanted_ev rfl rfl rfl (by assumption), by go_simp⟩
            rcases i with _ | i
            · cases ho; exact Or.inl ⟨wanted_ev rfl rfl rfl (by assumption), by go_simp⟩
            rcases i with _ | i
            · cases ho; exact Or.inl ⟨wanted_none rfl, by go_simp⟩
            rcases i with _ | i
            · cases ho; exact Or.inl ⟨wanted_none rfl, by go_simp⟩
            rcases i with _ | i
            · cases ho; exact Or.inl ⟨wanted_ev rfl rfl rfl (by assumption), by go_simp⟩
            rcases i with _ | i
            · exact absurd h1 (by decide)
            rcases i with _ | i
            · cases ho; exact Or.inl ⟨wanted_ev rfl rfl rfl (by assumption), by go_simp⟩
            rcases i with _ | i
            · exact absurd h1 (by decide)
            rcases i with _ | i
            · cases ho; exact Or.inl ⟨wanted_ev rfl rfl rfl (by assumption), by go_simp⟩
            rcases i with _ | i
            · cases ho; exact Or.inl ⟨wanted_none rfl, by go_simp⟩
            rcases i with _ | i
            · cases ho; exact Or.inl ⟨wanted_none rfl, by go_simp⟩
            rcases i with _ | i
            · cases ho; exact Or.inl ⟨wanted_ev rfl rfl rfl (by assumption), by go_simp⟩
            rcases i with _ | i
            · exact absurd h1 (by decide)
            rcases i with _ | i
            · cases ho; exact Or.inl ⟨wanted_ev rfl rfl rfl (by assumption), by go_simp⟩
            rcases i with _ | i
            · cases ho; exact Or.inl ⟨wanted_ev rfl rfl rfl (by assumption), by go_simp⟩
            rcases i with _ | i
            · cases ho; exact Or.inl ⟨wanted_ev rfl rfl rfl (by assumption), by go_simp⟩
            rcases i with _ | i
            · cases ho; exact Or.inl ⟨wanted_ev rfl rfl rfl (by assumption), by go_simp⟩
            rcases i with _ | i
            · cases ho; exact Or.inl ⟨wanted_ev rfl rfl rfl (by assumption), by go_simp⟩
            rcases i with _ | i
            · exact absurd h2 (by decide)
            rcases i with _ | i
            · exact absurd h2 (by decide)
            rcases i with _ | i
            · exact absurd h2 (by decide)
            rcases i with _ | i
            · exact absurd h2 (by decide)
            rcases i with _ | i
            · exact absurd h1 (by decide)
            rcases i with _ | i
            · exact absurd h2 (by decide)
            rcases i with _ | i
            · exact absurd h1 (by decide)
            rcases i with _ | i
            · exact absurd h2 (by decide)
            rcases i with _ | i
            · exact absurd h2 (by decide)
            rcases i with _ | i
            · exact absurd h2 (by decide)
            rcases i with _ | i
            · exact absurd h2 (by decide)
            rcases i with _ | i
            · exact absurd h2 (by decide)
            rcases i with _ | i
            · exact absurd h2 (by decide)
            rcases i with _ | i
            · exact absurd h1 (by decide)
            rcases i with _ | i
            · exact absurd h2 (by decide)
            rcases i with _ | i
            · exact absurd h2 (by decide)
            rcases i with _ | i
            · exact absurd h2 (by decide)
            rcases i with _ | i
            · exact absurd h1 (by decide)
            rcases i with _ | i
            · exact absurd h1 (by decide)
            rcases i with _ | i
            · exact absurd h2 (by decide)
            rcases i with _ | i
            · exact absurd h1 (by decide)
            cases ho
          rintro e w21 ⟨rfl, hw⟩
          refine ⟨_, rfl, [(168, .bool false), (169, .bool false), (170, .bool false), (171, .pointer (some ⟨X, 0, none⟩)), (173, .pointer (some ⟨Y, 0, none⟩))], by kernel_rfl, ?_⟩
          simp only [fills, Act.put, List.setIfInBounds_toArray, List.set_cons_zero, List.set_cons_succ]
          replace hw := hw.symm
          subst hw
          clear c21
          have c31 := lefX.out _ _ h9.out rfl
          refine flowG_only (31, []) [(33, [34, 35, 36, 37, 38, 39, 41, 42, 43]), (40, []), (44, []), (45, [46]), (47, [])] (by kernel_rfl) rfl ?run (stepG_call _ (some 172) 21 #[.pointer (some ⟨X, 0, none⟩)] rfl rfl (wanted_ev rfl rfl rfl rfl) (by go_simp) ((c31).mono ?_))
          case run =>
            clear c31
            refine runsG_hide [(6, .pointer (some ⟨X, 0, none⟩)), (7, .pointer (some ⟨Y, 0, none⟩)), (8, .int .i64 (k : Int)), (10, .bool true), (19, .pointer (some ⟨E1, 0, none⟩)), (20, .bool b), (21, .pointer (some ⟨E2, 0, none⟩)), (22, .bool b), (141, .bool true), (142, .bool false), (143, .bool false), (144, .agg #[.int .i64 r.k, .int .i64 r.a, .int .i64 r.x, .int .i64 r.n]), (145, .agg #[.int .i64 r.k, .int .i64 r.a, .int .i64 r.x, .int .i64 r.n]), (146, .bool false), (147, .bool false), (148, .bool false), (149, .bool b), (150, .bool b), (151, .bool false), (152, .bool false), (153, .bool false), (154, .pointer (some ⟨X, 0, none⟩)), (156, .pointer (some ⟨Y, 0, none⟩)), (155, .int .i64 (m : Int)), (157, .int .i64 (m : Int)), (158, .bool false), (159, .bool false), (160, .bool false), (161, .pointer (some ⟨X, 0, none⟩)), (163, .pointer (some ⟨Y, 0, none⟩)), (164, .pointer (some ⟨Y, 0, none⟩)), (165, .pointer (some ⟨Y, 0, none⟩)), (166, .slice (some ⟨P, 0, none⟩) n n), (167, .int .i64 (n : Int)), (162, .int .i64 (n : Int)), (168, .bool false), (169, .bool false), (170, .bool false), (171, .pointer (some ⟨X, 0, none⟩)), (173, .pointer (some ⟨Y, 0, none⟩))] ⟨rfl, rfl, rfl, rfl, rfl, rfl, rfl, rfl, rfl, rfl, rfl, rfl, rfl, rfl, rfl, rfl, rfl, rfl, rfl, rfl, rfl, rfl, rfl, rfl, rfl, rfl, rfl, rfl, rfl, rfl, rfl, rfl, rfl, rfl, rfl, rfl, rfl, rfl, rfl, rfl, trivial⟩ ?_
            rintro A ⟨e6, e7, e8, e10, e19, e20, e21, e22, e141, e142, e143, e144, e145, e146, e147, e148, e149, e150, e151, e152, e153, e154, e156, e155, e157, e158, e159, e160, e161, e163, e164, e165, e166, e167, e162, e168, e169, e170, e171, e173, _⟩
            intro i o ho h1 h2
            rcases i with _ | i
            · cases ho; exact Or.inl ⟨wanted_none rfl, by go_simp⟩
            rcases i with _ | i
            · cases ho; exact Or.inl ⟨wanted_none rfl, by go_simp⟩
            rcases i with _ | i
            · cases ho; exact Or.inl ⟨wanted_none rfl, by go_simp⟩
            rcases i with _ | i
            · cases ho; exact Or.inl ⟨wanted_ev rfl rfl rfl (by assumption), by go_simp⟩
            rcases i with _ | i
            · cases ho; exact Or.inl ⟨wanted_ev rfl rfl rfl (by assumption), by go_simp⟩
            rcases i with _ | i
            · cases ho; exact Or.inl ⟨wanted_ev rfl rfl rfl (by assumption), by go_simp⟩
            rcases i with _ | i
            · cases ho; exact Or.inl ⟨wanted_none rfl, by go_simp⟩
            rcases i with _ | i
            · cases ho; exact Or.inl ⟨wanted_none rfl, by go_simp⟩
            rcases i with _ | i
            · cases ho; exact Or.inl ⟨wanted_ev rfl rfl rfl (by assumption), by go_simp⟩
            rcases i with _ | i
            · cases ho; exact Or.inl ⟨wanted_ev rfl rfl rfl (by assumption), by go_simp⟩
            rcases i with _ | i
            · cases ho; exact Or.inl ⟨wanted_ev rfl rfl rfl (by assumption), by go_simp⟩
            rcases i with _ | i
            · cases ho; exact Or.inl ⟨wanted_none rfl, by go_simp⟩
            rcases i with _ | i
            · cases ho; exact Or.inl ⟨wanted_none rfl, by go_simp⟩
            rcases i with _ | i
            · cases ho; exact Or.inl ⟨wanted_ev rfl rfl rfl (by assumption), by go_simp⟩
            rcases i with _ | i
            · exact absurd h1 (by decide)
            rcases i with _ | i
            · cases ho; exact Or.inl ⟨wanted_ev rfl rfl rfl (by assumption), by go_simp⟩
            rcases i with _ | i
            · exact absurd h1 (by decide)
            rcases i with _ | i
            · cases ho; exact Or.inl ⟨wanted_ev rfl rfl rfl (by assumption), by go_simp⟩
            rcases i with _ | i
            · cases ho; exact Or.inl ⟨wanted_none rfl, by go_simp⟩
            rcases i with _ | i
            · cases ho; exact Or.inl ⟨wanted_none rfl, by go_simp⟩
            rcases i with _ | i
            · cases ho; exact Or.inl ⟨wanted_ev rfl rfl rfl (by assumption), by go_simp⟩
            rcases i with _ | i
            · exact absurd h1 (by decide)
            rcases i with _ | i
            · cases ho; exact Or.inl ⟨wanted_ev rfl rfl rfl (by assumption), by go_simp⟩
            rcases i with _ | i
            · cases ho; exact Or.inl ⟨wanted_ev rfl rfl rfl (by assumption), by go_simp⟩
            rcases i with _ | i
            · cases ho; exact Or.inl ⟨wanted_ev rfl rfl rfl (by assumption), by go_simp⟩
            rcases i with _ | i
            · cases ho; exact Or.inl ⟨wanted_ev rfl rfl rfl (by assumption), by go_simp⟩
            rcases i with _ | i
            · cases ho; exact Or.inl ⟨wanted_ev rfl rfl rfl (by assumption), by go_simp⟩
            rcases i with _ | i
            · cases ho; exact Or.inl ⟨wanted_ev rfl rfl rfl (by assumption), by go_simp⟩
            rcases i with _ | i
            · cases ho; exact Or.inl ⟨wanted_none rfl, by go_simp⟩
            rcases i with _ | i
            · cases ho; exact Or.inl ⟨wanted_none rfl, by go_simp⟩
            rcases i with _ | i
            · cases ho; exact Or.inl ⟨wanted_ev rfl rfl rfl (by assumption), by go_simp⟩
            rcases i with _ | i
            · exact absurd h1 (by decide)
            rcases i with _ | i
            · cases ho; exact Or.inl ⟨wanted_ev rfl rfl rfl (by assumption), by go_simp⟩
            rcases i with _ | i
            · exact absurd h1 (by decide)
            rcases i with _ | i
            · exact absurd h2 (by decide)
            rcases i with _ | i
            · exact absurd h2 (by decide)
            rcases i with _ | i
            · exact absurd h2 (by decide)
            rcases i with _ | i
            · exact absurd h2 (by decide)
            rcases i with _ | i
            · exact absurd h2 (by decide)
            rcases i with _ | i
            · exact absurd h2 (by decide)
            rcases i with _ | i
            · exact absurd h1 (by decide)
            rcases i with _ | i
            · exact absurd h2 (by decide)
            rcases i with _ | i
            · exact absurd h2 (by decide)
            rcases i with _ | i
            · exact absurd h2 (by decide)
            rcases i with _ | i
            · exact absurd h1 (by decide)
            rcases i with _ | i
            · exact absurd h1 (by decide)
            rcases i with _ | i
            · exact absurd h2 (by decide)
            rcases i with _ | i
            · exact absurd h1 (by decide)
            cases ho
          rintro e w31 ⟨rfl, hw⟩
          refine ⟨_, rfl, [], by kernel_rfl, ?_⟩
          simp only [fills, Act.put, List.setIfInBounds_toArray, List.set_cons_zero, List.set_cons_succ]
          replace hw := hw.symm
          subst hw
          clear c31
          have c33 := lefY.out _ _ h9.out rfl
          refine flowG_only (33, [34, 35, 36, 37, 38, 39, 41, 42, 43]) [(40, []), (44, []), (45, [46]), (47, [])] (by kernel_rfl) rfl ?run (stepG_call _ (some 174) 22 #[.pointer (some ⟨Y, 0, none⟩)] rfl rfl (wanted_ev rfl rfl rfl rfl) (by go_simp) ((c33).mono ?_))
          case run =>
            clear c33
            refine runsG_hide [(6, .pointer (some ⟨X, 0, none⟩)), (7, .pointer (some ⟨Y, 0, none⟩)), (8, .int .i64 (k : Int)), (10, .bool true), (19, .pointer (some ⟨E1, 0, none⟩)), (20, .bool b), (21, .pointer (some ⟨E2, 0, none⟩)), (22, .bool b), (141, .bool true), (142, .bool false), (143, .bool false), (144, .agg #[.int .i64 r.k, .int .i64 r.a, .int .i64 r.x, .int .i64 r.n]), (145, .agg #[.int .i64 r.k, .int .i64 r.a, .int .i64 r.x, .int .i64 r.n]), (146, .bool false), (147, .bool false), (148, .bool false), (149, .bool b), (150, .bool b), (151, .bool false), (152, .bool false), (153, .bool false), (154, .pointer (some ⟨X, 0, none⟩)), (156, .pointer (some ⟨Y, 0, none⟩)), (155, .int .i64 (m : Int)), (157, .int .i64 (m : Int)), (158, .bool false), (159, .bool false), (160, .bool false), (161, .pointer (some ⟨X, 0, none⟩)), (163, .pointer (some ⟨Y, 0, none⟩)), (164, .pointer (some ⟨Y, 0, none⟩)), (165, .pointer (some ⟨Y, 0, none⟩)), (166, .slice (some ⟨P, 0, none⟩) n n), (167, .int .i64 (n : Int)), (162, .int .i64 (n : Int)), (168, .bool false), (169, .bool false), (170, .bool false), (171, .pointer (some ⟨X, 0, none⟩)), (173, .pointer (some ⟨Y, 0, none⟩)), (172, .int .i64 (s : Int))] ⟨rfl, rfl, rfl, rfl, rfl, rfl, rfl, rfl, rfl, rfl, rfl, rfl, rfl, rfl, rfl, rfl, rfl, rfl, rfl, rfl, rfl, rfl, rfl, rfl, rfl, rfl, rfl, rfl, rfl, rfl, rfl, rfl, rfl, rfl, rfl, rfl, rfl, rfl, rfl, rfl, rfl, trivial⟩ ?_
            rintro A ⟨e6, e7, e8, e10, e19, e20, e21, e22, e141, e142, e143, e144, e145, e146, e147, e148, e149, e150, e151, e152, e153, e154, e156, e155, e157, e158, e159, e160, e161, e163, e164, e165, e166, e167, e162, e168, e169, e170, e171, e173, e172, _⟩
            intro i o ho h1 h2
            rcases i with _ | i
            · cases ho; exact Or.inl ⟨wanted_none rfl, by go_simp⟩
            rcases i with _ | i
            · cases ho; exact Or.inl ⟨wanted_none rfl, by go_simp⟩
            rcases i with _ | i
            · cases ho; exact Or.inl ⟨wanted_none rfl, by go_simp⟩
            rcases i with _ | i
            · cases ho; exact Or.inl ⟨wanted_ev rfl rfl rfl (by assumption), by go_simp⟩
            rcases i with _ | i
            · cases ho; exact Or.inl ⟨wanted_ev rfl rfl rfl (by assumption), by go_simp⟩
            rcases i with _ | i
            · cases ho; exact Or.inl ⟨wanted_ev rfl rfl rfl (by assumption), by go_simp⟩
            rcases i with _ | i
            · cases ho; exact Or.inl ⟨wanted_none rfl, by go_simp⟩
            rcases i with _ | i
            · cases ho; exact Or.inl ⟨wanted_none rfl, by go_simp⟩
            rcases i with _ | i
            · cases ho; exact Or.inl ⟨wanted_ev rfl rfl rfl (by assumption), by go_simp⟩
            rcases i with _ | i
            · cases ho; exact Or.inl ⟨wanted_ev rfl rfl rfl (by assumption), by go_simp⟩
            rcases i with _ | i
            · cases ho; exact Or.inl ⟨wanted_ev rfl rfl rfl (by assumption), by go_simp⟩
            rcases i with _ | i
            · cases ho; exact Or.inl ⟨wanted_none rfl, by go_simp⟩
            rcases i with _ | i
            · cases ho; exact Or.inl ⟨wanted_none rfl, by go_simp⟩
            rcases i with _ | i
            · cases ho; exact Or.inl ⟨wanted_ev rfl rfl rfl (by assumption), by go_simp⟩
            rcases i with _ | i
            · exact absurd h1 (by decide)
            rcases i with _ | i
            · cases ho; exact Or.inl ⟨wanted_ev rfl rfl rfl (by assumption), by go_simp⟩
            rcases i with _ | i
            · exact absurd h1 (by decide)
            rcases i with _ | i
            · cases ho; exact Or.inl ⟨wanted_ev rfl rfl rfl (by assumption), by go_simp⟩
            rcases i with _ | i
            · cases ho; exact Or.inl ⟨wanted_none rfl, by go_simp⟩
            rcases i with _ | i
            · cases ho; exact Or.inl ⟨wanted_none rfl, by go_simp⟩
            rcases i with _ | i
            · cases ho; exact Or.inl ⟨wanted_ev rfl rfl rfl (by assumption), by go_simp⟩
            rcases i with _ | i
            · exact absurd h1 (by decide)
            rcases i with _ | i
            · cases ho; exact Or.inl ⟨wanted_ev rfl rfl rfl (by assumption), by go_simp⟩
            rcases i with _ | i
            · cases ho; exact Or.inl ⟨wanted_ev rfl rfl rfl (by assumption), by go_simp⟩
            rcases i with _ | i
            · cases ho; exact Or.inl ⟨wanted_ev rfl rfl rfl (by assumption), by go_simp⟩
            rcases i with _ | i
            · cases ho; exact Or.inl ⟨wanted_ev rfl rfl rfl (by assumption), by go_simp⟩
            rcases i with _ | i
            · cases ho; exact Or.inl ⟨wanted_ev rfl rfl rfl (by assumption), by go_simp⟩
            rcases i with _ | i
            · cases ho; exact Or.inl ⟨wanted_ev rfl rfl rfl (by assumption), by go_simp⟩
            rcases i with _ | i
            · cases ho; exact Or.inl ⟨wanted_none rfl, by go_simp⟩
            rcases i with _ | i
            · cases ho; exact Or.inl ⟨wanted_none rfl, by go_simp⟩
            rcases i with _ | i
            · cases ho; exact Or.inl ⟨wanted_ev rfl rfl rfl (by assumption), by go_simp⟩
            rcases i with _ | i
            · exact absurd h1 (by decide)
            rcases i with _ | i
            · cases ho; exact Or.inl ⟨wanted_ev rfl rfl rfl (by assumption), by go_simp⟩
            rcases i with _ | i
            · exact absurd h1 (by decide)
            rcases i with _ | i
            · exact absurd h2 (by decide)
            rcases i with _ | i
            · exact absurd h2 (by decide)
            rcases i with _ | i
            · exact absurd h2 (by decide)
            rcases i with _ | i
            · exact absurd h2 (by decide)
            rcases i with _ | i
            · exact absurd h2 (by decide)
            rcases i with _ | i
            · exact absurd h2 (by decide)
            rcases i with _ | i
            · exact absurd h1 (by decide)
            rcases i with _ | i
            · exact absurd h2 (by decide)
            rcases i with _ | i
            · exact absurd h2 (by decide)
            rcases i with _ | i
            · exact absurd h2 (by decide)
            rcases i with _ | i
            · exact absurd h1 (by decide)
            rcases i with _ | i
            · exact absurd h1 (by decide)
            rcases i with _ | i
            · exact absurd h2 (by decide)
            rcases i with _ | i
            · exact absurd h1 (by decide)
            cases ho
          rintro e w33 ⟨rfl, h10⟩
          refine ⟨_, rfl, [(175, .bool false), (176, .bool false), (177, .bool false), (178, .pointer (some ⟨X, 0, none⟩)), (179, .int .i64 (k : Int)), (180, .int .i64 (kk : Int)), (182, .pointer (some ⟨Y, 0, none⟩)), (183, .int .i64 (k : Int)), (184, .int .i64 (kk : Int))], by kernel_rfl, ?_⟩
          simp only [fills, Act.put, List.setIfInBounds_toArray, List.set_cons_zero, List.set_cons_succ]
          clear c33 h9 k0 k1 k2 k3 j0 j1 j2 j3 lE1 lE2 cP lY
          have h10 : Hid (Apt w _ [obT t, obR u, obBlk E1 30 #[.int .i64 r.k, .int .i64 r.a, .int .i64 r.x, .int .i64 r.n], obBlk E2 30 #[.int .i64 r.k, .int .i64 r.a, .int .i64 r.x, .int .i64 r.n]]) := h10
          obtain ⟨k0, k1, k2, k3, lE1⟩ := row_cells (h10.out.all 2 _ rfl)
          obtain ⟨j0, j1, j2, j3, lE2⟩ := row_cells (h10.out.all 3 _ rfl)
          obtain ⟨cP, lY⟩ := cells.out _ (h10.out.all 1 _ rfl)
          have c40 := chaX.out _ _ h10.out rfl
          refine flowG_only (40, []) [(44, []), (45, [46]), (47, [])] (by kernel_rfl) rfl ?run (stepG_call _ (some 181) 24 #[.pointer (some ⟨X, 0, none⟩), .int .i64 (kk : Int)] rfl rfl (wanted_ev rfl rfl rfl rfl) (by go_simp) ((c40).mono ?_))
          case run =>
            clear c40
            refine runsG_hide [(6, .pointer (some ⟨X, 0, none⟩)), (7, .pointer (some ⟨Y, 0, none⟩)), (8, .int .i64 (k : Int)), (10, .bool true), (19, .pointer (some ⟨E1, 0, none⟩)), (20, .bool b), (21, .pointer (some ⟨E2, 0, none⟩)), (22, .bool b), (141, .bool true), (142, .bool false), (143, .bool false), (144, .agg #[.int .i64 r.k, .int .i64 r.a, .int .i64 r.x, .int .i64 r.n]), (145, .agg #[.int .i64 r.k, .int .i64 r.a, .int .i64 r.x, .int .i64 r.n]), (146, .bool false), (147, .bool false), (148, .bool false), (149, .bool b), (150, .bool b), (151, .bool false), (152, .bool false), (153, .bool false), (154, .pointer (some ⟨X, 0, none⟩)), (156, .pointer (some ⟨Y, 0, none⟩)), (155, .int .i64 (m : Int)), (157, .int .i64 (m : Int)), (158, .bool false), (159, .bool false), (160, .bool false), (161, .pointer (some ⟨X, 0, none⟩)), (163, .pointer (some ⟨Y, 0, none⟩)), (164, .pointer (some ⟨Y, 0, none⟩)), (165, .pointer (some ⟨Y, 0, none⟩)), (166, .slice (some ⟨P, 0, none⟩) n n), (167, .int .i64 (n : Int)), (162, .int .i64 (n : Int)), (168, .bool false), (169, .bool false), (170, .bool false), (171, .pointer (some ⟨X, 0, none⟩)), (173, .pointer (some ⟨Y, 0, none⟩)), (172, .int .i64 (s : Int)), (174, .int .i64 (s : Int)), (175, .bool false), (176, .bool false), (177, .bool false), (178, .pointer (some ⟨X, 0, none⟩)), (179, .int .i64 (k : Int)), (180, .int .i64 (kk : Int)), (182, .pointer (some ⟨Y, 0, none⟩)), (183, .int .i64 (k : Int)), (184, .int .i64 (kk : Int))] ⟨rfl, rfl, rfl, rfl, rfl, rfl, rfl, rfl, rfl, rfl, rfl, rfl, rfl, rfl, rfl, rfl, rfl, rfl, rfl, rfl, rfl, rfl, rfl, rfl, rfl, rfl, rfl, rfl, rfl, rfl, rfl, rfl, rfl, rfl, rfl, rfl, rfl, rfl, rfl, rfl, rfl, rfl, rfl, rfl, rfl, rfl, rfl, rfl, rfl, rfl, rfl, trivial⟩ ?_
            rintro A ⟨e6, e7, e8, e10, e19, e20, e21, e22, e141, e142, e143, e144, e145, e146, e147, e148, e149, e150, e151, e152, e153, e154, e156, e155, e157, e158, e159, e160, e161, e163, e164, e165, e166, e167, e162, e168, e169, e170, e171, e173, e172, e174, e175, e176, e177, e178, e179, e180, e182, e183, e184, _⟩
            intro i o ho h1 h2
            rcases i with _ | i
            · cases ho; exact Or.inl ⟨wanted_none rfl, by go_simp⟩
            rcases i with _ | i
            · cases ho; exact Or.inl ⟨wanted_none rfl, by go_simp⟩
            rcases i with _ | i
            · cases ho; exact Or.inl ⟨wanted_none rfl, by go_simp⟩
            rcases i with _ | i
            · cases ho; exact Or.inl ⟨wanted_ev rfl rfl rfl (by assumption), by go_simp⟩
            rcases i with _ | i
            · cases ho; exact Or.inl ⟨wanted_ev rfl rfl rfl (by assumption), by go_simp⟩
            rcases i with _ | i
            · cases ho; exact Or.inl ⟨wanted_ev rfl rfl rfl (by assumption), by go_simp⟩
            rcases i with _ | i
            · cases ho; exact Or.inl ⟨wanted_none rfl, by go_simp⟩
            rcases i with _ | i
            · cases ho; exact Or.inl ⟨wanted_none rfl, by go_simp⟩
            rcases i with _ | i
            · cases ho; exact Or.inl ⟨wanted_ev rfl rfl rfl (by assumption), by go_simp⟩
            rcases i with _ | i
            · cases ho; exact Or.inl ⟨wanted_ev rfl rfl rfl (by assumption), by go_simp⟩
            rcases i with _ | i
            · cases ho; exact Or.inl ⟨wanted_ev rfl rfl rfl (by assumption), by go_simp⟩
            rcases i with _ | i
            · cases ho; exact Or.inl ⟨wanted_none rfl, by go_simp⟩
            rcases i with _ | i
            · cases ho; exact Or.inl ⟨wanted_none rfl, by go_simp⟩
            rcases i with _ | i
            · cases ho; exact Or.inl ⟨wanted_ev rfl rfl rfl (by assumption), by go_simp⟩
            rcases i with _ | i
            · exact absurd h1 (by decide)
            rcases i with _ | i
            · cases ho; exact Or.inl ⟨wanted_ev rfl rfl rfl (by assumption), by go_simp⟩
            rcases i with _ | i
            · exact absurd h1 (by decide)
            rcases i with _ | i
            · cases ho; exact Or.inl ⟨wanted_ev rfl rfl rfl (by assumption), by go_simp⟩
            rcases i with _ | i
            · cases ho; exact Or.inl ⟨wanted_none rfl, by go_simp⟩
            rcases i with _ | i
            · cases ho; exact Or.inl ⟨wanted_none rfl, by go_simp⟩
            rcases i with _ | i
            · cases ho; exact Or.inl ⟨wanted_ev rfl rfl rfl (by assumption), by go_simp⟩
            rcases i with _ | i
            · exact absurd h1 (by decide)
            rcases i with _ | i
            · cases ho; exact Or.inl ⟨wanted_ev rfl rfl rfl (by assumption), by go_simp⟩
            rcases i with _ | i
            · cases ho; exact Or.inl ⟨wanted_ev rfl rfl rfl (by assumption), by go_simp⟩
            rcases i with _ | i
            · cases ho; exact Or.inl ⟨wanted_ev rfl rfl rfl (by assumption), by go_simp⟩
            rcases i with _ | i
            · cases ho; exact Or.inl ⟨wanted_ev rfl rfl rfl (by assumption), by go_simp⟩
            rcases i with _ | i
            · cases ho; exact Or.inl ⟨wanted_ev rfl rfl rfl (by assumption), by go_simp⟩
            rcases i with _ | i
            · cases ho; exact Or.inl ⟨wanted_ev rfl rfl rfl (by assumption), by go_simp⟩
            rcases i with _ | i
            · cases ho; exact Or.inl ⟨wanted_none rfl, by go_simp⟩
            rcases i with _ | i
            · cases ho; exact Or.inl ⟨wanted_none rfl, by go_simp⟩
            rcases i with _ | i
            · cases ho; exact Or.inl ⟨wanted_ev rfl rfl rfl (by assumption), by go_simp⟩
            rcases i with _ | i
            · exact absurd h1 (by decide)
            rcases i with _ | i
            · cases ho; exact Or.inl ⟨wanted_ev rfl rfl rfl (by assumption), by go_simp⟩
            rcases i with _ | i
            · exact absurd h1 (by decide)
            rcases i with _ | i
            · cases ho; exact Or.inl ⟨wanted_ev rfl rfl rfl (by assumption), by go_simp⟩
            rcases i with _ | i
            · cases ho; exact Or.inl ⟨wanted_none rfl, by go_simp⟩
            rcases i with _ | i
            · cases ho; exact Or.inl ⟨wanted_none rfl, by go_simp⟩
            rcases i with _ | i
            · cases ho; exact Or.inl ⟨wanted_ev rfl rfl rfl (by assumption), by go_simp⟩
            rcases i with _ | i
            · cases ho; exact Or.inl ⟨wanted_ev rfl rfl rfl (by assumption), by go_simp⟩
            rcases i with _ | i
            · cases ho; exact Or.inl ⟨wanted_ev rfl rfl rfl (by assumption), by go_simp⟩
            rcases i with _ | i
            · exact absurd h1 (by decide)
            rcases i with _ | i
            · cases ho; exact Or.inl ⟨wanted_ev rfl rfl rfl (by assumption), by go_simp⟩
            rcases i with _ | i
            · cases ho; exact Or.inl ⟨wanted_ev rfl rfl rfl (by assumption), by go_simp⟩
            rcases i with _ | i
            · cases ho; exact Or.inl ⟨wanted_ev rfl rfl rfl (by assumption), by go_simp⟩
            rcases i with _ | i
            · exact absurd h1 (by decide)
            rcases i with _ | i
            · exact absurd h1 (by decide)
            rcases i with _ | i
            · exact absurd h2 (by decide)
            rcases i with _ | i
            · exact absurd h1 (by decide)
            cases ho
          rintro e w40 ⟨pc, cc, rfl, h11⟩
          refine ⟨_, rfl, [], by kernel_rfl, ?_⟩
          simp only [fills, Act.put, List.setIfInBounds_toArray, List.set_cons_zero, List.set_cons_succ]
          clear c40 h10 k0 k1 k2 k3 j0 j1 j2 j3 lE1 lE2 cP lY
          have h11 : Hid (Apt w _ [obT t, obR u, obBlk E1 30 #[.int .i64 r.k, .int .i64 r.a, .int .i64 r.x, .int .i64 r.n], obBlk E2 30 #[.int .i64 r.k, .int .i64 r.a, .int .i64 r.x, .int .i64 r.n], obV pc cc ks]) := h11
          obtain ⟨k0, k1, k2, k3, lE1⟩ := row_cells (h11.out.all 2 _ rfl)
          obtain ⟨j0, j1, j2, j3, lE2⟩ := row_cells (h11.out.all 3 _ rfl)
          obtain ⟨cP, lY⟩ := cells.out _ (h11.out.all 1 _ rfl)
          have c44 := chaY.out _ _ h11.out rfl
          refine flowG_only (44, []) [(45, [46]), (47, [])] (by kernel_rfl) rfl ?run (stepG_call _ (some 185) 25 #[.pointer (some ⟨Y, 0, none⟩), .int .i64 (kk : Int)] rfl rfl (wanted_ev rfl rfl rfl rfl) (by go_simp) ((c44).mono ?_))
          case run =>
            clear c44
            refine runsG_hide [(6, .pointer (some ⟨X, 0, none⟩)), (7, .pointer (some ⟨Y, 0, none⟩)), (8, .int .i64 (k : Int)), (10, .bool true), (19, .pointer (some ⟨E1, 0, none⟩)), (20, .bool b), (21, .pointer (some ⟨E2, 0, none⟩)), (22, .bool b), (141, .bool true), (142, .bool false), (143, .bool false), (144, .agg #[.int .i64 r.k, .int .i64 r.a, .int .i64 r.x, .int .i64 r.n]), (145, .agg #[.int .i64 r.k, .int .i64 r.a, .int .i64 r.x, .int .i64 r.n]), (146, .bool false), (147, .bool false), (148, .bool false), (149, .bool b), (150, .bool b), (151, .bool false), (152, .bool false), (153, .bool false), (154, .pointer (some ⟨X, 0, none⟩)), (156, .pointer (some ⟨Y, 0, none⟩)), (155, .int .i64 (m : Int)), (157, .int .i64 (m : Int)), (158, .bool false), (159, .bool false), (160, .bool false), (161, .pointer (some ⟨X, 0, none⟩)), (163, .pointer (some ⟨Y, 0, none⟩)), (164, .pointer (some ⟨Y, 0, none⟩)), (165, .pointer (some ⟨Y, 0, none⟩)), (166, .slice (some ⟨P, 0, none⟩) n n), (167, .int .i64 (n : Int)), (162, .int .i64 (n : Int)), (168, .bool false), (169, .bool false), (170, .bool false), (171, .pointer (some ⟨X, 0, none⟩)), (173, .pointer (some ⟨Y, 0, none⟩)), (172, .int .i64 (s : Int)), (174, .int .i64 (s : Int)), (175, .bool false), (176, .bool false), (177, .bool false), (178, .pointer (some ⟨X, 0, none⟩)), (179, .int .i64 (k : Int)), (180, .int .i64 (kk : Int)), (182, .pointer (some ⟨Y, 0, none⟩)), (183, .int .i64 (k : Int)), (184, .int .i64 (kk : Int)), (181, .slice pc N cc)] ⟨rfl, rfl, rfl, rfl, rfl, rfl, rfl, rfl, rfl, rfl, rfl, rfl, rfl, rfl, rfl, rfl, rfl, rfl, rfl, rfl, rfl, rfl, rfl, rfl, rfl, rfl, rfl, rfl, rfl, rfl, rfl, rfl, rfl, rfl, rfl, rfl, rfl, rfl, rfl, rfl, rfl, rfl, rfl, rfl, rfl, rfl, rfl, rfl, rfl, rfl, rfl, rfl, trivial⟩ ?_
            rintro A ⟨e6, e7, e8, e10, e19, e20, e21, e22, e141, e142, e143, e144, e145, e146, e147, e148, e149, e150, e151, e152, e153, e154, e156, e155, e157, e158, e159, e160, e161, e163, e164, e165, e166, e167, e162, e168, e169, e170, e171, e173, e172, e174, e175, e176, e177, e178, e179, e180, e182, e183, e184, e181, _⟩
            intro i o ho h1 h2
            rcases i with _ | i
            · cases ho; exact Or.inl ⟨wanted_none rfl, by go_simp⟩
            rcases i with _ | i
            · cases ho; exact Or.inl ⟨wanted_none rfl, by go_simp⟩
            rcases i with _ | i
            · cases ho; exact Or.inl ⟨wanted_none rfl, by go_simp⟩
            rcases i with _ | i
            · cases ho; exact Or.inl ⟨wanted_ev rfl rfl rfl (by assumption), by go_simp⟩
            rcases i with _ | i
            · cases ho; exact Or.inl ⟨wanted_ev rfl rfl rfl (by assumption), by go_simp⟩
            rcases i with _ | i
            · cases ho; exact Or.inl ⟨wanted_ev rfl rfl rfl (by assumption), by go_simp⟩
            rcases i with _ | i
            · cases ho; exact Or.inl ⟨wanted_none rfl, by go_simp⟩
            rcases i with _ | i
            · cases ho; exact Or.inl ⟨wanted_none rfl, by go_simp⟩
            rcases i with _ | i
            · cases ho; exact Or.inl ⟨wanted_ev rfl rfl rfl (by assumption), by go_simp⟩
            rcases i with _ | i
            · cases ho; exact Or.inl ⟨wanted_ev rfl rfl rfl (by assumption), by go_simp⟩
            rcases i with _ | i
            · cases ho; exact Or.inl ⟨wanted_ev rfl rfl rfl (by assumption), by go_simp⟩
            rcases i with _ | i
            · cases ho; exact Or.inl ⟨wanted_none rfl, by go_simp⟩
            rcases i with _ | i
            · cases ho; exact Or.inl ⟨wanted_none rfl, by go_simp⟩
            rcases i with _ | i
            · cases ho; exact Or.inl ⟨wanted_ev rfl rfl rfl (by assumption), by go_simp⟩
            rcases i with _ | i
            · exact absurd h1 (by decide)
            rcases i with _ | i
            · cases ho; exact Or.inl ⟨wanted_ev rfl rfl rfl (by assumption), by go_simp⟩
            rcases i with _ | i
            · exact absurd h1 (by decide)
            rcases i with _ | i
            · cases ho; exact Or.inl ⟨wanted_ev rfl rfl rfl (by assumption), by go_simp⟩
            rcases i with _ | i
            · cases ho; exact Or.inl ⟨wanted_none rfl, by go_simp⟩
            rcases i with _ | i
            · cases ho; exact Or.inl ⟨wanted_none rfl, by go_simp⟩
            rcases i with _ | i
            · cases ho; exact Or.inl ⟨wanted_ev rfl rfl rfl (by assumption), by go_simp⟩
            rcases i with _ | i
            · exact absurd h1 (by decide)
            rcases i with _ | i
            · cases ho; exact Or.inl ⟨wanted_ev rfl rfl rfl (by assumption), by go_simp⟩
            rcases i with _ | i
            · cases ho; exact Or.inl ⟨wanted_ev rfl rfl rfl (by assumption), by go_simp⟩
            rcases i with _ | i
            · cases ho; exact Or.inl ⟨wanted_ev rfl rfl rfl (by assumption), by go_simp⟩
            rcases i with _ | i
            · cases ho; exact Or.inl ⟨wanted_ev rfl rfl rfl (by assumption), by go_simp⟩
            rcases i with _ | i
            · cases ho; exact Or.inl ⟨wanted_ev rfl rfl rfl (by assumption), by go_simp⟩
            rcases i with _ | i
            · cases ho; exact Or.inl ⟨wanted_ev rfl rfl rfl (by assumption), by go_simp⟩
            rcases i with _ | i
            · cases ho; exact Or.inl ⟨wanted_none rfl, by go_simp⟩
            rcases i with _ | i
            · cases ho; exact Or.inl ⟨wanted_none rfl, by go_simp⟩
            rcases i with _ | i
            · cases ho; exact Or.inl ⟨wanted_ev rfl rfl rfl (by assumption), by go_simp⟩
            rcases i with _ | i
            · exact absurd h1 (by decide)
            rcases i with _ | i
            · cases ho; exact Or.inl ⟨wanted_ev rfl rfl rfl (by assumption), by go_simp⟩
            rcases i with _ | i
            · exact absurd h1 (by decide)
            rcases i with _ | i
            · cases ho; exact Or.inl ⟨wanted_ev rfl rfl rfl (by assumption), by go_simp⟩
            rcases i with _ | i
            · cases ho; exact Or.inl ⟨wanted_none rfl, by go_simp⟩
            rcases i with _ | i
            · cases ho; exact Or.inl ⟨wanted_none rfl, by go_simp⟩
            rcases i with _ | i
            · cases ho; exact Or.inl ⟨wanted_ev rfl rfl rfl (by assumption), by go_simp⟩
            rcases i with _ | i
            · cases ho; exact Or.inl ⟨wanted_ev rfl rfl rfl (by assumption), by go_simp⟩
            rcases i with _ | i
            · cases ho; exact Or.inl ⟨wanted_ev rfl rfl rfl (by assumption), by go_simp⟩
            rcases i with _ | i
            · exact absurd h1 (by decide)
            rcases i with _ | i
            · cases ho; exact Or.inl ⟨wanted_ev rfl rfl rfl (by assumption), by go_simp⟩
            rcases i with _ | i
            · cases ho; exact Or.inl ⟨wanted_ev rfl rfl rfl (by assumption), by go_simp⟩
            rcases i with _ | i
            · cases ho; exact Or.inl ⟨wanted_ev rfl rfl rfl (by assumption), by go_simp⟩
            rcases i with _ | i
            · exact absurd h1 (by decide)
            rcases i with _ | i
            · exact absurd h1 (by decide)
            rcases i with _ | i
            · exact absurd h2 (by decide)
            rcases i with _ | i
            · exact absurd h1 (by decide)
            cases ho
          rintro e w44 ⟨pd, cd, rfl, h12⟩
          refine ⟨_, rfl, [], by kernel_rfl, ?_⟩
          simp only [fills, Act.put, List.setIfInBounds_toArray, List.set_cons_zero, List.set_cons_succ]
          clear c44 h11 k0 k1 k2 k3 j0 j1 j2 j3 lE1 lE2 cP lY
          have h12 : Hid (Apt w _ [obT t, obR u, obBlk E1 30 #[.int .i64 r.k, .int .i64 r.a, .int .i64 r.x, .int .i64 r.n], obBlk E2 30 #[.int .i64 r.k, .int .i64 r.a, .int .i64 r.x, .int .i64 r.n], obV pc cc ks, obV pd cd ks]) := h12
          obtain ⟨k0, k1, k2, k3, lE1⟩ := row_cells (h12.out.all 2 _ rfl)
          obtain ⟨j0, j1, j2, j3, lE2⟩ := row_cells (h12.out.all 3 _ rfl)
          obtain ⟨cP, lY⟩ := cells.out _ (h12.out.all 1 _ rfl)
          have c45 := ints_s h12.out (i := 4) (j := 5) rfl rfl (by rw [hNk.out]; exact hN6)
          rw [hNk.out] at c45
          refine flowG_only (45, [46]) [(47, [])] (by kernel_rfl) rfl ?run (stepG_call _ (some 186) 23 #[.slice pc N cc, .slice pd N cd] rfl rfl (wanted_ev rfl rfl rfl rfl) (by go_simp) ((c45).mono ?_))
          case run =>
            clear c45
            refine runsG_hide [(6, .pointer (some ⟨X, 0, none⟩)), (7, .pointer (some ⟨Y, 0, none⟩)), (8, .int .i64 (k : Int)), (10, .bool true), (19, .pointer (some ⟨E1, 0, none⟩)), (20, .bool b), (21, .pointer (some ⟨E2, 0, none⟩)), (22, .bool b), (141, .bool true), (142, .bool false), (143, .bool false), (144, .agg #[.int .i64 r.k, .int .i64 r.a, .int .i64 r.x, .int .i64 r.n]), (145, .agg #[.int .i64 r.k, .int .i64 r.a, .int .i64 r.x, .int .i64 r.n]), (146, .bool false), (147, .bool false), (148, .bool false), (149, .bool b), (150, .bool b), (151, .bool false), (152, .bool false), (153, .bool false), (154, .pointer (some ⟨X, 0, none⟩)), (156, .pointer (some ⟨Y, 0, none⟩)), (155, .int .i64 (m : Int)), (157, .int .i64 (m : Int)), (158, .bool false), (159, .bool false), (160, .bool false), (161, .pointer (some ⟨X, 0, none⟩)), (163, .pointer (some ⟨Y, 0, none⟩)), (164, .pointer (some ⟨Y, 0, none⟩)), (165, .pointer (some ⟨Y, 0, none⟩)), (166, .slice (some ⟨P, 0, none⟩) n n), (167, .int .i64 (n : Int)), (162, .int .i64 (n : Int)), (168, .bool false), (169, .bool false), (170, .bool false), (171, .pointer (some ⟨X, 0, none⟩)), (173, .pointer (some ⟨Y, 0, none⟩)), (172, .int .i64 (s : Int)), (174, .int .i64 (s : Int)), (175, .bool false), (176, .bool false), (177, .bool false), (178, .pointer (some ⟨X, 0, none⟩)), (179, .int .i64 (k : Int)), (180, .int .i64 (kk : Int)), (182, .pointer (some ⟨Y, 0, none⟩)), (183, .int .i64 (k : Int)), (184, .int .i64 (kk : Int)), (181, .slice pc N cc), (185, .slice pd N cd)] ⟨rfl, rfl, rfl, rfl, rfl, rfl, rfl, rfl, rfl, rfl, rfl, rfl, rfl, rfl, rfl, rfl, rfl, rfl, rfl, rfl, rfl, rfl, rfl, rfl, rfl, rfl, rfl, rfl, rfl, rfl, rfl, rfl, rfl, rfl, rfl, rfl, rfl, rfl, rfl, rfl, rfl, rfl, rfl, rfl, rfl, rfl, rfl, rfl, rfl, rfl, rfl, rfl, rfl, trivial⟩ ?_
            rintro A ⟨e6, e7, e8, e10, e19, e20, e21, e22, e141, e142, e143, e144, e145, e146, e147, e148, e149, e150, e151, e152, e153, e154, e156, e155, e157, e158, e159, e160, e161, e163, e164, e165, e166, e167, e162, e168, e169, e170, e171, e173, e172, e174, e175, e176, e177, e178, e179, e180, e182, e183, e184, e181, e185, _⟩
            intro i o ho h1 h2
            rcases i with _ | i
            · cases ho; exact Or.inl ⟨wanted_none rfl, by go_simp⟩
            rcases i with _ | i
            · cases ho; exact Or.inl ⟨wanted_none rfl, by go_simp⟩
            rcases i with _ | i
            · cases ho; exact Or.inl ⟨wanted_none rfl, by go_simp⟩
            rcases i with _ | i
            · cases ho; exact Or.inl ⟨wanted_ev rfl rfl rfl (by assumption), by go_simp⟩
            rcases i with _ | i
            · cases ho; exact Or.inl ⟨wanted_ev rfl rfl rfl (by assumption), by go_simp⟩
            rcases i with _ | i
            · cases ho; exact Or.inl ⟨wanted_ev rfl rfl rfl (by assumption), by go_simp⟩
            rcases i with _ | i
            · cases ho; exact Or.inl ⟨wanted_none rfl, by go_simp⟩
            rcases i with _ | i
            · cases ho; exact Or.inl ⟨wanted_none rfl, by go_simp⟩
            rcases i with _ | i
            · cases ho; exact Or.inl ⟨wanted_ev rfl rfl rfl (by assumption), by go_simp⟩
            rcases i with _ | i
            · cases ho; exact Or.inl ⟨wanted_ev rfl rfl rfl (by assumption), by go_simp⟩
            rcases i with _ | i
            · cases ho; exact Or.inl ⟨wanted_ev rfl rfl rfl (by assumption), by go_simp⟩
            rcases i with _ | i
            · cases ho; exact Or.inl ⟨wanted_none rfl, by go_simp⟩
            rcases i with _ | i
            · cases ho; exact Or.inl ⟨wanted_none rfl, by go_simp⟩
            rcases i with _ | i
            · cases ho; exact Or.inl ⟨wanted_ev rfl rfl rfl (by assumption), by go_simp⟩
            rcases i with _ | i
            · exact absurd h1 (by decide)
            rcases i with _ | i
            · cases ho; exact Or.inl ⟨wanted_ev rfl rfl rfl (by assumption), by go_simp⟩
            rcases i with _ | i
            · exact absurd h1 (by decide)
            rcases i with _ | i
            · cases ho; exact Or.inl ⟨wanted_ev rfl rfl rfl (by assumption), by go_simp⟩
            rcases i with _ | i
            · cases ho; exact Or.inl ⟨wanted_none rfl, by go_simp⟩
            rcases i with _ | i
            · cases ho; exact Or.inl ⟨wanted_none rfl, by go_simp⟩
            rcases i with _ | i
            · cases ho; exact Or.inl ⟨wanted_ev rfl rfl rfl (by assumption), by go_simp⟩
            rcases i with _ | i
            · exact absurd h1 (by decide)
            rcases i with _ | i
            · cases ho; exact Or.inl ⟨wanted_ev rfl rfl rfl (by assumption), by go_simp⟩
            rcases i with _ | i
            · cases ho; exact Or.inl ⟨wanted_ev rfl rfl rfl (by assumption), by go_simp⟩
            rcases i with _ | i
            · cases ho; exact Or.inl ⟨wanted_ev rfl rfl rfl (by assumption), by go_simp⟩
            rcases i with _ | i
            · cases ho; exact Or.inl ⟨wanted_ev rfl rfl rfl (by assumption), by go_simp⟩
            rcases i with _ | i
            · cases ho; exact Or.inl ⟨wanted_ev rfl rfl rfl (by assumption), by go_simp⟩
            rcases i with _ | i
            · cases ho; exact Or.inl ⟨wanted_ev rfl rfl rfl (by assumption), by go_simp⟩
            rcases i with _ | i
            · cases ho; exact Or.inl ⟨wanted_none rfl, by go_simp⟩
            rcases i with _ | i
            · cases ho; exact Or.inl ⟨wanted_none rfl, by go_simp⟩
            rcases i with _ | i
            · cases ho; exact Or.inl ⟨wanted_ev rfl rfl rfl (by assumption), by go_simp⟩
            rcases i with _ | i
            · exact absurd h1 (by decide)
            rcases i with _ | i
            · cases ho; exact Or.inl ⟨wanted_ev rfl rfl rfl (by assumption), by go_simp⟩
            rcases i with _ | i
            · exact absurd h1 (by decide)
            rcases i with _ | i
            · cases ho; exact Or.inl ⟨wanted_ev rfl rfl rfl (by assumption), by go_simp⟩
            rcases i with _ | i
            · cases ho; exact Or.inl ⟨wanted_none rfl, by go_simp⟩
            rcases i with _ | i
            · cases ho; exact Or.inl ⟨wanted_none rfl, by go_simp⟩
            rcases i with _ | i
            · cases ho; exact Or.inl ⟨wanted_ev rfl rfl rfl (by assumption), by go_simp⟩
            rcases i with _ | i
            · cases ho; exact Or.inl ⟨wanted_ev rfl rfl rfl (by assumption), by go_simp⟩
            rcases i with _ | i
            · cases ho; exact Or.inl ⟨wanted_ev rfl rfl rfl (by assumption), by go_simp⟩
            rcases i with _ | i
            · exact absurd h1 (by decide)
            rcases i with _ | i
            · cases ho; exact Or.inl ⟨wanted_ev rfl rfl rfl (by assumption), by go_simp⟩
            rcases i with _ | i
            · cases ho; exact Or.inl ⟨wanted_ev rfl rfl rfl (by assumption), by go_simp⟩
            rcases i with _ | i
            · cases ho; exact Or.inl ⟨wanted_ev rfl rfl rfl (by assumption), by go_simp⟩
            rcases i with _ | i
            · exact absurd h1 (by decide)
            rcases i with _ | i
            · exact absurd h1 (by decide)
            rcases i with _ | i
            · exact absurd h2 (by decide)
            rcases i with _ | i
            · exact absurd h1 (by decide)
            cases ho
          rintro e w45 ⟨rfl, h13⟩
          refine ⟨_, rfl, [(187, .bool false)], by kernel_rfl, ?_⟩
          simp only [fills, Act.put, List.setIfInBounds_toArray, List.set_cons_zero, List.set_cons_succ]
          clear c45 h12 k0 k1 k2 k3 j0 j1 j2 j3 lE1 lE2 cP lY
          have h13 : Hid (Apt w _ [obT t, obR u, obBlk E1 30 #[.int .i64 r.k, .int .i64 r.a, .int .i64 r.x, .int .i64 r.n], obBlk E2 30 #[.int .i64 r.k, .int .i64 r.a, .int .i64 r.x, .int .i64 r.n], obV pc cc ks, obV pd cd ks]) := h13
          obtain ⟨k0, k1, k2, k3, lE1⟩ := row_cells (h13.out.all 2 _ rfl)
          obtain ⟨j0, j1, j2, j3, lE2⟩ := row_cells (h13.out.all 3 _ rfl)
          obtain ⟨cP, lY⟩ := cells.out _ (h13.out.all 1 _ rfl)
          refine flowG_only (47, []) [] (by kernel_rfl) rfl ?run (stepG_val _ (some 188) (.bool false) w45 [] rfl rfl (wanted_none rfl) (by go_simp) rfl ?_)
          case run =>
            refine runsG_hide [(6, .pointer (some ⟨X, 0, none⟩)), (7, .pointer (some ⟨Y, 0, none⟩)), (8, .int .i64 (k : Int)), (10, .bool true), (19, .pointer (some ⟨E1, 0, none⟩)), (20, .bool b), (21, .pointer (some ⟨E2, 0, none⟩)), (22, .bool b), (141, .bool true), (142, .bool false), (143, .bool false), (144, .agg #[.int .i64 r.k, .int .i64 r.a, .int .i64 r.x, .int .i64 r.n]), (145, .agg #[.int .i64 r.k, .int .i64 r.a, .int .i64 r.x, .int .i64 r.n]), (146, .bool false), (147, .bool false), (148, .bool false), (149, .bool b), (150, .bool b), (151, .bool false), (152, .bool false), (153, .bool false), (154, .pointer (some ⟨X, 0, none⟩)), (156, .pointer (some ⟨Y, 0, none⟩)), (155, .int .i64 (m : Int)), (157, .int .i64 (m : Int)), (158, .bool false), (159, .bool false), (160, .bool false), (161, .pointer (some ⟨X, 0, none⟩)), (163, .pointer (some ⟨Y, 0, none⟩)), (164, .pointer (some ⟨Y, 0, none⟩)), (165, .pointer (some ⟨Y, 0, none⟩)), (166, .slice (some ⟨P, 0, none⟩) n n), (167, .int .i64 (n : Int)), (162, .int .i64 (n : Int)), (168, .bool false), (169, .bool false), (170, .bool false), (171, .pointer (some ⟨X, 0, none⟩)), (173, .pointer (some ⟨Y, 0, none⟩)), (172, .int .i64 (s : Int)), (174, .int .i64 (s : Int)), (175, .bool false), (176, .bool false), (177, .bool false), (178, .pointer (some ⟨X, 0, none⟩)), (179, .int .i64 (k : Int)), (180, .int .i64 (kk : Int)), (182, .pointer (some ⟨Y, 0, none⟩)), (183, .int .i64 (k : Int)), (184, .int .i64 (kk : Int)), (181, .slice pc N cc), (185, .slice pd N cd), (186, .bool true), (187, .bool false)] ⟨rfl, rfl, rfl, rfl, rfl, rfl, rfl, rfl, rfl, rfl, rfl, rfl, rfl, rfl, rfl, rfl, rfl, rfl, rfl, rfl, rfl, rfl, rfl, rfl, rfl, rfl, rfl, rfl, rfl, rfl, rfl, rfl, rfl, rfl, rfl, rfl, rfl, rfl, rfl, rfl, rfl, rfl, rfl, rfl, rfl, rfl, rfl, rfl, rfl, rfl, rfl, rfl, rfl, rfl, rfl, trivial⟩ ?_
            rintro A ⟨e6, e7, e8, e10, e19, e20, e21, e22, e141, e142, e143, e144, e145, e146, e147, e148, e149, e150, e151, e152, e153, e154, e156, e155, e157, e158, e159, e160, e161, e163, e164, e165, e166, e167, e162, e168, e169, e170, e171, e173, e172, e174, e175, e176, e177, e178, e179, e180, e182, e183, e184, e181, e185, e186, e187, _⟩
            intro i o ho h1 h2
            rcases i with _ | i
            · cases ho; exact Or.inl ⟨wanted_none rfl, by go_simp⟩
            rcases i with _ | i
            · cases ho; exact Or.inl ⟨wanted_none rfl, by go_simp⟩
            rcases i with _ | i
            · cases ho; exact Or.inl ⟨wanted_none rfl, by go_simp⟩
            rcases i with _ | i
            · cases ho; exact Or.inl ⟨wanted_ev rfl rfl rfl (by assumption), by go_simp⟩
            rcases i with _ | i
            · cases ho; exact Or.inl ⟨wanted_ev rfl rfl rfl (by assumption), by go_simp⟩
            rcases i with _ | i
            · cases ho; exact Or.inl ⟨wanted_ev rfl rfl rfl (by assumption), by go_simp⟩
            rcases i with _ | i
            · cases ho; exact Or.inl ⟨wanted_none rfl, by go_simp⟩
            rcases i with _ | i
            · cases ho; exact Or.inl ⟨wanted_none rfl, by go_simp⟩
            rcases i with _ | i
            · cases ho; exact Or.inl ⟨wanted_ev rfl rfl rfl (by assumption), by go_simp⟩
            rcases i with _ | i
            · cases ho; exact Or.inl ⟨wanted_ev rfl rfl rfl (by assumption), by go_simp⟩
            rcases i with _ | i
            · cases ho; exact Or.inl ⟨wanted_ev rfl rfl rfl (by assumption), by go_simp⟩
            rcases i with _ | i
            · cases ho; exact Or.inl ⟨wanted_none rfl, by go_simp⟩
            rcases i with _ | i
            · cases ho; exact Or.inl ⟨wanted_none rfl, by go_simp⟩
            rcases i with _ | i
            · cases ho; exact Or.inl ⟨wanted_ev rfl rfl rfl (by assumption), by go_simp⟩
            rcases i with _ | i
            · exact absurd h1 (by decide)
            rcases i with _ | i
            · cases ho; exact Or.inl ⟨wanted_ev rfl rfl rfl (by assumption), by go_simp⟩
            rcases i with _ | i
            · exact absurd h1 (by decide)
            rcases i with _ | i
            · cases ho; exact Or.inl ⟨wanted_ev rfl rfl rfl (by assumption), by go_simp⟩
            rcases i with _ | i
            · cases ho; exact Or.inl ⟨wanted_none rfl, by go_simp⟩
            rcases i with _ | i
            · cases ho; exact Or.inl ⟨wanted_none rfl, by go_simp⟩
            rcases i with _ | i
            · cases ho; exact Or.inl ⟨wanted_ev rfl rfl rfl (by assumption), by go_simp⟩
            rcases i with _ | i
            · exact absurd h1 (by decide)
            rcases i with _ | i
            · cases ho; exact Or.inl ⟨wanted_ev rfl rfl rfl (by assumption), by go_simp⟩
            rcases i with _ | i
            · cases ho; exact Or.inl ⟨wanted_ev rfl rfl rfl (by assumption), by go_simp⟩
            rcases i with _ | i
            · cases ho; exact Or.inl ⟨wanted_ev rfl rfl rfl (by assumption), by go_simp⟩
            rcases i with _ | i
            · cases ho; exact Or.inl ⟨wanted_ev rfl rfl rfl (by assumption), by go_simp⟩
            rcases i with _ | i
            · cases ho; exact Or.inl ⟨wanted_ev rfl rfl rfl (by assumption), by go_simp⟩
            rcases i with _ | i
            · cases ho; exact Or.inl ⟨wanted_ev rfl rfl rfl (by assumption), by go_simp⟩
            rcases i with _ | i
            · cases ho; exact Or.inl ⟨wanted_none rfl, by go_simp⟩
            rcases i with _ | i
            · cases ho; exact Or.inl ⟨wanted_none rfl, by go_simp⟩
            rcases i with _ | i
            · cases ho; exact Or.inl ⟨wanted_ev rfl rfl rfl (by assumption), by go_simp⟩
            rcases i with _ | i
            · exact absurd h1 (by decide)
            rcases i with _ | i
            · cases ho; exact Or.inl ⟨wanted_ev rfl rfl rfl (by assumption), by go_simp⟩
            rcases i with _ | i
            · exact absurd h1 (by decide)
            rcases i with _ | i
            · cases ho; exact Or.inl ⟨wanted_ev rfl rfl rfl (by assumption), by go_simp⟩
            rcases i with _ | i
            · cases ho; exact Or.inl ⟨wanted_none rfl, by go_simp⟩
            rcases i with _ | i
            · cases ho; exact Or.inl ⟨wanted_none rfl, by go_simp⟩
            rcases i with _ | i
            · cases ho; exact Or.inl ⟨wanted_ev rfl rfl rfl (by assumption), by go_simp⟩
            rcases i with _ | i
            · cases ho; exact Or.inl ⟨wanted_ev rfl rfl rfl (by assumption), by go_simp⟩
            rcases i with _ | i
            · cases ho; exact Or.inl ⟨wanted_ev rfl rfl rfl (by assumption), by go_simp⟩
            rcases i with _ | i
            · exact absurd h1 (by decide)
            rcases i with _ | i
            · cases ho; exact Or.inl ⟨wanted_ev rfl rfl rfl (by assumption), by go_simp⟩
            rcases i with _ | i
            · cases ho; exact Or.inl ⟨wanted_ev rfl rfl rfl (by assumption), by go_simp⟩
            rcases i with _ | i
            · cases ho; exact Or.inl ⟨wanted_ev rfl rfl rfl (by assumption), by go_simp⟩
            rcases i with _ | i
            · exact absurd h1 (by decide)
            rcases i with _ | i
            · exact absurd h1 (by decide)
            rcases i with _ | i
            · cases ho; exact Or.inl ⟨wanted_ev rfl rfl rfl (by assumption), by go_simp⟩
            rcases i with _ | i
            · exact absurd h1 (by decide)
            cases ho
          simp only [fills, Act.put, List.setIfInBounds_toArray, List.set_cons_zero, List.set_cons_succ]
          refine flowG_done ?_
          first | show Exit.then _ _ Exit.normal _ _ | show Exit.inBlock _ _ Exit.normal _ _
          clear k0 k1 k2 k3 j0 j1 j2 j3 lE1 lE2 cP lY
          go_wp2
          go_roundw
          case rel => exact ⟨k + 1, t, u, by omega, by go_num, pr, h13.out.heads (l := [obT t, obR u]) (m := [obBlk E1 30 #[.int .i64 r.k, .int .i64 r.a, .int .i64 r.x, .int .i64 r.n], obBlk E2 30 #[.int .i64 r.k, .int .i64 r.a, .int .i64 r.x, .int .i64 r.n], obV pc cc ks, obV pd cd ks])⟩
          case measure => simp [intOf]; omega
      · obtain rfl : k = len1 := by omega
        have hd : decide ((k : Int) < (k : Int)) = false := by rw [decide_eq_false_iff_not]; omega
        clear hkk
        have hpX := pr.out.X
        have hpY := pr.out.Y
        have hD6 : t.D.length ≤ 1000000 := Nat.le_trans pr.out.D (by omega)
        obtain ⟨e1, _, _⟩ := both_len hx.out (i := 0) rfl pr.out
        have al : Hid (∀ W L, Apt w W L → L[0]? = some (obT t) → Calls Try.prog 26 #[.pointer (some ⟨X, 0, none⟩)] W fun o w' => ∃ p c q, o = .returned (.slice p q.length c) ∧ Apt w w' (L ++ [obE p c q]) ∧ q.Perm t.es ∧ q.Pairwise (fun a b => a.k < b.k)) := fun W L h hi => all_e h hi hpX (by rw [← es_len]; exact hD6)
        have ral : Hid (∀ W L q, Apt w W L → L[0]? = some (obT t) → L[1]? = some (obR u) → q.Perm t.es → q.Pairwise (fun a b => a.k < b.k) → Calls Try.prog 28 #[.pointer (some ⟨Y, 0, none⟩)] W fun o w' => ∃ p c, o = .returned (.slice p q.length c) ∧ Hid (Apt w w' (L ++ [obE p c q]))) := fun W L q h hi hj h1 h2 => by
          refine (rall_s h hj hpY pr.out.h (by rw [e1]; exact hD6)).mono ?_
          rintro o w' ⟨p, c, q2, rfl, h3, h4, h5⟩
          have := both_all h hi pr.out h1 h2 h4.out h5.out
          subst this
          exact ⟨p, c, rfl, h3⟩
        have cm : Hid (∀ W L, Apt w W L → L[0]? = some (obT t) → Calls Try.prog 24 #[.pointer (some ⟨X, 0, none⟩), .int .i64 (-1)] W fun e w' => e = .returned (.slice none 0 0) ∧ w' = W) := fun W L h hi => by
          have := chain_no h hi (-1) (.inl (by decide))
          unfold ptr at this
          rw [hpX] at this
          exact this
        have hq6 : Hid (∀ q : List En, q.Perm t.es → q.length ≤ 1000000) := fun q hq => by
          rw [hq.length_eq, ← es_len]; exact hD6
        clear hpX hpY hD6 e1
        go_wp2_with (first
          | (go_at_call 26; refine (al.out _ _ hx.out rfl).mono ?_; rintro o w2 ⟨p1, c1, q1, rfl, h2, hp1, hs1⟩; clear hx; have h2 : Hid (Apt w w2 [obT t, obR u, obE p1 c1 q1]) := h2; have hp1 : Hid (q1.Perm t.es) := hp1; have hs1 : Hid (q1.Pairwise (fun a b => a.k < b.k)) := hs1; have rl := ral.out _ _ q1 h2.out rfl rfl hp1.out hs1.out)
          | (go_at_call 28; refine rl.mono ?_; clear rl; rintro o w3 ⟨p2, c2, rfl, h3⟩; clear h2; have h3 : Hid (Apt w w3 [obT t, obR u, obE p1 c1 q1, obE p2 c2 q1]) := h3; have sm := same_s h3.out (i := 2) (j := 3) rfl rfl (hq6.out _ hp1.out))
          | (go_at_call 27; refine sm.mono ?_; clear sm; rintro o w4 ⟨rfl, h4⟩; clear h3; have h4 : Hid (Apt w w4 [obT t, obR u, obE p1 c1 q1, obE p2 c2 q1]) := h4))
        obtain ⟨N, hN⟩ : ∃ N, Hid (q1.length = N) := ⟨_, rfl⟩
        have hN6 : N ≤ 1000000 := by rw [← hN.out]; exact hq6.out _ hp1.out
        rw [hN.out]
        have h5 : Hid (Apt w w4 [obT t, obR u, obA p1 N c1 (enL q1)]) := by
          have : Apt w w4 [obT t, obR u, obE p1 c1 q1] := h4.out.front
          unfold obE at this
          rw [hN.out] at this
          exact this
        clear h4 hN
        go_loopw [25] (fun jv wr => ∃ (j : Nat) (f : Nat → Value), j ≤ N ∧ jv = .int .i64 (j : Int) ∧ Hid (Apt w wr [obT t, obR u, obA p1 N c1 f])) (fun jv _ => N - (intOf jv).toNat)
        case atStart => exact ⟨0, _, Nat.zero_le _, rfl, h5⟩
        case round =>
          clear h5
          obtain ⟨j, f, hj, rfl, h5⟩ := hrel
          by_cases hjn : j < N
          · have hd3 : decide ((j : Int) < (N : Int)) = true := by rw [decide_eq_true_eq]; omega
            have hjI : (j : Int) < (N : Int) := by omega
            have vA : Vec wr 30 4 p1 N c1 f := h5.out.all 2 _ rfl
            obtain ⟨B, rfl, lB, hcA, hfz, hcn⟩ := vA.opens (by omega)
            have cB := hcA (j * 4) (by omega)
            have fB := hfz (j * 4)
            have h6 : Hid (Apt w (wr.setCell ⟨B, j * 4, none⟩ (.int .i64 (-7))) [obT t, obR u, obA (some ⟨B, 0, none⟩) N c1 (fun x => if x = j * 4 then .int .i64 (-7) else f x)]) := set_a h5.out (i := 2) rfl (j * 4) (.int .i64 (-7))
            clear hcA hfz hcn vA h5
            go_wp2
            go_roundw
            case rel => exact ⟨j + 1, _, by omega, by go_num, h6⟩
            case measure => simp [intOf]; omega
          · obtain rfl : j = N := by omega
            have hd3 : decide ((j : Int) < (j : Int)) = false := by rw [decide_eq_false_iff_not]; omega
            have hz : ((0 : Int) == 0) = true := by decide
            clear hp1 hs1
            go_wp2_with (first
              | (go_at_call 26; refine (al.out _ _ h5.out rfl).mono ?_; rintro o w6 ⟨p6, c6, q6, rfl, h6, hp6, hs6⟩; clear h5; have h6 : Hid (Apt w w6 [obT t, obR u, obA p1 j c1 f, obE p6 c6 q6]) := h6; have hp6 : Hid (q6.Perm t.es) := hp6; have hs6 : Hid (q6.Pairwise (fun a b => a.k < b.k)) := hs6; have rl := ral.out _ _ q6 h6.out rfl rfl hp6.out hs6.out)
              | (go_at_call 28; refine rl.mono ?_; clear rl; rintro o w7 ⟨p7, c7, rfl, h7⟩; clear h6; have h7 : Hid (Apt w w7 [obT t, obR u, obA p1 j c1 f, obE p6 c6 q6, obE p7 c7 q6]) := h7; have sm := same_s h7.out (i := 3) (j := 4) rfl rfl (hq6.out _ hp6.out))
              | (go_at_call 27; refine sm.mono ?_; clear sm; rintro o w8 ⟨rfl, h8⟩; clear h7; have cm1 := cm.out _ _ h8.out rfl)
              | (go_at_call 24; refine cm1.mono ?_; clear cm1; rintro o w9 ⟨rfl, hw⟩; have hw := hw.symm; subst hw))
            go_ret
            exact ⟨rfl, h8.out.grown⟩

/-! ### The row's step -/
set_option maxRecDepth 100000 in
theorem lifted (os : Os) (started : os.Started) (H : Type) (enc : TypeId × Value → H) :
    ReturnsInHanded {} Try.checked os 3 .any (Rows.tablePlaysSpec.pre6 enc Try.prog Try.f3 Rows.tablePlaysRow.domain false) (Rows.tablePlaysSpec.post enc Try.prog Try.f3 false true false false) := by
  refine returnsInHanded_of_change (C := Try.checked) own started (by kernel_rfl) Try.func3
    (ChangeSpec.witness6 (enc := enc) (C := Try.checked) false ⟨#[], #[.int .i64 0, .slice none 0 0], []⟩ 8 (by kernel_rfl) (by kernel_rfl) (by kernel_rfl) (by kernel_rfl)) ?_
  intro W base args ds gs before hval0 hW hcnd _
  have hval : ∀ (j : Nat) t v, Try.f3.params[j]? = some t → args[j]? = some v → Value.okWide Try.prog W .any base t v := hval0
  have hW' := hW
  obtain ⟨p, q, hA0, hV, rfl, hfz, hnd⟩ := hW
  have hA : DataW.TrodAll enc Try.prog W 0 (fun _ => true) true Try.f3.params.toList args.toList ds p := hA0
  rw [Try.params3] at hA hval
  obtain ⟨v0, vs0, d0, ds0, p0, q0, hargs, rfl, rfl, h0, r0⟩ := trodAll_cons hA
  obtain ⟨v1, vs1, d1, ds1, p1, q1, rfl, rfl, rfl, h1, r1⟩ := trodAll_cons r0
  obtain ⟨rfl, rfl, rfl⟩ := trodAll_nil r1
  obtain rfl : args = #[v0, v1] := by cases args; simp_all
  obtain ⟨rfl, rfl⟩ := trodVars_none hV
  obtain ⟨a0, rfl, rfl, rfl, w0⟩ := open_int Try.underlying3 (hval 0 3 v0 rfl rfl) h0
  obtain ⟨a1, len1, cap1, rfl⟩ := okWide_slice Try.underlying22 (hval 1 22 v1 rfl rfl)
  have k1 := h1
  have lt1 : ∀ x ∈ p1, x.block < W.heap.size := by obtain ⟨m, hm⟩ := k1; exact DataW.trod_lt m _ _ _ hm
  obtain ⟨z1, w1⟩ := open_grid Try.underlying22 Try.underlying28 Try.underlying3 (by kernel_rfl) (by kernel_rfl) h1
  clear hA0 hval0
  refine (walk a0 a1 len1 cap1 z1 W w0 w1).mono fun e W' ⟨he, bel⟩ => ?_
  subst he
  exact ⟨_, rfl, _, _, _, [], _, [], hW', trodAll_mk1 (shut_bool Try.underlying4 _), (trodAll_cons_mk (shut_int Try.underlying3 w0) (trodAll_cons_mk (grown_trod laidOut (by kernel_rfl) (of_decide_eq_true (by kernel_rfl)) k1 bel lt1) trodAll_mk0)), rfl, bel.frame _, fun h => by cases h⟩

theorem over : Rows.tablePlaysRow.holds Try.pinned (OpenSpec.ofChange Rows.tablePlaysSpec) :=
  OpenClaim.holds_of_wide 3 Try.f3 rfl rfl rfl rfl rfl rfl rfl ⟨rfl, rfl, rfl, rfl, rfl⟩ rfl rfl rfl rfl rfl (by kernel_rfl) Try.func3 (by kernel_rfl)
    (of_decide_eq_true (by kernel_rfl)) (by unfold Func.isWrapper; first | (rw [if_pos (by decide +kernel)]; kernel_rfl) | (rw [if_neg (by decide +kernel)]; exact ⟨rfl, rfl⟩))
    (fun os started H enc _ => lifted os started H enc)

/-- The statement. -/
theorem proved : Rows.TablePlaysSaid := over
end Go.Proofs.Ythjcdloaclailaa.tablePlays

namespace Go.Proofs.Ythjcdloaclailaa
/-- The given statement. -/
theorem tablePlays_holds : Rows.TablePlaysSaid := tablePlays.proved
#print axioms tablePlays_holds
end Go.Proofs.Ythjcdloaclailaa
