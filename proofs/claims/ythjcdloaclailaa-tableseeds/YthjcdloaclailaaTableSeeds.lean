/-
  Proved: pantrylaw15.TableSeeds returns true for every two seeds and every slice of steps: what a table holds does not hang on its seed, nor how many buckets it has (P15.5). No condition.
-/
import Derived.Test.YthjcdloaclailaaRows
import Derived.WalkKit
import Derived.ProofKit
import Derived.OpenShut
import Derived.Test.YthjcdloaclailaaTbSmall
import Derived.Test.YthjcdloaclailaaTbRows
import Derived.Test.YthjcdloaclailaaGenCell
import Derived.BigQuiet
import Derived.ShutString
import Derived.ChangeOld
import Derived.Below
import Derived.Test.YthjcdloaclailaaGenArgs
namespace Go.Proofs.Ythjcdloaclailaa.tableSeeds
open Go.ChangeShapes Go.WideShapes Go.ChangeAt Go.RowKit
set_option linter.unusedVariables false

theorem own : ownKnob Try.prog.godebug = none := by kernel_rfl
theorem laidOut : laidOutB Try.prog = true := by kernel_rfl

/-! ### The walk: the law returns true, and writes nothing that was there -/
open Go.Proofs.Ythjcdloaclailaa.Us Go.Proofs.Ythjcdloaclailaa.Tb in set_option maxRecDepth 20000 in set_option maxHeartbeats 16000000 in
theorem walk (a0 : Int) (a1 : Int) (a2 : Option Addr) (len2 cap2 : Nat) (z2 : Nat → Nat → Int) (w : World) (w0 : (Lit.int .i64 a0).wf = true) (w1 : (Lit.int .i64 a1).wf = true) (w2 : IsGrid .i64 3 w a2 len2 cap2 z2) :
    Calls Try.prog 6 #[.int .i64 a0, .int .i64 a1, .slice a2 len2 cap2] w fun e w' => e = .returned (.bool true) ∧ Grown w w' := by
  have hk1 := grid_open (by decide) w2
  clear w0 w1 w2
  have nw := fun (w1 : World) (g : Grown w w1) => new_e a0 (Apt.none g)
  have nv := fun (t : Tab) (w1 : World) (h : Apt w w1 [obT t]) => new_e a1 h
  by_cases hl : 200 < len2
  · clear hk1
    have d1 : decide (200 < (len2 : Int)) = true := by rw [decide_eq_true_eq]; omega
    go_enter Try.func6, Try.ntmps6
    go_wp2_with (first | (go_at_call 9; refine (Tb.small_s _).mono ?_; rintro e ws ⟨rfl, hgs⟩) | (go_at_call 10; refine (nw _ hgs).mono ?_; rintro e wx ⟨t, rfl, hx, tx⟩; clear nw hgs; have tx : Hid _ := tx; have hx : Hid (Apt w wx [obT t]) := hx; obtain ⟨X, hX⟩ : ∃ X, Hid (t.X = X) := ⟨_, rfl⟩; rw [hX.out]; unfold ptr) | (go_at_call 10; refine (nv _ _ hx.out).mono ?_; rintro e wy ⟨t', rfl, hy, ty⟩; clear nv hx; have ty : Hid _ := ty; have hy : Hid (Apt w wy [obT t, obT t']) := hy; obtain ⟨Y, hY⟩ : ∃ Y, Hid (t'.X = Y) := ⟨_, rfl⟩; rw [hY.out]; unfold ptr))
    go_ret
    exact ⟨rfl, hy.out.grown⟩
  · have d1 : decide (200 < (len2 : Int)) = false := by rw [decide_eq_false_iff_not]; omega
    have hlen : len2 ≤ 200 := by omega
    have hkk : ∀ k, k < len2 → ∃ kb off, a2 = some ⟨kb, off, none⟩ ∧ ∀ W, Grown w W → kb < W.heap.size ∧ W.cell? ⟨kb, off + k * 3, none⟩ = some (.int .i64 (z2 k 0)) ∧ W.cell? ⟨kb, off + k * 3 + 1, none⟩ = some (.int .i64 (z2 k 1)) ∧ W.cell? ⟨kb, off + k * 3 + 2, none⟩ = some (.int .i64 (z2 k 2)) := fun k hlt => by
      rcases hk1 with h | ⟨kb, off, h1, h2, h3⟩
      · omega
      · exact ⟨kb, off, h1, fun W g => ⟨Nat.lt_of_lt_of_le h2 g.2.2, keys_cell (h3 k hlt 0 (by decide)) h2 g, by have := keys_cell (h3 k hlt 1 (by decide)) h2 g; rwa [← Nat.add_assoc] at this, by have := keys_cell (h3 k hlt 2 (by decide)) h2 g; rwa [← Nat.add_assoc] at this⟩⟩
    clear hk1 hl
    go_enter Try.func6, Try.ntmps6
    go_wp2_with (first | (go_at_call 9; refine (Tb.small_s _).mono ?_; rintro e ws ⟨rfl, hgs⟩) | (go_at_call 10; refine (nw _ hgs).mono ?_; rintro e wx ⟨t, rfl, hx, tx⟩; clear nw hgs; have tx : Hid _ := tx; have hx : Hid (Apt w wx [obT t]) := hx; obtain ⟨X, hX⟩ : ∃ X, Hid (t.X = X) := ⟨_, rfl⟩; rw [hX.out]; unfold ptr) | (go_at_call 10; refine (nv _ _ hx.out).mono ?_; rintro e wy ⟨t', rfl, hy, ty⟩; clear nv hx; have ty : Hid _ := ty; have hy : Hid (Apt w wy [obT t, obT t']) := hy; obtain ⟨Y, hY⟩ : ∃ Y, Hid (t'.X = Y) := ⟨_, rfl⟩; rw [hY.out]; unfold ptr))
    have hsm0 : Hid (t'.es = t.es ∧ t'.n = t.n ∧ t'.l = t.l) := ⟨by rw [ty.out.1, tx.out.1], by rw [ty.out.2.1, tx.out.2.1], by rw [ty.out.2.2.1, tx.out.2.2.1]⟩
    have hle0 : Hid (t.es.length ≤ 0) := by rw [tx.out.1]; exact Nat.le_refl _
    clear tx ty
    go_loopw [10, 11, 12, 13, 14, 15, 16, 17, 18] (fun i _ _ _ _ _ _ _ _ wr => ∃ (k : Nat) (u v : Tab), k ≤ len2 ∧ i = .int .i64 (k : Int) ∧ Hid (u.X = X) ∧ Hid (v.X = Y) ∧ Hid (u.es.length ≤ k) ∧ Hid (v.es = u.es ∧ v.n = u.n ∧ v.l = u.l) ∧ Hid (Apt w wr [obT u, obT v])) (fun i _ _ _ _ _ _ _ _ _ => len2 - (intOf i).toNat)
    case atStart => exact ⟨0, t, t', by omega, rfl, hX, hY, hle0, hsm0, hy⟩
    case round =>
      clear hy hX hY hsm0 hle0
      obtain ⟨k, u, v, hk, rfl, hX, hY, hle, hsm, hx⟩ := hrel
      by_cases hlt : k < len2
      · have hd : decide ((k : Int) < (len2 : Int)) = true := by rw [decide_eq_true_eq]; omega
        obtain ⟨kb, off, rfl, ck⟩ := hkk k hlt
        obtain ⟨z, hz⟩ : ∃ z, z = z2 k 0 := ⟨_, rfl⟩
        obtain ⟨y, hy⟩ : ∃ y, y = z2 k 1 := ⟨_, rfl⟩
        obtain ⟨x, hxx⟩ : ∃ x, x = z2 k 2 := ⟨_, rfl⟩
        rw [← hz, ← hy, ← hxx] at ck
        have ck : Hid (∀ W, Grown w W → kb < W.heap.size ∧ W.cell? ⟨kb, off + k * 3, none⟩ = some (.int .i64 z) ∧ W.cell? ⟨kb, off + k * 3 + 1, none⟩ = some (.int .i64 y) ∧ W.cell? ⟨kb, off + k * 3 + 2, none⟩ = some (.int .i64 x)) := ck
        obtain ⟨lk, ck0, ck1, ck2⟩ := ck.out _ hx.out.grown
        clear hz hy hxx hkk
        have kn : (k : Int) < (len2 : Int) := by omega
        have hm : Hid (u.es.length ≤ 1000000) := by have := hle.out; show _ ≤ _; omega
        have hm2 : Hid (v.es.length ≤ 1000000) := by rw [hsm.out.1]; exact hm
        rcases es_or u.es y with ⟨r, hr1⟩ | hn1
        · have hr : Hid (r ∈ u.es ∧ r.k = y) := hr1
          have hr2 : Hid (r ∈ v.es ∧ r.k = y) := by rw [hsm.out.1]; exact hr1
          clear hr1
          by_cases e3 : bits .and .i64 z 3 = 3
          · have h33 : (bits .and .i64 z 3 == 3) = true := by simp [e3]
            clear e3
            have pt := rem_there hx.out (i := 0) rfl hX.out y hr.out hm.out
            clear lk
            obtain ⟨lk, ck0, ck1, ck2⟩ := ck.out _ hx.out.grown
            go_wp2_with (first
              | (go_at_call 14; refine pt.mono ?_; rintro e w2 ⟨t2, rfl, hX2, h2, he2, hn2, hl2⟩; clear pt ck0 ck1 ck2 lk hx; have h3 : Hid (Apt w (w2.alloc (.cells #[.int .i64 r.k, .int .i64 r.a, .int .i64 r.x, .int .i64 r.n] 30)) [obT t2, obT v, obBlk w2.heap.size 30 #[.int .i64 r.k, .int .i64 r.a, .int .i64 r.x, .int .i64 r.n]]) := en_block h2.out _ _; clear h2; obtain ⟨lk, ck0, ck1, ck2⟩ := ck.out _ h3.out.grown; have pt2 := rem_there h3.out (i := 1) rfl hY.out y hr2.out hm2.out)
              | (go_at_call 14; refine pt2.mono ?_; rintro e w4 ⟨t3, rfl, hY2, h4, he3, hn3, hl3⟩; clear pt2 ck0 ck1 ck2 lk h3; have h5 : Hid (Apt w (w4.alloc (.cells #[.int .i64 r.k, .int .i64 r.a, .int .i64 r.x, .int .i64 r.n] 30)) [obT t2, obT t3, obBlk w2.heap.size 30 #[.int .i64 r.k, .int .i64 r.a, .int .i64 r.x, .int .i64 r.n], obBlk w4.heap.size 30 #[.int .i64 r.k, .int .i64 r.a, .int .i64 r.x, .int .i64 r.n]]) := en_block h4.out _ _; clear h4; have d1 : (w4.alloc (.cells #[.int .i64 r.k, .int .i64 r.a, .int .i64 r.x, .int .i64 r.n] 30)).heap[w2.heap.size]? = some (.cells #[.int .i64 r.k, .int .i64 r.a, .int .i64 r.x, .int .i64 r.n] 30 (0, 0)) := h5.out.all 2 _ rfl; have d2 : (w4.alloc (.cells #[.int .i64 r.k, .int .i64 r.a, .int .i64 r.x, .int .i64 r.n] 30)).heap[w4.heap.size]? = some (.cells #[.int .i64 r.k, .int .i64 r.a, .int .i64 r.x, .int .i64 r.n] 30 (0, 0)) := h5.out.all 3 _ rfl; have e2 := lt_of d1; have e4 := lt_of d2)
              | (refine wpList_load_en rfl (.tmp 11) rfl w2.heap.size rfl d1 ?_) | (refine wpList_load_en rfl (.tmp 13) rfl w4.heap.size rfl d2 ?_))
            go_roundw
            case rel => exact ⟨k + 1, t2, t3, by omega, by go_num, hX2, hY2, by show _ ≤ _; have := hle.out; rw [he2.out]; have := dlt_le y u.es; omega, ⟨by rw [he3.out, he2.out, hsm.out.1], by rw [hn3.out, hn2.out, hsm.out.2.1], by rw [hl3.out, hl2.out, hsm.out.2.2]⟩, h5.out.front.front⟩
            case measure => simp [intOf]; omega
          · have h33 : (bits .and .i64 z 3 == 3) = false := by simp [e3]
            clear e3
            go_wp2
            clear lk ck0 ck1 ck2
            refine region_cell (w0 := w) (c := 12) (sc := 98) (sm := 85) (s0 := 99) (s1 := 100) (sr := 15) (sd := 16) (T := 30) (R := #[.int .i64 r.k, .int .i64 r.a, .int .i64 r.x, .int .i64 r.n]) (Z := #[.int .i64 0, .int .i64 0, .int .i64 0, .int .i64 0]) (b := true) (f := 12) (args := #[.pointer (some ⟨X, 0, none⟩), .agg #[.int .i64 y, .int .i64 x, .int .i64 0, .int .i64 0]]) (L := [obT u, obT v])
              (fun (t2 : Tab) => Hid (t2.X = X) ∧ Hid (t2.es = u.es.map (ovr ⟨y, x, 0, 0⟩)) ∧ Hid (t2.n = u.n) ∧ Hid (t2.l = u.l - 1)) (fun t2 => [obT t2, obT v]) [(86, .pointer (some ⟨X, 0, none⟩)), (87, .slice (some ⟨kb, off, none⟩) len2 cap2), (88, .int .i64 (k : Int)), (89, .pointer (some ⟨kb, off + k * 3, none⟩)), (90, .pointer (some ⟨kb, off + k * 3 + 1, none⟩)), (91, .int .i64 y), (92, .slice (some ⟨kb, off, none⟩) len2 cap2), (93, .int .i64 (k : Int)), (94, .pointer (some ⟨kb, off + k * 3, none⟩)), (95, .pointer (some ⟨kb, off + k * 3 + 2, none⟩)), (96, .int .i64 x), (97, .agg #[.int .i64 y, .int .i64 x, .int .i64 0, .int .i64 0])] [(8, .pointer (some ⟨X, 0, none⟩)), (2, .slice (some ⟨kb, off, none⟩) len2 cap2), (10, .int .i64 (k : Int)), (86, .pointer (some ⟨X, 0, none⟩)), (87, .slice (some ⟨kb, off, none⟩) len2 cap2), (88, .int .i64 (k : Int)), (89, .pointer (some ⟨kb, off + k * 3, none⟩)), (90, .pointer (some ⟨kb, off + k * 3 + 1, none⟩)), (91, .int .i64 y), (92, .slice (some ⟨kb, off, none⟩) len2 cap2), (93, .int .i64 (k : Int)), (94, .pointer (some ⟨kb, off + k * 3, none⟩)), (95, .pointer (some ⟨kb, off + k * 3 + 2, none⟩)), (96, .int .i64 x), (97, .agg #[.int .i64 y, .int .i64 x, .int .i64 0, .int .i64 0])] hmx ⟨⟨_, rfl, rfl⟩, ⟨_, rfl, rfl, rfl⟩, ⟨_, rfl, rfl, rfl⟩, ⟨_, rfl, rfl, rfl⟩, ⟨_, rfl, rfl, rfl⟩, ⟨_, rfl, rfl, rfl⟩, ⟨_, rfl, rfl, rfl⟩, rfl, by decide⟩ (by kernel_rfl) (by kernel_rfl) (by kernel_rfl) ?hk (by kernel_rfl) sizeEn rfl (by simp [Value.oneCell']) ?runs ?hcl ?hal (hx.out) ?hcall ?_
            case hk =>
              simp only [fills, Act.put, List.setIfInBounds_toArray, List.set_cons_zero, List.set_cons_succ]
              exact ⟨rfl, rfl, rfl, rfl, rfl, rfl, rfl, rfl, rfl, rfl, rfl, rfl, rfl, rfl, rfl, trivial⟩
            case runs =>
              rintro A W ⟨e8, e2, e10, e86, e87, e88, e89, e90, e91, e92, e93, e94, e95, e96, e97, _⟩ g
              obtain ⟨lk, ck0, ck1, ck2⟩ := ck.out W g
              clear ck
              intro i o ho hi
              iterate 19 (rcases i with _ | i; · first | (exact absurd hi (by decide)) | (cases ho; go_simp; done))
              cases ho
            case hcl =>
              rintro o ho A W ⟨e8, e2, e10, e86, e87, e88, e89, e90, e91, e92, e93, e94, e95, e96, e97, _⟩
              cases ho
              go_simp
            case hal =>
              intro o ho A W
              cases ho
              go_simp
            case hcall =>
              intro l2 W1 g1
              refine (put_there g1 (i := 0) rfl hX.out ⟨y, x, 0, 0⟩ hr.out).mono ?_
              rintro e w2 ⟨t2, rfl, hX2, h2, he2, hn2, hl2⟩
              exact ⟨rfl, t2, ⟨hX2, he2, hn2, hl2⟩, h2⟩
            clear hx
            rintro t2 w2 E2 ⟨hX2, he2, hn2, hl2⟩ h3
            have h3 : Hid (Apt w w2 [obT t2, obT v, obBlk E2 30 #[.int .i64 r.k, .int .i64 r.a, .int .i64 r.x, .int .i64 r.n]]) := h3
            first | show Exit.then _ _ Exit.normal _ _ | show Exit.inBlock _ _ Exit.normal _ _
            simp only [parts, fills, Act.put, List.setIfInBounds_toArray, List.set_cons_zero, List.set_cons_succ]
            go_wp2
            refine region_cell (w0 := w) (c := 12) (sc := 114) (sm := 101) (s0 := 115) (s1 := 116) (sr := 17) (sd := 18) (T := 30) (R := #[.int .i64 r.k, .int .i64 r.a, .int .i64 r.x, .int .i64 r.n]) (Z := #[.int .i64 0, .int .i64 0, .int .i64 0, .int .i64 0]) (b := true) (f := 12) (args := #[.pointer (some ⟨Y, 0, none⟩), .agg #[.int .i64 y, .int .i64 x, .int .i64 0, .int .i64 0]]) (L := [obT t2, obT v, obBlk E2 30 #[.int .i64 r.k, .int .i64 r.a, .int .i64 r.x, .int .i64 r.n]])
              (fun (t3 : Tab) => Hid (t3.X = Y) ∧ Hid (t3.es = v.es.map (ovr ⟨y, x, 0, 0⟩)) ∧ Hid (t3.n = v.n) ∧ Hid (t3.l = v.l - 1)) (fun t3 => [obT t2, obT t3, obBlk E2 30 #[.int .i64 r.k, .int .i64 r.a, .int .i64 r.x, .int .i64 r.n]]) [(102, .pointer (some ⟨Y, 0, none⟩)), (103, .slice (some ⟨kb, off, none⟩) len2 cap2), (104, .int .i64 (k : Int)), (105, .pointer (some ⟨kb, off + k * 3, none⟩)), (106, .pointer (some ⟨kb, off + k * 3 + 1, none⟩)), (107, .int .i64 y), (108, .slice (some ⟨kb, off, none⟩) len2 cap2), (109, .int .i64 (k : Int)), (110, .pointer (some ⟨kb, off + k * 3, none⟩)), (111, .pointer (some ⟨kb, off + k * 3 + 2, none⟩)), (112, .int .i64 x), (113, .agg #[.int .i64 y, .int .i64 x, .int .i64 0, .int .i64 0])] [(9, .pointer (some ⟨Y, 0, none⟩)), (2, .slice (some ⟨kb, off, none⟩) len2 cap2), (10, .int .i64 (k : Int)), (102, .pointer (some ⟨Y, 0, none⟩)), (103, .slice (some ⟨kb, off, none⟩) len2 cap2), (104, .int .i64 (k : Int)), (105, .pointer (some ⟨kb, off + k * 3, none⟩)), (106, .pointer (some ⟨kb, off + k * 3 + 1, none⟩)), (107, .int .i64 y), (108, .slice (some ⟨kb, off, none⟩) len2 cap2), (109, .int .i64 (k : Int)), (110, .pointer (some ⟨kb, off + k * 3, none⟩)), (111, .pointer (some ⟨kb, off + k * 3 + 2, none⟩)), (112, .int .i64 x), (113, .agg #[.int .i64 y, .int .i64 x, .int .i64 0, .int .i64 0])] hmx ⟨⟨_, rfl, rfl⟩, ⟨_, rfl, rfl, rfl⟩, ⟨_, rfl, rfl, rfl⟩, ⟨_, rfl, rfl, rfl⟩, ⟨_, rfl, rfl, rfl⟩, ⟨_, rfl, rfl, rfl⟩, ⟨_, rfl, rfl, rfl⟩, rfl, by decide⟩ (by kernel_rfl) (by kernel_rfl) (by kernel_rfl) ?hk (by kernel_rfl) sizeEn rfl (by simp [Value.oneCell']) ?runs ?hcl ?hal (h3.out) ?hcall ?_
            case hk =>
              simp only [fills, Act.put, List.setIfInBounds_toArray, List.set_cons_zero, List.set_cons_succ]
              exact ⟨rfl, rfl, rfl, rfl, rfl, rfl, rfl, rfl, rfl, rfl, rfl, rfl, rfl, rfl, rfl, trivial⟩
            case runs =>
              rintro A W ⟨e9, e2, e10, e102, e103, e104, e105, e106, e107, e108, e109, e110, e111, e112, e113, _⟩ g
              obtain ⟨lk, ck0, ck1, ck2⟩ := ck.out W g
              clear ck
              intro i o ho hi
              iterate 19 (rcases i with _ | i; · first | (exact absurd hi (by decide)) | (cases ho; go_simp; done))
              cases ho
            case hcl =>
              rintro o ho A W ⟨e9, e2, e10, e102, e103, e104, e105, e106, e107, e108, e109, e110, e111, e112, e113, _⟩
              cases ho
              go_simp
            case hal =>
              intro o ho A W
              cases ho
              go_simp
            case hcall =>
              intro l2 W1 g1
              refine (put_there g1 (i := 1) rfl hY.out ⟨y, x, 0, 0⟩ hr2.out).mono ?_
              rintro e w4 ⟨t3, rfl, hY2, h4, he3, hn3, hl3⟩
              exact ⟨rfl, t3, ⟨hY2, he3, hn3, hl3⟩, h4⟩
            clear h3
            rintro t3 w4 E4 ⟨hY2, he3, hn3, hl3⟩ h5
            have h5 : Hid (Apt w w4 [obT t2, obT t3, obBlk E2 30 #[.int .i64 r.k, .int .i64 r.a, .int .i64 r.x, .int .i64 r.n], obBlk E4 30 #[.int .i64 r.k, .int .i64 r.a, .int .i64 r.x, .int .i64 r.n]]) := h5
            first | show Exit.then _ _ Exit.normal _ _ | show Exit.inBlock _ _ Exit.normal _ _
            simp only [parts, fills, Act.put, List.setIfInBounds_toArray, List.set_cons_zero, List.set_cons_succ]
            have d1 : w4.heap[E2]? = some (.cells #[.int .i64 r.k, .int .i64 r.a, .int .i64 r.x, .int .i64 r.n] 30 (0, 0)) := h5.out.all 2 _ rfl
            have d2 : w4.heap[E4]? = some (.cells #[.int .i64 r.k, .int .i64 r.a, .int .i64 r.x, .int .i64 r.n] 30 (0, 0)) := h5.out.all 3 _ rfl
            have e2 := lt_of d1
            have e4 := lt_of d2
            go_wp2_with (first | (refine wpList_load_en rfl (.tmp 15) rfl E2 rfl d1 ?_) | (refine wpList_load_en rfl (.tmp 17) rfl E4 rfl d2 ?_))
            go_roundw
            case rel => exact ⟨k + 1, t2, t3, by omega, by go_num, hX2, hY2, by show _ ≤ _; have := hle.out; rw [he2.out, map_len]; omega, ⟨by rw [he3.out, he2.out, hsm.out.1], by rw [hn3.out, hn2.out, hsm.out.2.1], by rw [hl3.out, hl2.out, hsm.out.2.2]⟩, h5.out.front.front⟩
            case measure => simp [intOf]; omega
        · have hno : Hid (∀ r ∈ u.es, r.k ≠ y) := hn1
          have hno2 : Hid (∀ r ∈ v.es, r.k ≠ y) := by rw [hsm.out.1]; exact hn1
          clear hn1
          by_cases e3 : bits .and .i64 z 3 = 3
          · have h33 : (bits .and .i64 z 3 == 3) = true := by simp [e3]
            clear e3
            have pt := rem_none hx.out (i := 0) rfl hX.out y hno.out
            clear lk
            obtain ⟨lk, ck0, ck1, ck2⟩ := ck.out _ hx.out.grown
            go_wp2_with (first
              | (go_at_call 14; refine pt.mono ?_; rintro e w2 ⟨t2, rfl, hX2, h2, he2, hn2, hl2⟩; clear pt ck0 ck1 ck2 lk hx; have h3 : Hid (Apt w (w2.alloc (.cells #[.int .i64 0, .int .i64 0, .int .i64 0, .int .i64 0] 30)) [obT t2, obT v, obBlk w2.heap.size 30 #[.int .i64 0, .int .i64 0, .int .i64 0, .int .i64 0]]) := en_block h2.out _ _; clear h2; obtain ⟨lk, ck0, ck1, ck2⟩ := ck.out _ h3.out.grown; have pt2 := rem_none h3.out (i := 1) rfl hY.out y hno2.out)
              | (go_at_call 14; refine pt2.mono ?_; rintro e w4 ⟨t3, rfl, hY2, h4, he3, hn3, hl3⟩; clear pt2 ck0 ck1 ck2 lk h3; have h5 : Hid (Apt w (w4.alloc (.cells #[.int .i64 0, .int .i64 0, .int .i64 0, .int .i64 0] 30)) [obT t2, obT t3, obBlk w2.heap.size 30 #[.int .i64 0, .int .i64 0, .int .i64 0, .int .i64 0], obBlk w4.heap.size 30 #[.int .i64 0, .int .i64 0, .int .i64 0, .int .i64 0]]) := en_block h4.out _ _; clear h4; have d1 : (w4.alloc (.cells #[.int .i64 0, .int .i64 0, .int .i64 0, .int .i64 0] 30)).heap[w2.heap.size]? = some (.cells #[.int .i64 0, .int .i64 0, .int .i64 0, .int .i64 0] 30 (0, 0)) := h5.out.all 2 _ rfl; have d2 : (w4.alloc (.cells #[.int .i64 0, .int .i64 0, .int .i64 0, .int .i64 0] 30)).heap[w4.heap.size]? = some (.cells #[.int .i64 0, .int .i64 0, .int .i64 0, .int .i64 0] 30 (0, 0)) := h5.out.all 3 _ rfl; have e2 := lt_of d1; have e4 := lt_of d2)
              | (refine wpList_load_en rfl (.tmp 11) rfl w2.heap.size rfl d1 ?_) | (refine wpList_load_en rfl (.tmp 13) rfl w4.heap.size rfl d2 ?_))
            go_roundw
            case rel => exact ⟨k + 1, t2, t3, by omega, by go_num, hX2, hY2, by show _ ≤ _; have := hle.out; rw [he2.out]; omega, ⟨by rw [he3.out, he2.out, hsm.out.1], by rw [hn3.out, hn2.out, hsm.out.2.1], by rw [hl3.out, hl2.out, hsm.out.2.2]⟩, h5.out.front.front⟩
            case measure => simp [intOf]; omega
          · have h33 : (bits .and .i64 z 3 == 3) = false := by simp [e3]
            clear e3
            go_wp2
            clear lk ck0 ck1 ck2
            refine region_cell (w0 := w) (c := 12) (sc := 98) (sm := 85) (s0 := 99) (s1 := 100) (sr := 15) (sd := 16) (T := 30) (R := #[.int .i64 0, .int .i64 0, .int .i64 0, .int .i64 0]) (Z := #[.int .i64 0, .int .i64 0, .int .i64 0, .int .i64 0]) (b := false) (f := 12) (args := #[.pointer (some ⟨X, 0, none⟩), .agg #[.int .i64 y, .int .i64 x, .int .i64 0, .int .i64 0]]) (L := [obT u, obT v])
              (fun (t2 : Tab) => Hid (t2.X = X) ∧ Hid (t2.es = u.es ++ [⟨y, x, 0, 0⟩]) ∧ Hid (t2.n = nN u.n u.l u.es.length) ∧ Hid (t2.l = lN u.n u.l u.es.length)) (fun t2 => [obT t2, obT v]) [(86, .pointer (some ⟨X, 0, none⟩)), (87, .slice (some ⟨kb, off, none⟩) len2 cap2), (88, .int .i64 (k : Int)), (89, .pointer (some ⟨kb, off + k * 3, none⟩)), (90, .pointer (some ⟨kb, off + k * 3 + 1, none⟩)), (91, .int .i64 y), (92, .slice (some ⟨kb, off, none⟩) len2 cap2), (93, .int .i64 (k : Int)), (94, .pointer (some ⟨kb, off + k * 3, none⟩)), (95, .pointer (some ⟨kb, off + k * 3 + 2, none⟩)), (96, .int .i64 x), (97, .agg #[.int .i64 y, .int .i64 x, .int .i64 0, .int .i64 0])] [(8, .pointer (some ⟨X, 0, none⟩)), (2, .slice (some ⟨kb, off, none⟩) len2 cap2), (10, .int .i64 (k : Int)), (86, .pointer (some ⟨X, 0, none⟩)), (87, .slice (some ⟨kb, off, none⟩) len2 cap2), (88, .int .i64 (k : Int)), (89, .pointer (some ⟨kb, off + k * 3, none⟩)), (90, .pointer (some ⟨kb, off + k * 3 + 1, none⟩)), (91, .int .i64 y), (92, .slice (some ⟨kb, off, none⟩) len2 cap2), (93, .int .i64 (k : Int)), (94, .pointer (some ⟨kb, off + k * 3, none⟩)), (95, .pointer (some ⟨kb, off + k * 3 + 2, none⟩)), (96, .int .i64 x), (97, .agg #[.int .i64 y, .int .i64 x, .int .i64 0, .int .i64 0])] hmx ⟨⟨_, rfl, rfl⟩, ⟨_, rfl, rfl, rfl⟩, ⟨_, rfl, rfl, rfl⟩, ⟨_, rfl, rfl, rfl⟩, ⟨_, rfl, rfl, rfl⟩, ⟨_, rfl, rfl, rfl⟩, ⟨_, rfl, rfl, rfl⟩, rfl, by decide⟩ (by kernel_rfl) (by kernel_rfl) (by kernel_rfl) ?hk (by kernel_rfl) sizeEn rfl (by simp [Value.oneCell']) ?runs ?hcl ?hal (hx.out) ?hcall ?_
            case hk =>
              simp only [fills, Act.put, List.setIfInBounds_toArray, List.set_cons_zero, List.set_cons_succ]
              exact ⟨rfl, rfl, rfl, rfl, rfl, rfl, rfl, rfl, rfl, rfl, rfl, rfl, rfl, rfl, rfl, trivial⟩
            case runs =>
              rintro A W ⟨e8, e2, e10, e86, e87, e88, e89, e90, e91, e92, e93, e94, e95, e96, e97, _⟩ g
              obtain ⟨lk, ck0, ck1, ck2⟩ := ck.out W g
              clear ck
              intro i o ho hi
              iterate 19 (rcases i with _ | i; · first | (exact absurd hi (by decide)) | (cases ho; go_simp; done))
              cases ho
            case hcl =>
              rintro o ho A W ⟨e8, e2, e10, e86, e87, e88, e89, e90, e91, e92, e93, e94, e95, e96, e97, _⟩
              cases ho
              go_simp
            case hal =>
              intro o ho A W
              cases ho
              go_simp
            case hcall =>
              intro l2 W1 g1
              refine (put_new g1 (i := 0) rfl hX.out ⟨y, x, 0, 0⟩ hno.out hm.out).mono ?_
              rintro e w2 ⟨t2, rfl, hX2, h2, he2, hn2, hl2⟩
              exact ⟨rfl, t2, ⟨hX2, he2, hn2, hl2⟩, h2⟩
            clear hx
            rintro t2 w2 E2 ⟨hX2, he2, hn2, hl2⟩ h3
            have h3 : Hid (Apt w w2 [obT t2, obT v, obBlk E2 30 #[.int .i64 0, .int .i64 0, .int .i64 0, .int .i64 0]]) := h3
            first | show Exit.then _ _ Exit.normal _ _ | show Exit.inBlock _ _ Exit.normal _ _
            simp only [parts, fills, Act.put, List.setIfInBounds_toArray, List.set_cons_zero, List.set_cons_succ]
            go_wp2
            refine region_cell (w0 := w) (c := 12) (sc := 114) (sm := 101) (s0 := 115) (s1 := 116) (sr := 17) (sd := 18) (T := 30) (R := #[.int .i64 0, .int .i64 0, .int .i64 0, .int .i64 0]) (Z := #[.int .i64 0, .int .i64 0, .int .i64 0, .int .i64 0]) (b := false) (f := 12) (args := #[.pointer (some ⟨Y, 0, none⟩), .agg #[.int .i64 y, .int .i64 x, .int .i64 0, .int .i64 0]]) (L := [obT t2, obT v, obBlk E2 30 #[.int .i64 0, .int .i64 0, .int .i64 0, .int .i64 0]])
              (fun (t3 : Tab) => Hid (t3.X = Y) ∧ Hid (t3.es = v.es ++ [⟨y, x, 0, 0⟩]) ∧ Hid (t3.n = nN v.n v.l v.es.length) ∧ Hid (t3.l = lN v.n v.l v.es.length)) (fun t3 => [obT t2, obT t3, obBlk E2 30 #[.int .i64 0, .int .i64 0, .int .i64 0, .int .i64 0]]) [(102, .pointer (some ⟨Y, 0, none⟩)), (103, .slice (some ⟨kb, off, none⟩) len2 cap2), (104, .int .i64 (k : Int)), (105, .pointer (some ⟨kb, off + k * 3, none⟩)), (106, .pointer (some ⟨kb, off + k * 3 + 1, none⟩)), (107, .int .i64 y), (108, .slice (some ⟨kb, off, none⟩) len2 cap2), (109, .int .i64 (k : Int)), (110, .pointer (some ⟨kb, off + k * 3, none⟩)), (111, .pointer (some ⟨kb, off + k * 3 + 2, none⟩)), (112, .int .i64 x), (113, .agg #[.int .i64 y, .int .i64 x, .int .i64 0, .int .i64 0])] [(9, .pointer (some ⟨Y, 0, none⟩)), (2, .slice (some ⟨kb, off, none⟩) len2 cap2), (10, .int .i64 (k : Int)), (102, .pointer (some ⟨Y, 0, none⟩)), (103, .slice (some ⟨kb, off, none⟩) len2 cap2), (104, .int .i64 (k : Int)), (105, .pointer (some ⟨kb, off + k * 3, none⟩)), (106, .pointer (some ⟨kb, off + k * 3 + 1, none⟩)), (107, .int .i64 y), (108, .slice (some ⟨kb, off, none⟩) len2 cap2), (109, .int .i64 (k : Int)), (110, .pointer (some ⟨kb, off + k * 3, none⟩)), (111, .pointer (some ⟨kb, off + k * 3 + 2, none⟩)), (112, .int .i64 x), (113, .agg #[.int .i64 y, .int .i64 x, .int .i64 0, .int .i64 0])] hmx ⟨⟨_, rfl, rfl⟩, ⟨_, rfl, rfl, rfl⟩, ⟨_, rfl, rfl, rfl⟩, ⟨_, rfl, rfl, rfl⟩, ⟨_, rfl, rfl, rfl⟩, ⟨_, rfl, rfl, rfl⟩, ⟨_, rfl, rfl, rfl⟩, rfl, by decide⟩ (by kernel_rfl) (by kernel_rfl) (by kernel_rfl) ?hk (by kernel_rfl) sizeEn rfl (by simp [Value.oneCell']) ?runs ?hcl ?hal (h3.out) ?hcall ?_
            case hk =>
              simp only [fills, Act.put, List.setIfInBounds_toArray, List.set_cons_zero, List.set_cons_succ]
              exact ⟨rfl, rfl, rfl, rfl, rfl, rfl, rfl, rfl, rfl, rfl, rfl, rfl, rfl, rfl, rfl, trivial⟩
            case runs =>
              rintro A W ⟨e9, e2, e10, e102, e103, e104, e105, e106, e107, e108, e109, e110, e111, e112, e113, _⟩ g
              obtain ⟨lk, ck0, ck1, ck2⟩ := ck.out W g
              clear ck
              intro i o ho hi
              iterate 19 (rcases i with _ | i; · first | (exact absurd hi (by decide)) | (cases ho; go_simp; done))
              cases ho
            case hcl =>
              rintro o ho A W ⟨e9, e2, e10, e102, e103, e104, e105, e106, e107, e108, e109, e110, e111, e112, e113, _⟩
              cases ho
              go_simp
            case hal =>
              intro o ho A W
              cases ho
              go_simp
            case hcall =>
              intro l2 W1 g1
              refine (put_new g1 (i := 1) rfl hY.out ⟨y, x, 0, 0⟩ hno2.out hm2.out).mono ?_
              rintro e w4 ⟨t3, rfl, hY2, h4, he3, hn3, hl3⟩
              exact ⟨rfl, t3, ⟨hY2, he3, hn3, hl3⟩, h4⟩
            clear h3
            rintro t3 w4 E4 ⟨hY2, he3, hn3, hl3⟩ h5
            have h5 : Hid (Apt w w4 [obT t2, obT t3, obBlk E2 30 #[.int .i64 0, .int .i64 0, .int .i64 0, .int .i64 0], obBlk E4 30 #[.int .i64 0, .int .i64 0, .int .i64 0, .int .i64 0]]) := h5
            first | show Exit.then _ _ Exit.normal _ _ | show Exit.inBlock _ _ Exit.normal _ _
            simp only [parts, fills, Act.put, List.setIfInBounds_toArray, List.set_cons_zero, List.set_cons_succ]
            have d1 : w4.heap[E2]? = some (.cells #[.int .i64 0, .int .i64 0, .int .i64 0, .int .i64 0] 30 (0, 0)) := h5.out.all 2 _ rfl
            have d2 : w4.heap[E4]? = some (.cells #[.int .i64 0, .int .i64 0, .int .i64 0, .int .i64 0] 30 (0, 0)) := h5.out.all 3 _ rfl
            have e2 := lt_of d1
            have e4 := lt_of d2
            go_wp2_with (first | (refine wpList_load_en rfl (.tmp 15) rfl E2 rfl d1 ?_) | (refine wpList_load_en rfl (.tmp 17) rfl E4 rfl d2 ?_))
            go_roundw
            case rel => exact ⟨k + 1, t2, t3, by omega, by go_num, hX2, hY2, by show _ ≤ _; have := hle.out; rw [he2.out, List.length_append]; simp; omega, ⟨by rw [he3.out, he2.out, hsm.out.1], by rw [hn3.out, hn2.out, hsm.out.2.1, hsm.out.2.2, hsm.out.1], by rw [hl3.out, hl2.out, hsm.out.2.1, hsm.out.2.2, hsm.out.1]⟩, h5.out.front.front⟩
            case measure => simp [intOf]; omega
      · obtain rfl : k = len2 := by omega
        have hd : decide ((k : Int) < (k : Int)) = false := by rw [decide_eq_false_iff_not]; omega
        have hm : u.es.length ≤ 1000000 := by have := hle.out; omega
        have hm2 : v.es.length ≤ 1000000 := by rw [hsm.out.1]; exact hm
        have al := all_e hx.out (i := 0) rfl hX.out hm
        clear hkk
        go_wp2_with (first
          | (go_at_call 26; refine al.mono ?_; rintro o w2 ⟨p1, c1, q1, rfl, h2, hp1, hq1⟩; clear al; have h2 : Hid (Apt w w2 [obT u, obT v, obE p1 c1 q1]) := h2; have al2 := all_e h2.out (i := 1) rfl hY.out hm2)
          | (go_at_call 26; refine al2.mono ?_; rintro o w3 ⟨p2, c2, q2, rfl, h3, hp2, hq2⟩; clear al2; have h3 : Hid (Apt w w3 [obT u, obT v, obE p1 c1 q1, obE p2 c2 q2]) := h3; have eq : q2 = q1 := sorted_one (hp2.trans (by rw [hsm.out.1]; exact hp1.symm)) hq2 hq1; subst eq; have hl : q2.length ≤ 1000000 := by { rw [hp1.length_eq]; exact hm }; clear hp1 hp2 hq1 hq2; have sm := same_s h3.out (i := 2) (j := 3) rfl rfl hl)
          | (go_at_call 27; refine sm.mono ?_; rintro o w4 ⟨rfl, h4⟩; clear sm h3; have b1 := buckets_s h4.out (i := 0) rfl; have b2 := buckets_s h4.out (i := 1) rfl; have f1 := left_s h4.out (i := 0) rfl; have f2 := left_s h4.out (i := 1) rfl; rw [hX.out] at b1 f1; rw [hY.out, hsm.out.2.1] at b2; rw [hY.out, hsm.out.2.2] at f2; unfold ptr at b1 b2 f1 f2)
          | (go_at_call 20; refine b1.mono ?_; rintro e w' ⟨rfl, hw⟩; have hw := hw.symm; subst hw; clear b1)
          | (go_at_call 20; refine b2.mono ?_; rintro e w' ⟨rfl, hw⟩; have hw := hw.symm; subst hw; clear b2)
          | (go_at_call 21; refine f1.mono ?_; rintro e w' ⟨rfl, hw⟩; have hw := hw.symm; subst hw; clear f1)
          | (go_at_call 21; refine f2.mono ?_; rintro e w' ⟨rfl, hw⟩; have hw := hw.symm; subst hw; clear f2))
        go_ret
        exact ⟨rfl, h4.out.grown⟩

/-! ### The row's step -/
set_option maxRecDepth 100000 in
theorem lifted (os : Os) (started : os.Started) (H : Type) (enc : TypeId × Value → H) :
    ReturnsInHanded {} Try.checked os 6 .any (Rows.tableSeedsSpec.pre6 enc Try.prog Try.f6 Rows.tableSeedsRow.domain false) (Rows.tableSeedsSpec.post enc Try.prog Try.f6 false true false false) := by
  refine returnsInHanded_of_change (C := Try.checked) own started (by kernel_rfl) Try.func6
    (ChangeSpec.witness6 (enc := enc) (C := Try.checked) false ⟨#[], #[.int .i64 0, .int .i64 0, .slice none 0 0], []⟩ 8 (by kernel_rfl) (by kernel_rfl) (by kernel_rfl) (by kernel_rfl)) ?_
  intro W base args ds gs before hval0 hW hcnd _
  have hval : ∀ (j : Nat) t v, Try.f6.params[j]? = some t → args[j]? = some v → Value.okWide Try.prog W .any base t v := hval0
  have hW' := hW
  obtain ⟨p, q, hA0, hV, rfl, hfz, hnd⟩ := hW
  have hA : DataW.TrodAll enc Try.prog W 0 (fun _ => true) true Try.f6.params.toList args.toList ds p := hA0
  rw [Try.params6] at hA hval
  obtain ⟨v0, vs0, d0, ds0, p0, q0, hargs, rfl, rfl, h0, r0⟩ := trodAll_cons hA
  obtain ⟨v1, vs1, d1, ds1, p1, q1, rfl, rfl, rfl, h1, r1⟩ := trodAll_cons r0
  obtain ⟨v2, vs2, d2, ds2, p2, q2, rfl, rfl, rfl, h2, r2⟩ := trodAll_cons r1
  obtain ⟨rfl, rfl, rfl⟩ := trodAll_nil r2
  obtain rfl : args = #[v0, v1, v2] := by cases args; simp_all
  obtain ⟨rfl, rfl⟩ := trodVars_none hV
  obtain ⟨a0, rfl, rfl, rfl, w0⟩ := open_int Try.underlying3 (hval 0 3 v0 rfl rfl) h0
  obtain ⟨a1, rfl, rfl, rfl, w1⟩ := open_int Try.underlying3 (hval 1 3 v1 rfl rfl) h1
  obtain ⟨a2, len2, cap2, rfl⟩ := okWide_slice Try.underlying22 (hval 2 22 v2 rfl rfl)
  have k2 := h2
  have lt2 : ∀ x ∈ p2, x.block < W.heap.size := by obtain ⟨m, hm⟩ := k2; exact DataW.trod_lt m _ _ _ hm
  obtain ⟨z2, w2⟩ := open_grid Try.underlying22 Try.underlying28 Try.underlying3 (by kernel_rfl) (by kernel_rfl) h2
  clear hA0 hval0
  refine (walk a0 a1 a2 len2 cap2 z2 W w0 w1 w2).mono fun e W' ⟨he, bel⟩ => ?_
  subst he
  exact ⟨_, rfl, _, _, _, [], _, [], hW', trodAll_mk1 (shut_bool Try.underlying4 _), (trodAll_cons_mk (shut_int Try.underlying3 w0) (trodAll_cons_mk (shut_int Try.underlying3 w1) (trodAll_cons_mk (grown_trod laidOut (by kernel_rfl) (of_decide_eq_true (by kernel_rfl)) k2 bel lt2) trodAll_mk0))), rfl, bel.frame _, fun h => by cases h⟩

theorem over : Rows.tableSeedsRow.holds Try.pinned (OpenSpec.ofChange Rows.tableSeedsSpec) :=
  OpenClaim.holds_of_wide 6 Try.f6 rfl rfl rfl rfl rfl rfl rfl ⟨rfl, rfl, rfl, rfl, rfl⟩ rfl rfl rfl rfl rfl (by kernel_rfl) Try.func6 (by kernel_rfl)
    (of_decide_eq_true (by kernel_rfl)) (by unfold Func.isWrapper; first | (rw [if_pos (by decide +kernel)]; kernel_rfl) | (rw [if_neg (by decide +kernel)]; exact ⟨rfl, rfl⟩))
    (fun os started H enc _ => lifted os started H enc)

/-- The statement. -/
theorem proved : Rows.TableSeedsSaid := over
end Go.Proofs.Ythjcdloaclailaa.tableSeeds

namespace Go.Proofs.Ythjcdloaclailaa
/-- The given statement. -/
theorem tableSeeds_holds : Rows.TableSeedsSaid := tableSeeds.proved
#print axioms tableSeeds_holds
end Go.Proofs.Ythjcdloaclailaa
