/-
  Proved: pantrylaw15.TableHolds returns true for every seed and every slice of steps: a table holds what a plain row of keys would, whatever its seed (P15.5). No condition.
-/
import Derived.Test.YthjcdloaclailaaRows
import Derived.WalkKit
import Derived.ProofKit
import Derived.OpenShut
import Derived.Test.YthjcdloaclailaaTbSmall
import Derived.Test.YthjcdloaclailaaTbHold
import Derived.Test.YthjcdloaclailaaTbChn
import Derived.Test.YthjcdloaclailaaGenCell
import Derived.BigQuiet
import Derived.ShutString
import Derived.ChangeOld
import Derived.Below
import Derived.Test.YthjcdloaclailaaGenArgs
namespace Go.Proofs.Ythjcdloaclailaa.tableHolds
open Go.ChangeShapes Go.WideShapes Go.ChangeAt Go.RowKit
set_option linter.unusedVariables false

theorem own : ownKnob Try.prog.godebug = none := by kernel_rfl
theorem laidOut : laidOutB Try.prog = true := by kernel_rfl

/-! ### The walk: the law returns true, and writes nothing that was there -/
open Go.Proofs.Ythjcdloaclailaa.Us Go.Proofs.Ythjcdloaclailaa.Tb in set_option maxRecDepth 20000 in set_option maxHeartbeats 16000000 in
theorem walk (a0 : Int) (a1 : Option Addr) (len1 cap1 : Nat) (z1 : Nat → Nat → Int) (w : World) (w0 : (Lit.int .i64 a0).wf = true) (w1 : IsGrid .i64 3 w a1 len1 cap1 z1) :
    Calls Try.prog 4 #[.int .i64 a0, .slice a1 len1 cap1] w fun e w' => e = .returned (.bool true) ∧ Grown w w' := by
  have hk1 := grid_open (by decide) w1
  clear w0 w1
  have nw := fun (w1 : World) (g : Grown w w1) => new_e a0 (Apt.none g)
  by_cases hl : 200 < len1
  · clear hk1
    have d1 : decide (200 < (len1 : Int)) = true := by rw [decide_eq_true_eq]; omega
    go_enter Try.func4, Try.ntmps4
    go_wp2_with (first | (go_at_call 9; refine (Tb.small_s _).mono ?_; rintro e ws ⟨rfl, hgs⟩) | (go_at_call 10; refine (nw _ hgs).mono ?_; rintro e wx ⟨t, rfl, hx, tx⟩; clear nw hgs; have tx : Hid _ := tx; have hx : Hid (Apt w wx [obT t]) := hx; obtain ⟨X, hX⟩ : ∃ X, Hid (t.X = X) := ⟨_, rfl⟩; rw [hX.out]; unfold ptr))
    go_ret
    exact ⟨rfl, hx.out.grown⟩
  · have d1 : decide (200 < (len1 : Int)) = false := by rw [decide_eq_false_iff_not]; omega
    have hlen : len1 ≤ 200 := by omega
    have hkk : ∀ k, k < len1 → ∃ kb off, a1 = some ⟨kb, off, none⟩ ∧ ∀ W, Grown w W → kb < W.heap.size ∧ W.cell? ⟨kb, off + k * 3, none⟩ = some (.int .i64 (z1 k 0)) ∧ W.cell? ⟨kb, off + k * 3 + 1, none⟩ = some (.int .i64 (z1 k 1)) ∧ W.cell? ⟨kb, off + k * 3 + 2, none⟩ = some (.int .i64 (z1 k 2)) := fun k hlt => by
      rcases hk1 with h | ⟨kb, off, h1, h2, h3⟩
      · omega
      · exact ⟨kb, off, h1, fun W g => ⟨Nat.lt_of_lt_of_le h2 g.2.2, keys_cell (h3 k hlt 0 (by decide)) h2 g, by have := keys_cell (h3 k hlt 1 (by decide)) h2 g; rwa [← Nat.add_assoc] at this, by have := keys_cell (h3 k hlt 2 (by decide)) h2 g; rwa [← Nat.add_assoc] at this⟩⟩
    clear hk1 hl
    go_enter Try.func4, Try.ntmps4
    go_wp2_with (first | (go_at_call 9; refine (Tb.small_s _).mono ?_; rintro e ws ⟨rfl, hgs⟩) | (go_at_call 10; refine (nw _ hgs).mono ?_; rintro e wx ⟨t, rfl, hx, tx⟩; clear nw hgs; have tx : Hid _ := tx; have hx : Hid (Apt w wx [obT t]) := hx; obtain ⟨X, hX⟩ : ∃ X, Hid (t.X = X) := ⟨_, rfl⟩; rw [hX.out]; unfold ptr))
    have hle0 : Hid (t.es.length ≤ 0) := by rw [tx.out.1]; exact Nat.le_refl _
    have h0 : Hid (Apt w wx [obT t, obV none 0 (t.es.map (·.k)), obV none 0 (t.es.map (·.a))]) := by rw [tx.out.1]; exact obV_nil _ (obV_nil _ hx.out)
    have hl0 : Hid (0 = t.es.length) := by rw [tx.out.1]; rfl
    clear tx hx
    go_loopw [7, 8, 9, 10, 11, 12, 13, 14, 15, 16, 17, 18] (fun kv vv i _ _ _ _ _ _ _ _ _ wr => ∃ (k : Nat) (u : Tab) (pk : Option Addr) (ck : Nat) (pv : Option Addr) (cv : Nat), k ≤ len1 ∧ i = .int .i64 (k : Int) ∧ kv = .slice pk u.es.length ck ∧ vv = .slice pv u.es.length cv ∧ Hid (u.X = X) ∧ Hid (u.es.length ≤ k) ∧ Hid (Apt w wr [obT u, obV pk ck (u.es.map (·.k)), obV pv cv (u.es.map (·.a))])) (fun _ _ i _ _ _ _ _ _ _ _ _ _ => len1 - (intOf i).toNat)
    case atStart => exact ⟨0, t, none, 0, none, 0, by omega, rfl, by rw [← hl0.out], by rw [← hl0.out], hX, hle0, h0⟩
    case round =>
      clear h0 hX hle0 hl0
      obtain ⟨k, u, pk, ck, pv, cv, hk, rfl, rfl, rfl, hX, hle, hx⟩ := hrel
      obtain ⟨n, hn⟩ : ∃ n, Hid (n = u.es.length) := ⟨_, rfl⟩
      rw [← hn.out]
      have hnk : n ≤ k := by rw [hn.out]; exact hle.out
      have hm : Hid (u.es.length ≤ 1000000) := by have := hle.out; show _ ≤ _; omega
      by_cases hlt : k < len1
      · have hd : decide ((k : Int) < (len1 : Int)) = true := by rw [decide_eq_true_eq]; omega
        obtain ⟨kb, off, rfl, gk⟩ := hkk k hlt
        obtain ⟨z, hz⟩ : ∃ z, z = z1 k 0 := ⟨_, rfl⟩
        obtain ⟨y, hy⟩ : ∃ y, y = z1 k 1 := ⟨_, rfl⟩
        obtain ⟨x, hxx⟩ : ∃ x, x = z1 k 2 := ⟨_, rfl⟩
        rw [← hz, ← hy, ← hxx] at gk
        have gk : Hid (∀ W, Grown w W → kb < W.heap.size ∧ W.cell? ⟨kb, off + k * 3, none⟩ = some (.int .i64 z) ∧ W.cell? ⟨kb, off + k * 3 + 1, none⟩ = some (.int .i64 y) ∧ W.cell? ⟨kb, off + k * 3 + 2, none⟩ = some (.int .i64 x)) := gk
        clear hz hy hxx hkk
        have kn : (k : Int) < (len1 : Int) := by omega
        obtain ⟨J, hJ0⟩ := at_ex y (es_keys (hx.out.all 0 _ rfl : Tb.Tb _ u).sh)
        have hJ : Hid (KAt u.es y J) := hJ0
        have hJ1 : J ≤ n := by rw [hn.out]; exact hJ0.1
        clear hJ0
        go_wp2
        go_loopw [10, 11] (fun av jv wr => ∃ j : Nat, j ≤ n ∧ jv = .int .i64 (j : Int) ∧ av = .int .i64 (aj J j) ∧ Hid (Apt w wr [obT u, obV pk ck (u.es.map (·.k)), obV pv cv (u.es.map (·.a))])) (fun _ jv _ => n - (intOf jv).toNat)
        case atStart => exact ⟨0, by omega, rfl, by rw [aj_0], hx⟩
        case round =>
          clear hx
          obtain ⟨j, hj, rfl, rfl, hx⟩ := hrel
          by_cases hjn : j < n
          · have hd3 : decide ((j : Int) < (n : Int)) = true := by rw [decide_eq_true_eq]; omega
            have hjI : (j : Int) < (n : Int) := by omega
            obtain ⟨r, hr⟩ : ∃ r, u.es[j]? = some r := ⟨_, List.getElem?_eq_getElem (by rw [← hn.out]; exact hjn)⟩
            obtain ⟨Bk, rfl, lBk, hck, cB⟩ := row_cell (f := (·.k)) hx.out (i := 1) rfl hr hn.out
            obtain ⟨lk, ck0, ck1, ck2⟩ := gk.out _ hx.out.grown
            obtain ⟨A, hA⟩ : ∃ A, Hid (aj J j = A) := ⟨_, rfl⟩
            rw [hA.out]
            by_cases e : j = J
            · have hy2 : y = r.k := ((hJ.out.2 j r hr).2 e).symm
              subst hy2
              have heq : (r.k == r.k) = true := by simp
              change Hid (j = J) at e
              clear hr
              go_wp2
              go_quiet (fail)
              go_wp2
              go_roundw
              case rel => exact ⟨j + 1, by omega, by go_num, by rw [e.out, aj_eq], hx.out.drewN _⟩
              case measure => simp [intOf]; omega
            · have heq : (r.k == y) = false := by
                have : r.k ≠ y := fun q => e ((hJ.out.2 j r hr).1 q)
                simp [this]
              change Hid (j ≠ J) at e
              clear hr
              go_wp2
              go_quiet (fail)
              go_wp2
              go_roundw
              case rel => exact ⟨j + 1, by omega, by go_num, by rw [aj_ne e.out, hA.out], hx.out.drewN _⟩
              case measure => simp [intOf]; omega
          · obtain rfl : j = n := by omega
            obtain ⟨n, hnj⟩ : ∃ n, n = j := ⟨_, rfl⟩
            subst hnj
            have hd3 : decide ((n : Int) < (n : Int)) = false := by rw [decide_eq_false_iff_not]; omega
            obtain ⟨lk, ck0, ck1, ck2⟩ := gk.out _ hx.out.grown
            by_cases hJn : J < n
            · rw [aj_in hJn]
              obtain ⟨r, hr0, hrm, hrk0⟩ := hJ.out.one (by rw [← hn.out]; exact hJn)
              have hr : Hid (u.es[J]? = some r) := hr0
              have hrk : Hid (r ∈ u.es ∧ r.k = y) := ⟨hrm, hrk0⟩
              obtain ⟨Bk, rfl, lBk, hck, cB⟩ := row_cell (f := (·.k)) hx.out (i := 1) rfl hr0 hn.out
              obtain ⟨Bv, rfl, lBv, hcv, cV⟩ := row_cell (f := (·.a)) hx.out (i := 2) rfl hr0 hn.out
              clear hr0 hrm hrk0
              have hJI : (J : Int) < (n : Int) := by omega
              have a1 : decide ((J : Int) ≥ 0) = true := by rw [decide_eq_true_eq]; omega
              have a2 : decide ((0 : Int) ≤ (J : Int)) = true := by rw [decide_eq_true_eq]; omega
              have a3 : decide ((J : Int) < 0) = false := by rw [decide_eq_false_iff_not]; omega
              by_cases e3 : bits .and .i64 z 1 = 0
              · have h33 : (bits .and .i64 z 1 == 0) = true := by simp [e3]
                clear e3
                go_wp2
                clear lk ck0 ck1 ck2
                refine region_cell (w0 := w) (c := 12) (sc := 79) (sm := 66) (s0 := 80) (s1 := 81) (sr := 12) (sd := 13) (T := 30) (R := #[.int .i64 r.k, .int .i64 r.a, .int .i64 r.x, .int .i64 r.n]) (Z := #[.int .i64 0, .int .i64 0, .int .i64 0, .int .i64 0]) (b := true) (f := 12) (args := #[.pointer (some ⟨X, 0, none⟩), .agg #[.int .i64 y, .int .i64 x, .int .i64 0, .int .i64 0]]) (L := [obT u, obV (some ⟨Bk, 0, none⟩) ck (u.es.map (·.k)), obV (some ⟨Bv, 0, none⟩) cv (u.es.map (·.a))])
                  (fun (t2 : Tab) => Hid (t2.X = X) ∧ Hid (t2.es = u.es.map (ovr ⟨y, x, 0, 0⟩))) (fun t2 => [obT t2, obV (some ⟨Bk, 0, none⟩) ck (u.es.map (·.k)), obV (some ⟨Bv, 0, none⟩) cv (u.es.map (·.a))]) [(67, .pointer (some ⟨X, 0, none⟩)), (68, .slice (some ⟨kb, off, none⟩) len1 cap1), (69, .int .i64 (k : Int)), (70, .pointer (some ⟨kb, off + k * 3, none⟩)), (71, .pointer (some ⟨kb, off + k * 3 + 1, none⟩)), (72, .int .i64 y), (73, .slice (some ⟨kb, off, none⟩) len1 cap1), (74, .int .i64 (k : Int)), (75, .pointer (some ⟨kb, off + k * 3, none⟩)), (76, .pointer (some ⟨kb, off + k * 3 + 2, none⟩)), (77, .int .i64 x), (78, .agg #[.int .i64 y, .int .i64 x, .int .i64 0, .int .i64 0])] [(6, .pointer (some ⟨X, 0, none⟩)), (1, .slice (some ⟨kb, off, none⟩) len1 cap1), (9, .int .i64 (k : Int)), (67, .pointer (some ⟨X, 0, none⟩)), (68, .slice (some ⟨kb, off, none⟩) len1 cap1), (69, .int .i64 (k : Int)), (70, .pointer (some ⟨kb, off + k * 3, none⟩)), (71, .pointer (some ⟨kb, off + k * 3 + 1, none⟩)), (72, .int .i64 y), (73, .slice (some ⟨kb, off, none⟩) len1 cap1), (74, .int .i64 (k : Int)), (75, .pointer (some ⟨kb, off + k * 3, none⟩)), (76, .pointer (some ⟨kb, off + k * 3 + 2, none⟩)), (77, .int .i64 x), (78, .agg #[.int .i64 y, .int .i64 x, .int .i64 0, .int .i64 0])] hmx ⟨⟨_, rfl, rfl⟩, ⟨_, rfl, rfl, rfl⟩, ⟨_, rfl, rfl, rfl⟩, ⟨_, rfl, rfl, rfl⟩, ⟨_, rfl, rfl, rfl⟩, ⟨_, rfl, rfl, rfl⟩, ⟨_, rfl, rfl, rfl⟩, rfl, by decide⟩ (by kernel_rfl) (by kernel_rfl) (by kernel_rfl) ?hk (by kernel_rfl) sizeEn rfl (by simp [Value.oneCell']) ?runs ?hcl ?hal hx.out ?hcall ?_
                case hk =>
                  simp only [fills, Act.put, List.setIfInBounds_toArray, List.set_cons_zero, List.set_cons_succ]
                  exact ⟨rfl, rfl, rfl, rfl, rfl, rfl, rfl, rfl, rfl, rfl, rfl, rfl, rfl, rfl, rfl, trivial⟩
                case runs =>
                  rintro A W ⟨e6, e1, e9, e67, e68, e69, e70, e71, e72, e73, e74, e75, e76, e77, e78, _⟩ g
                  obtain ⟨lk, ck0, ck1, ck2⟩ := gk.out W g
                  clear gk
                  intro i o ho hi
                  iterate 19 (rcases i with _ | i; · first | (exact absurd hi (by decide)) | (cases ho; go_simp; done))
                  cases ho
                case hcl =>
                  rintro o ho A W ⟨e6, e1, e9, e67, e68, e69, e70, e71, e72, e73, e74, e75, e76, e77, e78, _⟩
                  cases ho
                  go_simp
                case hal =>
                  intro o ho A W
                  cases ho
                  go_simp
                case hcall =>
                  intro l2 W1 g1
                  refine (put_there g1 (i := 0) rfl hX.out ⟨y, x, 0, 0⟩ hrk.out).mono ?_
                  rintro e w2 ⟨t2, rfl, hX2, h2, he2, _, _⟩
                  exact ⟨rfl, t2, ⟨hX2, he2⟩, h2⟩
                clear hx
                rintro t2 w2 E2 ⟨hX2, he2⟩ h3
                have h3 : Hid (Apt w w2 [obT t2, obV (some ⟨Bk, 0, none⟩) ck (u.es.map (·.k)), obV (some ⟨Bv, 0, none⟩) cv (u.es.map (·.a)), obBlk E2 30 #[.int .i64 r.k, .int .i64 r.a, .int .i64 r.x, .int .i64 r.n]]) := h3
                first | show Exit.then _ _ Exit.normal _ _ | show Exit.inBlock _ _ Exit.normal _ _
                simp only [parts, fills, Act.put, List.setIfInBounds_toArray, List.set_cons_zero, List.set_cons_succ]
                have d1 : w2.heap[E2]? = some (.cells #[.int .i64 r.k, .int .i64 r.a, .int .i64 r.x, .int .i64 r.n] 30 (0, 0)) := h3.out.all 3 _ rfl
                have e1 := cell_of (k := 1) d1 rfl
                have lE := lt_of d1
                clear d1
                obtain ⟨lk, ck0, ck1, ck2⟩ := gk.out _ h3.out.grown
                obtain ⟨_, e, lBv, _, cV⟩ := row_cell (f := (·.a)) h3.out (i := 2) rfl hr.out hn.out
                cases e
                have fV : w2.frozen? ⟨Bv, J, none⟩ = false := by
                  obtain ⟨_, e, _, _, f, _⟩ := Vec.opens (h3.out.all 2 _ rfl) (by rw [List.length_map, ← hn.out]; omega)
                  cases e
                  exact f J
                have n1 : (r.a != r.a) = false := by simp
                go_wp2
                go_quiet (fail)
                go_wp2
                have hN : Hid (n = t2.es.length) := by rw [he2.out, List.length_map]; exact hn
                generalize hW : World.setCell _ _ _ = W4
                have h4 : Hid (Apt w W4 [obT t2, obV (some ⟨Bk, 0, none⟩) ck (t2.es.map (·.k)), obV (some ⟨Bv, 0, none⟩) cv (t2.es.map (·.a))]) := by
                  rw [← hW]
                  have hJl : J < (u.es.map (·.a)).length := by rw [List.length_map, ← hn.out]; exact hJn
                  have := (set_s (h3.out.drewN nq).front (l := [obT t2, obV (some ⟨Bk, 0, none⟩) ck (u.es.map (·.k)), obV (some ⟨Bv, 0, none⟩) cv (u.es.map (·.a))]) (i := 2) rfl hJl x)
                  rw [he2.out, ovr_keys, ovr_vals hJ.out]
                  exact this
                clear h3 lBv cV fV e1 lE lk ck0 ck1 ck2 hW
                have hNb : n ≤ 300 := by omega
                go_loopw [16, 17, 18] (fun jv _ _ wr => ∃ j : Nat, j ≤ n ∧ jv = .int .i64 (j : Int) ∧ Hid (Apt w wr [obT t2, obV (some ⟨Bk, 0, none⟩) ck (t2.es.map (·.k)), obV (some ⟨Bv, 0, none⟩) cv (t2.es.map (·.a))])) (fun jv _ _ _ => n - (intOf jv).toNat)
                case atStart => exact ⟨0, by omega, rfl, h4⟩
                case round =>
                  clear h4
                  obtain ⟨j, hj, rfl, h4⟩ := hrel
                  by_cases hjn : j < n
                  · have hd3 : decide ((j : Int) < (n : Int)) = true := by rw [decide_eq_true_eq]; omega
                    have hjI : (j : Int) < (n : Int) := by omega
                    obtain ⟨r2, hr2⟩ : ∃ r, t2.es[j]? = some r := ⟨_, List.getElem?_eq_getElem (by rw [← hN.out]; exact hjn)⟩
                    obtain ⟨Bk2, hBk2, lBk2, hck2, cB2⟩ := row_cell (f := (·.k)) h4.out (i := 1) rfl hr2 hN.out
                    obtain ⟨Bv2, hBv2, lBv2, hcv2, cV2⟩ := row_cell (f := (·.a)) h4.out (i := 2) rfl hr2 hN.out
                    try cases hBk2
                    try cases hBv2
                    try subst hBk2
                    try subst hBv2
                    have gt := get_some h4.out (i := 0) rfl hX2.out (List.mem_of_getElem? hr2)
                    have aft : Hid (∀ W, Apt w W [obT t2, obV (some ⟨Bk, 0, none⟩) ck (t2.es.map (·.k)), obV (some ⟨Bv, 0, none⟩) cv (t2.es.map (·.a))] → Bk < W.heap.size ∧ Bv < W.heap.size ∧ W.cell? ⟨Bk, j, none⟩ = some (.int .i64 r2.k) ∧ W.cell? ⟨Bv, j, none⟩ = some (.int .i64 r2.a)) := fun W h => by
                      obtain ⟨_, e, l1, _, c1⟩ := row_cell (f := (·.k)) h (i := 1) rfl hr2 hN.out
                      cases e
                      obtain ⟨_, e, l2, _, c2⟩ := row_cell (f := (·.a)) h (i := 2) rfl hr2 hN.out
                      cases e
                      exact ⟨l1, l2, c1, c2⟩
                    clear hr2
                    have n1 : (r2.k != r2.k) = false := by simp
                    have n2 : (r2.a != r2.a) = false := by simp
                    go_wp2_with (first
                      | (go_at_call 16; refine gt.mono ?_; rintro e w4 ⟨rfl, h5⟩; clear gt cB2 cV2 lBk2 lBv2; have h6 : Hid (Apt w (w4.alloc (.cells #[.int .i64 r2.k, .int .i64 r2.a, .int .i64 r2.x, .int .i64 r2.n] 30)) ([obT t2, obV (some ⟨Bk, 0, none⟩) ck (t2.es.map (·.k)), obV (some ⟨Bv, 0, none⟩) cv (t2.es.map (·.a))] ++ [obBlk w4.heap.size 30 #[.int .i64 r2.k, .int .i64 r2.a, .int .i64 r2.x, .int .i64 r2.n]])) := en_block h5.out _ _; clear h5; obtain ⟨l1, l2, cB2, cV2⟩ := aft.out _ h6.out.front; have d1 : (w4.alloc (.cells #[.int .i64 r2.k, .int .i64 r2.a, .int .i64 r2.x, .int .i64 r2.n] 30)).heap[w4.heap.size]? = some (.cells #[.int .i64 r2.k, .int .i64 r2.a, .int .i64 r2.x, .int .i64 r2.n] 30 (0, 0)) := h6.out.all 3 _ rfl; have e0 := cell_of (k := 0) d1 rfl; have e1 := cell_of (k := 1) d1 rfl; have lE := lt_of d1; clear d1))
                    go_quiet (fail)
                    go_wp2
                    go_roundw
                    case rel => exact ⟨j + 1, by omega, by go_num, (h6.out.drewN _).front⟩
                    case measure => simp [intOf]; omega
                  · obtain rfl : j = n := by omega
                    have hd3 : decide ((j : Int) < (j : Int)) = false := by rw [decide_eq_false_iff_not]; omega
                    have ln := len_e h4.out (i := 0) rfl hX2.out
                    rw [← hN.out] at ln
                    have hjj : ((j : Int) != (j : Int)) = false := by simp
                    go_wp2_with (go_at_call 18; refine ln.mono ?_; rintro e w' ⟨rfl, hw⟩; have hw := hw.symm; subst hw; clear ln)
                    go_roundw
                    case rel => exact ⟨k + 1, t2, (some ⟨Bk, 0, none⟩), ck, (some ⟨Bv, 0, none⟩), cv, by omega, by go_num, by rw [hN.out], by rw [hN.out], hX2, by show _ ≤ _; have := hle.out; rw [← hN.out, hn.out]; omega, h4⟩
                    case measure => simp [intOf]; omega
              · have h33 : (bits .and .i64 z 1 == 0) = false := by simp [e3]
                clear e3
                have pt := rem_there hx.out (i := 0) rfl hX.out y hrk.out hm.out
                obtain ⟨N, hN1⟩ : ∃ N, Hid (n - 1 = N) := ⟨_, rfl⟩
                obtain ⟨n0, hn0⟩ : ∃ n0, Hid (n0 = n) := ⟨_, rfl⟩
                go_wp2_with (go_at_call 14; refine pt.mono ?_; rintro e w2 ⟨t2, rfl, hX2, h2, he2, _, _⟩; clear pt ck0 ck1 ck2 lk hx lBk lBv cB cV; have h3 : Hid (Apt w (w2.alloc (.cells #[.int .i64 r.k, .int .i64 r.a, .int .i64 r.x, .int .i64 r.n] 30)) [obT t2, obV (some ⟨Bk, 0, none⟩) ck (u.es.map (·.k)), obV (some ⟨Bv, 0, none⟩) cv (u.es.map (·.a)), obBlk w2.heap.size 30 #[.int .i64 r.k, .int .i64 r.a, .int .i64 r.x, .int .i64 r.n]]) := en_block h2.out _ _; clear h2; have d1 : (w2.alloc (.cells #[.int .i64 r.k, .int .i64 r.a, .int .i64 r.x, .int .i64 r.n] 30)).heap[w2.heap.size]? = some (.cells #[.int .i64 r.k, .int .i64 r.a, .int .i64 r.x, .int .i64 r.n] 30 (0, 0)) := h3.out.all 3 _ rfl; have e1 := cell_of (k := 1) d1 rfl; have lE := lt_of d1; clear d1; obtain ⟨_, e, lBv, _, cV⟩ := row_cell (f := (·.a)) h3.out (i := 2) rfl hr.out hn.out; cases e)
                have n1 : (r.a != r.a) = false := by simp
                --S1
                go_quiet (fail)
                --S2
                go_wp2
                --S3
                generalize hW : World.drewN _ _ = W0
                --S4
                have g0 : Hid (Apt w W0 [obT t2, obV (some ⟨Bk, 0, none⟩) ck (u.es.map (·.k)), obV (some ⟨Bv, 0, none⟩) cv (u.es.map (·.a))]) := by rw [← hW]; exact (h3.out.drewN _).front
                clear h3 e1 lE lBv cV hW
                have hk0 : J ≤ 1000000 := by omega
                have hkw : Hid _ := up_w J hk0
                have hkw2 : Hid _ := up_i J hk0
                --S5
                have hk2 : (0 : Int) ≤ (J : Int) + 1 := by omega
                have hk3 : (J : Int) + 1 ≤ (n : Int) := by omega
                --S6
                obtain ⟨ad, had, HAD⟩ : ∃ ad : Addr, ((if ck = J + 1 then some ⟨Bk, 0, none⟩ else some ⟨Bk, J + 1, none⟩) : Option Addr) = some ad ∧ Hid (J + 1 < n → ad = ⟨Bk, J + 1, none⟩) := by
                  by_cases e : ck = J + 1
                  · exact ⟨_, if_pos e, fun x => by have := hck; omega⟩
                  · exact ⟨_, if_neg e, fun _ => rfl⟩
                have hkk : ¬ (ck < J) := by have := hck; omega
                refine region_fill [0, 4, 9, 10] [(153, .slice (some ⟨Bk, 0, none⟩) n ck), (154, .int .i64 (J : Int)), (155, .slice (some ⟨Bk, 0, none⟩) J ck), (157, .slice (some ⟨Bk, 0, none⟩) n ck), (158, .int .i64 (J : Int)), (159, .int .i64 ((J + 1 : Nat) : Int)), (160, .slice (some ad) (n - (J + 1)) (ck - (J + 1)))] hmx (by kernel_rfl) (by kernel_rfl) ?_
                simp only [fills, Act.put, List.setIfInBounds_toArray, List.set_cons_zero, List.set_cons_succ]
                have g1 := g0.out.drew
                clear g0
                generalize W0.drew = W1 at g1 ⊢
                obtain ⟨b1, c1, w5, p6, c6, w6, r1, r2, g2⟩ := cut_s 39 39 g1 (i := 1) rfl (k := J) (by rw [List.length_map, ← hn.out]; exact hJn) (by rw [List.length_map, ← hn.out]; have := hle.out; omega) (ad := ad) (fun q => HAD.out (by rw [List.length_map, ← hn.out] at q; exact q))
                rw [List.length_map, ← hn.out, hN1.out] at r2
                have g2 : Hid (Apt w w6 [obT t2, obV p6 c6 ((u.es.map (·.k)).take J ++ (u.es.map (·.k)).drop (J + 1)), obV (some ⟨Bv, 0, none⟩) cv (u.es.map (·.a))]) := g2
                clear g1
                refine flow_val (some 152) (.slice (some ⟨W1.heap.size, 0, none⟩) 0 0) (W1.alloc (.cells #[] 3)) _ rfl rfl ?run (by go_simp) ?_
                case run =>
                  clear r1 r2
                  have kw := hkw.out
                  have kw2 := hkw2.out
                  intro i o ho hi
                  iterate 11 (rcases i with _ | i; · first | (exact absurd hi (by decide)) | (cases ho; go_simp; done))
                  cases ho
                simp only [Act.put, List.setIfInBounds_toArray, List.set_cons_zero, List.set_cons_succ]
                refine flow_val (some 156) (.slice (some ⟨b1, 0, none⟩) J c1) (w5) _ rfl rfl ?run (exec_append rfl rfl rfl r1) ?_
                case run =>
                  clear r1 r2
                  have kw := hkw.out
                  have kw2 := hkw2.out
                  intro i o ho hi
                  iterate 11 (rcases i with _ | i; · first | (exact absurd hi (by decide)) | (cases ho; go_simp; done))
                  cases ho
                simp only [Act.put, List.setIfInBounds_toArray, List.set_cons_zero, List.set_cons_succ]
                refine flow_val (some 161) (.slice p6 N c6) (w6) _ rfl rfl ?run (exec_append rfl rfl rfl r2) ?_
                case run =>
                  clear r1 r2
                  have kw := hkw.out
                  have kw2 := hkw2.out
                  intro i o ho hi
                  iterate 11 (rcases i with _ | i; · first | (exact absurd hi (by decide)) | (cases ho; go_simp; done))
                  cases ho
                simp only [Act.put, List.setIfInBounds_toArray, List.set_cons_zero, List.set_cons_succ]
                refine flow_val (some 7) (.slice p6 N c6) (w6) _ rfl rfl ?run (by go_simp) ?_
                case run =>
                  clear r1 r2
                  have kw := hkw.out
                  have kw2 := hkw2.out
                  intro i o ho hi
                  iterate 11 (rcases i with _ | i; · first | (exact absurd hi (by decide)) | (cases ho; go_simp; done))
                  cases ho
                simp only [Act.put, List.setIfInBounds_toArray, List.set_cons_zero, List.set_cons_succ]
                first | show Exit.then _ _ Exit.normal _ _ | show Exit.inBlock _ _ Exit.normal _ _
                clear r1 r2 had HAD hkk
                --T1
                obtain ⟨p6a, hp6a⟩ : ∃ p, p = p6 := ⟨_, rfl⟩
                obtain ⟨c6a, hc6a⟩ : ∃ c, c = c6 := ⟨_, rfl⟩
                obtain ⟨w6a, hw6a⟩ : ∃ c, c = w6 := ⟨_, rfl⟩
                subst hp6a hc6a hw6a
                go_wp2
                obtain ⟨ad, had, HAD⟩ : ∃ ad : Addr, ((if cv = J + 1 then some ⟨Bv, 0, none⟩ else some ⟨Bv, J + 1, none⟩) : Option Addr) = some ad ∧ Hid (J + 1 < n → ad = ⟨Bv, J + 1, none⟩) := by
                  by_cases e : cv = J + 1
                  · exact ⟨_, if_pos e, fun x => by have := hcv; omega⟩
                  · exact ⟨_, if_neg e, fun _ => rfl⟩
                have hkk : ¬ (cv < J) := by have := hcv; omega
                refine region_fill [0, 4, 9, 10] [(163, .slice (some ⟨Bv, 0, none⟩) n cv), (164, .int .i64 (J : Int)), (165, .slice (some ⟨Bv, 0, none⟩) J cv), (167, .slice (some ⟨Bv, 0, none⟩) n cv), (168, .int .i64 (J : Int)), (169, .int .i64 ((J + 1 : Nat) : Int)), (170, .slice (some ad) (n - (J + 1)) (cv - (J + 1)))] hmx (by kernel_rfl) (by kernel_rfl) ?_
                simp only [fills, Act.put, List.setIfInBounds_toArray, List.set_cons_zero, List.set_cons_succ]
                have g1 := g2.out.drew
                clear g2
                generalize w6a.drew = W1 at g1 ⊢
                obtain ⟨b1, c1, w5, p6, c6, w6, r1, r2, g2⟩ := cut_s 39 39 g1 (i := 2) rfl (k := J) (by rw [List.length_map, ← hn.out]; exact hJn) (by rw [List.length_map, ← hn.out]; have := hle.out; omega) (ad := ad) (fun q => HAD.out (by rw [List.length_map, ← hn.out] at q; exact q))
                rw [List.length_map, ← hn.out, hN1.out] at r2
                have g2 : Hid (Apt w w6 [obT t2, obV p6a c6a ((u.es.map (·.k)).take J ++ (u.es.map (·.k)).drop (J + 1)), obV p6 c6 ((u.es.map (·.a)).take J ++ (u.es.map (·.a)).drop (J + 1))]) := g2
                clear g1
                refine flow_val (some 162) (.slice (some ⟨W1.heap.size, 0, none⟩) 0 0) (W1.alloc (.cells #[] 3)) _ rfl rfl ?run (by go_simp) ?_
                case run =>
                  clear r1 r2
                  have kw := hkw.out
                  have kw2 := hkw2.out
                  intro i o ho hi
                  iterate 11 (rcases i with _ | i; · first | (exact absurd hi (by decide)) | (cases ho; go_simp; done))
                  cases ho
                simp only [Act.put, List.setIfInBounds_toArray, List.set_cons_zero, List.set_cons_succ]
                refine flow_val (some 166) (.slice (some ⟨b1, 0, none⟩) J c1) (w5) _ rfl rfl ?run (exec_append rfl rfl rfl r1) ?_
                case run =>
                  clear r1 r2
                  have kw := hkw.out
                  have kw2 := hkw2.out
                  intro i o ho hi
                  iterate 11 (rcases i with _ | i; · first | (exact absurd hi (by decide)) | (cases ho; go_simp; done))
                  cases ho
                simp only [Act.put, List.setIfInBounds_toArray, List.set_cons_zero, List.set_cons_succ]
                refine flow_val (some 171) (.slice p6 N c6) (w6) _ rfl rfl ?run (exec_append rfl rfl rfl r2) ?_
                case run =>
                  clear r1 r2
                  have kw := hkw.out
                  have kw2 := hkw2.out
                  intro i o ho hi
                  iterate 11 (rcases i with _ | i; · first | (exact absurd hi (by decide)) | (cases ho; go_simp; done))
                  cases ho
                simp only [Act.put, List.setIfInBounds_toArray, List.set_cons_zero, List.set_cons_succ]
                refine flow_val (some 8) (.slice p6 N c6) (w6) _ rfl rfl ?run (by go_simp) ?_
                case run =>
                  clear r1 r2
                  have kw := hkw.out
                  have kw2 := hkw2.out
                  intro i o ho hi
                  iterate 11 (rcases i with _ | i; · first | (exact absurd hi (by decide)) | (cases ho; go_simp; done))
                  cases ho
                simp only [Act.put, List.setIfInBounds_toArray, List.set_cons_zero, List.set_cons_succ]
                first | show Exit.then _ _ Exit.normal _ _ | show Exit.inBlock _ _ Exit.normal _ _
                clear r1 r2 had HAD hkk
                --T2
                have hN : Hid (N = t2.es.length) := by rw [he2.out, dlt_cut hJ.out (by rw [← hn.out]; exact hJn), cut_len (by rw [← hn.out]; exact hJn), ← hN1.out, hn.out]; rfl
                have h4 : Hid (Apt w w6 [obT t2, obV p6a c6a (t2.es.map (·.k)), obV p6 c6 (t2.es.map (·.a))]) := by
                  rw [he2.out, dlt_cut hJ.out (by rw [← hn.out]; exact hJn), map_cut, map_cut]
                  exact g2
                clear g2 hkw hkw2 hk2 hk3
                rw [show ((J + 1 : Nat) : Int) = (J : Int) + 1 from rfl]
                go_wp2
                have hNb : N ≤ 300 := by have := hN1.out; omega
                go_loopw [16, 17, 18] (fun jv _ _ wr => ∃ j : Nat, j ≤ N ∧ jv = .int .i64 (j : Int) ∧ Hid (Apt w wr [obT t2, obV p6a c6a (t2.es.map (·.k)), obV p6 c6 (t2.es.map (·.a))])) (fun jv _ _ _ => N - (intOf jv).toNat)
                case atStart => exact ⟨0, by omega, rfl, h4⟩
                case round =>
                  clear h4
                  obtain ⟨j, hj, rfl, h4⟩ := hrel
                  by_cases hjn : j < N
                  · have hd3 : decide ((j : Int) < (N : Int)) = true := by rw [decide_eq_true_eq]; omega
                    have hjI : (j : Int) < (N : Int) := by omega
                    obtain ⟨r2, hr2⟩ : ∃ r, t2.es[j]? = some r := ⟨_, List.getElem?_eq_getElem (by rw [← hN.out]; exact hjn)⟩
                    obtain ⟨Bk2, hBk2, lBk2, hck2, cB2⟩ := row_cell (f := (·.k)) h4.out (i := 1) rfl hr2 hN.out
                    obtain ⟨Bv2, hBv2, lBv2, hcv2, cV2⟩ := row_cell (f := (·.a)) h4.out (i := 2) rfl hr2 hN.out
                    try cases hBk2
                    try cases hBv2
                    try subst hBk2
                    try subst hBv2
                    have gt := get_some h4.out (i := 0) rfl hX2.out (List.mem_of_getElem? hr2)
                    have aft : Hid (∀ W, Apt w W [obT t2, obV (some ⟨Bk2, 0, none⟩) c6a (t2.es.map (·.k)), obV (some ⟨Bv2, 0, none⟩) c6 (t2.es.map (·.a))] → Bk2 < W.heap.size ∧ Bv2 < W.heap.size ∧ W.cell? ⟨Bk2, j, none⟩ = some (.int .i64 r2.k) ∧ W.cell? ⟨Bv2, j, none⟩ = some (.int .i64 r2.a)) := fun W h => by
                      obtain ⟨_, e, l1, _, c1⟩ := row_cell (f := (·.k)) h (i := 1) rfl hr2 hN.out
                      cases e
                      obtain ⟨_, e, l2, _, c2⟩ := row_cell (f := (·.a)) h (i := 2) rfl hr2 hN.out
                      cases e
                      exact ⟨l1, l2, c1, c2⟩
                    clear hr2
                    have n1 : (r2.k != r2.k) = false := by simp
                    have n2 : (r2.a != r2.a) = false := by simp
                    go_wp2_with (first
                      | (go_at_call 16; refine gt.mono ?_; rintro e w4 ⟨rfl, h5⟩; clear gt cB2 cV2 lBk2 lBv2; have h6 : Hid (Apt w (w4.alloc (.cells #[.int .i64 r2.k, .int .i64 r2.a, .int .i64 r2.x, .int .i64 r2.n] 30)) ([obT t2, obV (some ⟨Bk2, 0, none⟩) c6a (t2.es.map (·.k)), obV (some ⟨Bv2, 0, none⟩) c6 (t2.es.map (·.a))] ++ [obBlk w4.heap.size 30 #[.int .i64 r2.k, .int .i64 r2.a, .int .i64 r2.x, .int .i64 r2.n]])) := en_block h5.out _ _; clear h5; obtain ⟨l1, l2, cB2, cV2⟩ := aft.out _ h6.out.front; have d1 : (w4.alloc (.cells #[.int .i64 r2.k, .int .i64 r2.a, .int .i64 r2.x, .int .i64 r2.n] 30)).heap[w4.heap.size]? = some (.cells #[.int .i64 r2.k, .int .i64 r2.a, .int .i64 r2.x, .int .i64 r2.n] 30 (0, 0)) := h6.out.all 3 _ rfl; have e0 := cell_of (k := 0) d1 rfl; have e1 := cell_of (k := 1) d1 rfl; have lE := lt_of d1; clear d1))
                    go_quiet (fail)
                    go_wp2
                    go_roundw
                    case rel => exact ⟨j + 1, by omega, by go_num, (h6.out.drewN _).front⟩
                    case measure => simp [intOf]; omega
                  · obtain rfl : j = N := by omega
                    have hd3 : decide ((j : Int) < (j : Int)) = false := by rw [decide_eq_false_iff_not]; omega
                    have ln := len_e h4.out (i := 0) rfl hX2.out
                    rw [← hN.out] at ln
                    have hjj : ((j : Int) != (j : Int)) = false := by simp
                    go_wp2_with (go_at_call 18; refine ln.mono ?_; rintro e w' ⟨rfl, hw⟩; have hw := hw.symm; subst hw; clear ln)
                    go_roundw
                    case rel => exact ⟨k + 1, t2, p6a, c6a, p6, c6, by omega, by go_num, by rw [hN.out], by rw [hN.out], hX2, by show _ ≤ _; have := hle.out; rw [← hN.out, ← hN1.out, hn.out]; omega, h4⟩
                    case measure => simp [intOf]; omega
            · rw [aj_out hJn]
              have hno : Hid (∀ r ∈ u.es, r.k ≠ y) := hJ.out.no (by rw [← hn.out]; exact hJn)
              have a1 : decide ((-1 : Int) ≥ 0) = false := by decide
              have a2 : decide ((-1 : Int) < 0) = true := by decide
              by_cases e3 : bits .and .i64 z 1 = 0
              · have h33 : (bits .and .i64 z 1 == 0) = true := by simp [e3]
                clear e3
                go_wp2
                clear lk ck0 ck1 ck2
                refine region_cell (w0 := w) (c := 12) (sc := 79) (sm := 66) (s0 := 80) (s1 := 81) (sr := 12) (sd := 13) (T := 30) (R := #[.int .i64 0, .int .i64 0, .int .i64 0, .int .i64 0]) (Z := #[.int .i64 0, .int .i64 0, .int .i64 0, .int .i64 0]) (b := false) (f := 12) (args := #[.pointer (some ⟨X, 0, none⟩), .agg #[.int .i64 y, .int .i64 x, .int .i64 0, .int .i64 0]]) (L := [obT u, obV pk ck (u.es.map (·.k)), obV pv cv (u.es.map (·.a))])
                  (fun (t2 : Tab) => Hid (t2.X = X) ∧ Hid (t2.es = u.es ++ [⟨y, x, 0, 0⟩])) (fun t2 => [obT t2, obV pk ck (u.es.map (·.k)), obV pv cv (u.es.map (·.a))]) [(67, .pointer (some ⟨X, 0, none⟩)), (68, .slice (some ⟨kb, off, none⟩) len1 cap1), (69, .int .i64 (k : Int)), (70, .pointer (some ⟨kb, off + k * 3, none⟩)), (71, .pointer (some ⟨kb, off + k * 3 + 1, none⟩)), (72, .int .i64 y), (73, .slice (some ⟨kb, off, none⟩) len1 cap1), (74, .int .i64 (k : Int)), (75, .pointer (some ⟨kb, off + k * 3, none⟩)), (76, .pointer (some ⟨kb, off + k * 3 + 2, none⟩)), (77, .int .i64 x), (78, .agg #[.int .i64 y, .int .i64 x, .int .i64 0, .int .i64 0])] [(6, .pointer (some ⟨X, 0, none⟩)), (1, .slice (some ⟨kb, off, none⟩) len1 cap1), (9, .int .i64 (k : Int)), (67, .pointer (some ⟨X, 0, none⟩)), (68, .slice (some ⟨kb, off, none⟩) len1 cap1), (69, .int .i64 (k : Int)), (70, .pointer (some ⟨kb, off + k * 3, none⟩)), (71, .pointer (some ⟨kb, off + k * 3 + 1, none⟩)), (72, .int .i64 y), (73, .slice (some ⟨kb, off, none⟩) len1 cap1), (74, .int .i64 (k : Int)), (75, .pointer (some ⟨kb, off + k * 3, none⟩)), (76, .pointer (some ⟨kb, off + k * 3 + 2, none⟩)), (77, .int .i64 x), (78, .agg #[.int .i64 y, .int .i64 x, .int .i64 0, .int .i64 0])] hmx ⟨⟨_, rfl, rfl⟩, ⟨_, rfl, rfl, rfl⟩, ⟨_, rfl, rfl, rfl⟩, ⟨_, rfl, rfl, rfl⟩, ⟨_, rfl, rfl, rfl⟩, ⟨_, rfl, rfl, rfl⟩, ⟨_, rfl, rfl, rfl⟩, rfl, by decide⟩ (by kernel_rfl) (by kernel_rfl) (by kernel_rfl) ?hk (by kernel_rfl) sizeEn rfl (by simp [Value.oneCell']) ?runs ?hcl ?hal hx.out ?hcall ?_
                case hk =>
                  simp only [fills, Act.put, List.setIfInBounds_toArray, List.set_cons_zero, List.set_cons_succ]
                  exact ⟨rfl, rfl, rfl, rfl, rfl, rfl, rfl, rfl, rfl, rfl, rfl, rfl, rfl, rfl, rfl, trivial⟩
                case runs =>
                  rintro A W ⟨e6, e1, e9, e67, e68, e69, e70, e71, e72, e73, e74, e75, e76, e77, e78, _⟩ g
                  obtain ⟨lk, ck0, ck1, ck2⟩ := gk.out W g
                  clear gk
                  intro i o ho hi
                  iterate 19 (rcases i with _ | i; · first | (exact absurd hi (by decide)) | (cases ho; go_simp; done))
                  cases ho
                case hcl =>
                  rintro o ho A W ⟨e6, e1, e9, e67, e68, e69, e70, e71, e72, e73, e74, e75, e76, e77, e78, _⟩
                  cases ho
                  go_simp
                case hal =>
                  intro o ho A W
                  cases ho
                  go_simp
                case hcall =>
                  intro l2 W1 g1
                  refine (put_new g1 (i := 0) rfl hX.out ⟨y, x, 0, 0⟩ hno.out hm.out).mono ?_
                  rintro e w2 ⟨t2, rfl, hX2, h2, he2, _, _⟩
                  exact ⟨rfl, t2, ⟨hX2, he2⟩, h2⟩
                clear hx
                rintro t2 w2 E2 ⟨hX2, he2⟩ h3
                have h3 : Hid (Apt w w2 [obT t2, obV pk ck (u.es.map (·.k)), obV pv cv (u.es.map (·.a)), obBlk E2 30 #[.int .i64 0, .int .i64 0, .int .i64 0, .int .i64 0]]) := h3
                first | show Exit.then _ _ Exit.normal _ _ | show Exit.inBlock _ _ Exit.normal _ _
                simp only [parts, fills, Act.put, List.setIfInBounds_toArray, List.set_cons_zero, List.set_cons_succ]
                obtain ⟨N, hN1⟩ : ∃ N, Hid (n + 1 = N) := ⟨_, rfl⟩
                have d1 : w2.heap[E2]? = some (.cells #[.int .i64 0, .int .i64 0, .int .i64 0, .int .i64 0] 30 (0, 0)) := h3.out.all 3 _ rfl
                have e1 := cell_of (k := 1) d1 rfl
                have lE := lt_of d1
                clear d1
                obtain ⟨lk, ck0, ck1, ck2⟩ := gk.out _ h3.out.grown
                go_wp2
                go_quiet (fail)
                have hk1 : Hid (n = (u.es.map (·.k)).length) := by rw [List.length_map]; exact hn
                have hk2 : Hid (n = (u.es.map (·.a)).length) := by rw [List.length_map]; exact hn
                go_wp2_with (first
                  | (at_builtin; refine wpList_append_any rfl (.tmp 100) (.tmp 106) 39 rfl Try.underlying39 infoN rfl rfl (f := ivL (u.es.map (·.k))) (by rw [hk1.out]; exact ((h3.out.drewN _).all 1 _ rfl).grown ((Grown.refl _).alloc _ _)) rfl (fun _ => ⟨_, rfl, new_int _ _ _⟩) (fun _ _ => rfl) (by omega) (by omega) ?_; intro p5 c5 w5 hv5 ho5 hp5; have h5 : Hid (Apt w w5 ([obT t2, obV p5 c5 (u.es.map (·.k) ++ [y]), obV pv cv (u.es.map (·.a)), obBlk E2 30 #[.int .i64 0, .int .i64 0, .int .i64 0, .int .i64 0]])) := appended_s (h3.out.drewN _) (i := 1) rfl (by rw [← hk1.out]; exact hv5) ho5 hp5; rw [hN1.out]; clear hv5 ho5 hp5 h3 ck0 ck1 ck2 lk e1 lE; obtain ⟨lk, ck0, ck1, ck2⟩ := gk.out _ h5.out.grown)
                  | (at_builtin; refine wpList_append_any rfl (.tmp 108) (.tmp 114) 39 rfl Try.underlying39 infoN rfl rfl (f := ivL (u.es.map (·.a))) (by rw [hk2.out]; exact (h5.out.all 2 _ rfl).grown ((Grown.refl _).alloc _ _)) rfl (fun _ => ⟨_, rfl, new_int _ _ _⟩) (fun _ _ => rfl) (by omega) (by omega) ?_; intro p6 c6 w6 hv6 ho6 hp6; have h6 : Hid (Apt w w6 ([obT t2, obV p5 c5 (u.es.map (·.k) ++ [y]), obV p6 c6 (u.es.map (·.a) ++ [x]), obBlk E2 30 #[.int .i64 0, .int .i64 0, .int .i64 0, .int .i64 0]])) := appended_s h5.out (i := 2) rfl (by rw [← hk2.out]; exact hv6) ho6 hp6; rw [hN1.out]; clear hv6 ho6 hp6 h5 ck0 ck1 ck2 lk))
                have hN : Hid (N = t2.es.length) := by rw [he2.out, List.length_append, ← hN1.out, hn.out]; rfl
                have h4 : Hid (Apt w w6 [obT t2, obV p5 c5 (t2.es.map (·.k)), obV p6 c6 (t2.es.map (·.a))]) := by
                  have : Apt w w6 [obT t2, obV p5 c5 (u.es.map (·.k) ++ [y]), obV p6 c6 (u.es.map (·.a) ++ [x])] := h6.out.front
                  rw [he2.out, List.map_append, List.map_append]
                  exact this
                clear h6
                have hNb : N ≤ 300 := by have := hN1.out; omega
                go_loopw [16, 17, 18] (fun jv _ _ wr => ∃ j : Nat, j ≤ N ∧ jv = .int .i64 (j : Int) ∧ Hid (Apt w wr [obT t2, obV p5 c5 (t2.es.map (·.k)), obV p6 c6 (t2.es.map (·.a))])) (fun jv _ _ _ => N - (intOf jv).toNat)
                case atStart => exact ⟨0, by omega, rfl, h4⟩
                case round =>
                  clear h4
                  obtain ⟨j, hj, rfl, h4⟩ := hrel
                  by_cases hjn : j < N
                  · have hd3 : decide ((j : Int) < (N : Int)) = true := by rw [decide_eq_true_eq]; omega
                    have hjI : (j : Int) < (N : Int) := by omega
                    obtain ⟨r2, hr2⟩ : ∃ r, t2.es[j]? = some r := ⟨_, List.getElem?_eq_getElem (by rw [← hN.out]; exact hjn)⟩
                    obtain ⟨Bk2, hBk2, lBk2, hck2, cB2⟩ := row_cell (f := (·.k)) h4.out (i := 1) rfl hr2 hN.out
                    obtain ⟨Bv2, hBv2, lBv2, hcv2, cV2⟩ := row_cell (f := (·.a)) h4.out (i := 2) rfl hr2 hN.out
                    try cases hBk2
                    try cases hBv2
                    try subst hBk2
                    try subst hBv2
                    have gt := get_some h4.out (i := 0) rfl hX2.out (List.mem_of_getElem? hr2)
                    have aft : Hid (∀ W, Apt w W [obT t2, obV (some ⟨Bk2, 0, none⟩) c5 (t2.es.map (·.k)), obV (some ⟨Bv2, 0, none⟩) c6 (t2.es.map (·.a))] → Bk2 < W.heap.size ∧ Bv2 < W.heap.size ∧ W.cell? ⟨Bk2, j, none⟩ = some (.int .i64 r2.k) ∧ W.cell? ⟨Bv2, j, none⟩ = some (.int .i64 r2.a)) := fun W h => by
                      obtain ⟨_, e, l1, _, c1⟩ := row_cell (f := (·.k)) h (i := 1) rfl hr2 hN.out
                      cases e
                      obtain ⟨_, e, l2, _, c2⟩ := row_cell (f := (·.a)) h (i := 2) rfl hr2 hN.out
                      cases e
                      exact ⟨l1, l2, c1, c2⟩
                    clear hr2
                    have n1 : (r2.k != r2.k) = false := by simp
                    have n2 : (r2.a != r2.a) = false := by simp
                    go_wp2_with (first
                      | (go_at_call 16; refine gt.mono ?_; rintro e w4 ⟨rfl, h5⟩; clear gt cB2 cV2 lBk2 lBv2; have h6 : Hid (Apt w (w4.alloc (.cells #[.int .i64 r2.k, .int .i64 r2.a, .int .i64 r2.x, .int .i64 r2.n] 30)) ([obT t2, obV (some ⟨Bk2, 0, none⟩) c5 (t2.es.map (·.k)), obV (some ⟨Bv2, 0, none⟩) c6 (t2.es.map (·.a))] ++ [obBlk w4.heap.size 30 #[.int .i64 r2.k, .int .i64 r2.a, .int .i64 r2.x, .int .i64 r2.n]])) := en_block h5.out _ _; clear h5; obtain ⟨l1, l2, cB2, cV2⟩ := aft.out _ h6.out.front; have d1 : (w4.alloc (.cells #[.int .i64 r2.k, .int .i64 r2.a, .int .i64 r2.x, .int .i64 r2.n] 30)).heap[w4.heap.size]? = some (.cells #[.int .i64 r2.k, .int .i64 r2.a, .int .i64 r2.x, .int .i64 r2.n] 30 (0, 0)) := h6.out.all 3 _ rfl; have e0 := cell_of (k := 0) d1 rfl; have e1 := cell_of (k := 1) d1 rfl; have lE := lt_of d1; clear d1))
                    go_quiet (fail)
                    go_wp2
                    go_roundw
                    case rel => exact ⟨j + 1, by omega, by go_num, (h6.out.drewN _).front⟩
                    case measure => simp [intOf]; omega
                  · obtain rfl : j = N := by omega
                    have hd3 : decide ((j : Int) < (j : Int)) = false := by rw [decide_eq_false_iff_not]; omega
                    have ln := len_e h4.out (i := 0) rfl hX2.out
                    rw [← hN.out] at ln
                    have hjj : ((j : Int) != (j : Int)) = false := by simp
                    go_wp2_with (go_at_call 18; refine ln.mono ?_; rintro e w' ⟨rfl, hw⟩; have hw := hw.symm; subst hw; clear ln)
                    go_roundw
                    case rel => exact ⟨k + 1, t2, p5, c5, p6, c6, by omega, by go_num, by rw [hN.out], by rw [hN.out], hX2, by show _ ≤ _; have := hle.out; rw [← hN.out, ← hN1.out, hn.out]; omega, h4⟩
                    case measure => simp [intOf]; omega
              · have h33 : (bits .and .i64 z 1 == 0) = false := by simp [e3]
                clear e3
                have pt := rem_none hx.out (i := 0) rfl hX.out y hno.out
                go_wp2_with (go_at_call 14; refine pt.mono ?_; rintro e w2 ⟨t2, rfl, hX2, h2, he2, _, _⟩; clear pt ck0 ck1 ck2 lk hx; have h3 : Hid (Apt w (w2.alloc (.cells #[.int .i64 0, .int .i64 0, .int .i64 0, .int .i64 0] 30)) [obT t2, obV pk ck (u.es.map (·.k)), obV pv cv (u.es.map (·.a)), obBlk w2.heap.size 30 #[.int .i64 0, .int .i64 0, .int .i64 0, .int .i64 0]]) := en_block h2.out _ _; clear h2; have d1 : (w2.alloc (.cells #[.int .i64 0, .int .i64 0, .int .i64 0, .int .i64 0] 30)).heap[w2.heap.size]? = some (.cells #[.int .i64 0, .int .i64 0, .int .i64 0, .int .i64 0] 30 (0, 0)) := h3.out.all 3 _ rfl; have e1 := cell_of (k := 1) d1 rfl; have lE := lt_of d1; clear d1)
                go_quiet (fail)
                go_wp2
                have hN : Hid (n = t2.es.length) := by rw [he2.out]; exact hn
                generalize hW : World.drewN _ _ = W4
                have h4 : Hid (Apt w W4 [obT t2, obV pk ck (t2.es.map (·.k)), obV pv cv (t2.es.map (·.a))]) := by
                  rw [he2.out, ← hW]
                  exact (h3.out.drewN _).front
                clear hW
                clear h3 e1 lE
                have hNb : n ≤ 300 := by omega
                go_loopw [16, 17, 18] (fun jv _ _ wr => ∃ j : Nat, j ≤ n ∧ jv = .int .i64 (j : Int) ∧ Hid (Apt w wr [obT t2, obV pk ck (t2.es.map (·.k)), obV pv cv (t2.es.map (·.a))])) (fun jv _ _ _ => n - (intOf jv).toNat)
                case atStart => exact ⟨0, by omega, rfl, h4⟩
                case round =>
                  clear h4
                  obtain ⟨j, hj, rfl, h4⟩ := hrel
                  by_cases hjn : j < n
                  · have hd3 : decide ((j : Int) < (n : Int)) = true := by rw [decide_eq_true_eq]; omega
                    have hjI : (j : Int) < (n : Int) := by omega
                    obtain ⟨r2, hr2⟩ : ∃ r, t2.es[j]? = some r := ⟨_, List.getElem?_eq_getElem (by rw [← hN.out]; exact hjn)⟩
                    obtain ⟨Bk2, hBk2, lBk2, hck2, cB2⟩ := row_cell (f := (·.k)) h4.out (i := 1) rfl hr2 hN.out
                    obtain ⟨Bv2, hBv2, lBv2, hcv2, cV2⟩ := row_cell (f := (·.a)) h4.out (i := 2) rfl hr2 hN.out
                    try cases hBk2
                    try cases hBv2
                    try subst hBk2
                    try subst hBv2
                    have gt := get_some h4.out (i := 0) rfl hX2.out (List.mem_of_getElem? hr2)
                    have aft : Hid (∀ W, Apt w W [obT t2, obV (some ⟨Bk2, 0, none⟩) ck (t2.es.map (·.k)), obV (some ⟨Bv2, 0, none⟩) cv (t2.es.map (·.a))] → Bk2 < W.heap.size ∧ Bv2 < W.heap.size ∧ W.cell? ⟨Bk2, j, none⟩ = some (.int .i64 r2.k) ∧ W.cell? ⟨Bv2, j, none⟩ = some (.int .i64 r2.a)) := fun W h => by
                      obtain ⟨_, e, l1, _, c1⟩ := row_cell (f := (·.k)) h (i := 1) rfl hr2 hN.out
                      cases e
                      obtain ⟨_, e, l2, _, c2⟩ := row_cell (f := (·.a)) h (i := 2) rfl hr2 hN.out
                      cases e
                      exact ⟨l1, l2, c1, c2⟩
                    clear hr2
                    have n1 : (r2.k != r2.k) = false := by simp
                    have n2 : (r2.a != r2.a) = false := by simp
                    go_wp2_with (first
                      | (go_at_call 16; refine gt.mono ?_; rintro e w4 ⟨rfl, h5⟩; clear gt cB2 cV2 lBk2 lBv2; have h6 : Hid (Apt w (w4.alloc (.cells #[.int .i64 r2.k, .int .i64 r2.a, .int .i64 r2.x, .int .i64 r2.n] 30)) ([obT t2, obV (some ⟨Bk2, 0, none⟩) ck (t2.es.map (·.k)), obV (some ⟨Bv2, 0, none⟩) cv (t2.es.map (·.a))] ++ [obBlk w4.heap.size 30 #[.int .i64 r2.k, .int .i64 r2.a, .int .i64 r2.x, .int .i64 r2.n]])) := en_block h5.out _ _; clear h5; obtain ⟨l1, l2, cB2, cV2⟩ := aft.out _ h6.out.front; have d1 : (w4.alloc (.cells #[.int .i64 r2.k, .int .i64 r2.a, .int .i64 r2.x, .int .i64 r2.n] 30)).heap[w4.heap.size]? = some (.cells #[.int .i64 r2.k, .int .i64 r2.a, .int .i64 r2.x, .int .i64 r2.n] 30 (0, 0)) := h6.out.all 3 _ rfl; have e0 := cell_of (k := 0) d1 rfl; have e1 := cell_of (k := 1) d1 rfl; have lE := lt_of d1; clear d1))
                    go_quiet (fail)
                    go_wp2
                    go_roundw
                    case rel => exact ⟨j + 1, by omega, by go_num, (h6.out.drewN _).front⟩
                    case measure => simp [intOf]; omega
                  · obtain rfl : j = n := by omega
                    have hd3 : decide ((j : Int) < (j : Int)) = false := by rw [decide_eq_false_iff_not]; omega
                    have ln := len_e h4.out (i := 0) rfl hX2.out
                    rw [← hN.out] at ln
                    have hjj : ((j : Int) != (j : Int)) = false := by simp
                    go_wp2_with (go_at_call 18; refine ln.mono ?_; rintro e w' ⟨rfl, hw⟩; have hw := hw.symm; subst hw; clear ln)
                    go_roundw
                    case rel => exact ⟨k + 1, t2, pk, ck, pv, cv, by omega, by go_num, by rw [hN.out], by rw [hN.out], hX2, by show _ ≤ _; have := hle.out; rw [← hN.out, hn.out]; omega, h4⟩
                    case measure => simp [intOf]; omega
      · obtain rfl : k = len1 := by omega
        have hd : decide ((k : Int) < (k : Int)) = false := by rw [decide_eq_false_iff_not]; omega
        have al := all_e hx.out (i := 0) rfl hX.out hm.out
        clear hkk
        go_wp2_with (go_at_call 26; refine al.mono ?_; rintro o w2 ⟨p1, c1, q1, rfl, h2, hp1, hq1⟩; clear al; have h2 : Hid (Apt w w2 [obT u, obV pk ck (u.es.map (·.k)), obV pv cv (u.es.map (·.a)), obE p1 c1 q1]) := h2; have hq1 : Hid (q1.Pairwise (fun a b => a.k < b.k)) := hq1; have hl1 : Hid (n = q1.length) := hn.out.trans hp1.length_eq.symm; clear hp1 hx; rw [← hl1.out])
        have hn1 : Hid (n ≤ 200) := by show _ ≤ _; omega
        go_loopw [20] (fun jv wr => ∃ j : Nat, 1 ≤ j ∧ (j ≤ n ∨ j = 1) ∧ jv = .int .i64 (j : Int) ∧ Hid (Apt w wr [obT u, obV pk ck (u.es.map (·.k)), obV pv cv (u.es.map (·.a)), obE p1 c1 q1])) (fun jv _ => n - (intOf jv).toNat)
        case atStart => exact ⟨1, Nat.le_refl _, .inr rfl, rfl, h2⟩
        case round =>
          clear h2
          obtain ⟨j, hj1, hj, rfl, h3⟩ := hrel
          by_cases hjn : j < n
          · have hd3 : decide ((j : Int) < (n : Int)) = true := by rw [decide_eq_true_eq]; omega
            have hjI : (j : Int) < (n : Int) := by omega
            obtain ⟨i, hij0⟩ : ∃ i, i + 1 = j := ⟨j - 1, by omega⟩
            have hij : Hid (i + 1 = j) := hij0
            clear hij0
            obtain ⟨a, b, ha, hb, hab⟩ : ∃ a b : En, q1[i]? = some a ∧ q1[i + 1]? = some b ∧ a.k < b.k := by
              have h1 : i + 1 < q1.length := by rw [hij.out, ← hl1.out]; exact hjn
              refine ⟨_, _, List.getElem?_eq_getElem (by omega), List.getElem?_eq_getElem h1, ?_⟩
              exact List.pairwise_iff_getElem.1 hq1.out i (i + 1) (by omega) h1 (by omega)
            obtain ⟨B, rfl, lB, ca, cb⟩ := en_cells h3.out (i := 3) rfl ha hb
            have hd4 : decide (b.k ≤ a.k) = false := by rw [decide_eq_false_iff_not]; omega
            rw [hij.out] at cb
            have hwr : wrap64 ((j : Int) - 1) = (i : Int) := by rw [IntWalk.wrap64_in _ ⟨by omega, by have := hn1.out; omega⟩]; have := hij.out; omega
            have hwr2 : IntKind.i64.wrap ((j : Int) - 1) = (i : Int) := by have := hij.out; have := hn1.out; simp [IntKind.wrap, IntKind.signed, IntKind.bits]; omega
            have hin : (i : Int) < (n : Int) := by have := hij.out; omega
            clear ha hb hab
            go_wp2
            go_quiet (fail)
            go_wp2
            go_roundw
            case rel => exact ⟨j + 1, by omega, by omega, by go_num, h3.out.drewN _⟩
            case measure => simp [intOf]; omega
          · have hd3 : decide ((j : Int) < (n : Int)) = false := by rw [decide_eq_false_iff_not]; omega
            have hnn : ((n : Int) == (n : Int)) = true := by simp
            go_wp2
            go_ret
            exact ⟨rfl, h3.out.grown⟩

/-! ### The row's step -/
set_option maxRecDepth 100000 in
theorem lifted (os : Os) (started : os.Started) (H : Type) (enc : TypeId × Value → H) :
    ReturnsInHanded {} Try.checked os 4 .any (Rows.tableHoldsSpec.pre6 enc Try.prog Try.f4 Rows.tableHoldsRow.domain false) (Rows.tableHoldsSpec.post enc Try.prog Try.f4 false true false false) := by
  refine returnsInHanded_of_change (C := Try.checked) own started (by kernel_rfl) Try.func4
    (ChangeSpec.witness6 (enc := enc) (C := Try.checked) false ⟨#[], #[.int .i64 0, .slice none 0 0], []⟩ 8 (by kernel_rfl) (by kernel_rfl) (by kernel_rfl) (by kernel_rfl)) ?_
  intro W base args ds gs before hval0 hW hcnd _
  have hval : ∀ (j : Nat) t v, Try.f4.params[j]? = some t → args[j]? = some v → Value.okWide Try.prog W .any base t v := hval0
  have hW' := hW
  obtain ⟨p, q, hA0, hV, rfl, hfz, hnd⟩ := hW
  have hA : DataW.TrodAll enc Try.prog W 0 (fun _ => true) true Try.f4.params.toList args.toList ds p := hA0
  rw [Try.params4] at hA hval
  obtain ⟨v0, vs0, d0, ds0, p0, q0, hargs, rfl, rfl, h0, r0⟩ := trodAll_cons hA
  obtain ⟨v1, vs1, d1, ds1, p1, q1, rfl, rfl, rfl, h1, r1⟩ := trodAll_cons r0
  obtain ⟨rfl, rfl, rfl⟩ := trodAll_nil r1
  obtain rfl : args = #[v0, v1] := by cases args; simp_all
  obtain ⟨rfl, rfl⟩ := trodVars_none hV
  obtain ⟨a0, rfl, rfl, rfl, w0⟩ := open_int Try.underlying3 (hval 0 3 v0 rfl rfl) h0
  obtain ⟨a1, len1, cap1, rfl⟩ := okWide_slice Try.underlying22 (hval 1 22 v1 rfl rfl)
  have k1 := h1
  have lt1 : ∀ x ∈ p1, x.block < W.heap.size := by obtain ⟨m, hm⟩ := k1; exact DataW.trod_lt m _ _ _ hm
  obtain ⟨z1, w1⟩ := open_grid Try.underlying22 Try.underlying28 Try.underlying3 (by kernel_rfl) (by kernel_rfl) h1
  clear hA0 hval0
  refine (walk a0 a1 len1 cap1 z1 W w0 w1).mono fun e W' ⟨he, bel⟩ => ?_
  subst he
  exact ⟨_, rfl, _, _, _, [], _, [], hW', trodAll_mk1 (shut_bool Try.underlying4 _), (trodAll_cons_mk (shut_int Try.underlying3 w0) (trodAll_cons_mk (grown_trod laidOut (by kernel_rfl) (of_decide_eq_true (by kernel_rfl)) k1 bel lt1) trodAll_mk0)), rfl, bel.frame _, fun h => by cases h⟩

theorem over : Rows.tableHoldsRow.holds Try.pinned (OpenSpec.ofChange Rows.tableHoldsSpec) :=
  OpenClaim.holds_of_wide 4 Try.f4 rfl rfl rfl rfl rfl rfl rfl ⟨rfl, rfl, rfl, rfl, rfl⟩ rfl rfl rfl rfl rfl (by kernel_rfl) Try.func4 (by kernel_rfl)
    (of_decide_eq_true (by kernel_rfl)) (by unfold Func.isWrapper; first | (rw [if_pos (by decide +kernel)]; kernel_rfl) | (rw [if_neg (by decide +kernel)]; exact ⟨rfl, rfl⟩))
    (fun os started H enc _ => lifted os started H enc)

/-- The statement. -/
theorem proved : Rows.TableHoldsSaid := over
end Go.Proofs.Ythjcdloaclailaa.tableHolds

namespace Go.Proofs.Ythjcdloaclailaa
/-- The given statement. -/
theorem tableHolds_holds : Rows.TableHoldsSaid := tableHolds.proved
#print axioms tableHolds_holds
end Go.Proofs.Ythjcdloaclailaa
