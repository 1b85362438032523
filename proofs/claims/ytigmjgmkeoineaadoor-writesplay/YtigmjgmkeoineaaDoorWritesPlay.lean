/-
  Proved: pantrylaw14.WritesPlay returns true for every size, every slice of calls and every slice of events: a buffer answers as the document's own, call by call (P14.1, P14.2). Condition: errors.errorType holds what the program's text lays (tied by the card).
-/
import Derived.Test.YtigmjgmkeoineaaDoorRows
import Derived.WalkKit
import Derived.ProofKit
import Derived.OpenShut
import Derived.Test.YtigmjgmkeoineaaDoorWbSmall
import Derived.Test.YtigmjgmkeoineaaDoorWbRows
import Derived.Test.YtigmjgmkeoineaaDoorWbText
import Derived.Deep.CutRange
import Derived.Deep.CutBlock
import Derived.ShutString
import Derived.ChangeOld
import Derived.Below
import Derived.Test.YtigmjgmkeoineaaDoorGenArgs
import Derived.Test.YtigmjgmkeoineaaDoorWgLaid
import Derived.Test.YtigmjgmkeoineaaDoorTie
import Derived.Test.YtigmjgmkeoineaaDoorCards
import Derived.SevenTiedAt
namespace Go.Proofs.YtigmjgmkeoineaaDoor.writesPlay
open Go.ChangeShapes Go.WideShapes Go.ChangeAt Go.RowKit
set_option linter.unusedVariables false

theorem laidOut : laidOutB Tryd.prog = true := by kernel_rfl

/-! ### The walk: the law returns true, and writes nothing that was there -/
open Go.Proofs.YtigmjgmkeoineaaDoor.Us Go.Proofs.YtigmjgmkeoineaaDoor.Wb in set_option maxRecDepth 100000 in set_option maxHeartbeats 16000000 in
theorem walk (a0 : Int) (a1 : Option Addr) (len1 cap1 : Nat) (z1 : List Int) (a2 : Option Addr) (len2 cap2 : Nat) (z2 : Nat → Nat → Int) (w : World) (hl : Laid w) (hs : w.ShapedOpen Tryd.prog) (w0 : (Lit.int .i64 a0).wf = true) (w1 : IsInts .i64 w a1 len1 cap1 z1) (w2 : IsGrid .i64 4 w a2 len2 cap2 z2) :
    Calls Tryd.prog 3 #[.int .i64 a0, .slice a1 len1 cap1, .slice a2 len2 cap2] w fun e w' => e = .returned (.bool true) ∧ Grown w w' := by
  obtain ⟨T, hT⟩ := tab_ex hs
  have hk := keys_open w1
  have hk2 := grid_open (by decide) w2
  clear w0 w1 w2 hs
  have sm := small_s w hl
  obtain ⟨N, n1, n2, e, hb, h4, h5⟩ := size_all a0
  have nw := fun (w1 : World) (g : Grown w w1) => new_s (Apt.none g) a0 n2 e
  have nd := fun (w1 : World) (M : Nat) (h : Apt w w1 [obB M N 0 [] 0]) => rnew_s h a0 e
  clear e h5 h4 hb hl
  unfold ptr at nw nd
  by_cases hl : 200 < len1
  · clear hk hk2
    have d1 : decide (200 < (len1 : Int)) = true := by rw [decide_eq_true_eq]; omega
    go_enter Tryd.func3, Tryd.ntmps3
    go_wp2_with (first | (go_at_call 7; refine sm.mono ?_; rintro e ws ⟨rfl, hgs⟩; clear sm) | (go_at_call 8; refine (nw _ hgs).mono ?_; rintro e wx ⟨M, rfl, hx⟩; clear nw; have hx : Hid (Apt w wx [obB M N 0 [] 0]) := hx) | (go_at_call 9; refine (nd _ _ hx.out).mono ?_; rintro e wy ⟨A, rfl, hy⟩; clear nd hx; have hy : Hid (Apt w wy [obB M N 0 [] 0, obD A N none 0 [] 0]) := hy))
    go_ret
    exact ⟨rfl, hy.out.grown⟩
  · have d1 : decide (200 < (len1 : Int)) = false := by rw [decide_eq_false_iff_not]; omega
    have hlen : len1 ≤ 200 := by omega
    have HKK : Hid (∀ k, k < len1 → ∃ kb off, a1 = some ⟨kb, off, none⟩ ∧ ∀ W, Grown w W → W.cell? ⟨kb, off + k, none⟩ = some (.int .i64 (z1.getD k 0))) := fun k hlt => by
      rcases hk with h | ⟨kb, off, h1, h2, h3⟩
      · omega
      · exact ⟨kb, off, h1, fun W g => keys_cell (h3 k hlt) h2 g⟩
    have HK2 : Hid (∀ k, k < len2 → ∃ kb off, a2 = some ⟨kb, off, none⟩ ∧ ∀ W, Grown w W → W.cell? ⟨kb, off + k * 4, none⟩ = some (.int .i64 (z2 k 0)) ∧ W.cell? ⟨kb, off + k * 4 + 1, none⟩ = some (.int .i64 (z2 k 1)) ∧ W.cell? ⟨kb, off + k * 4 + 2, none⟩ = some (.int .i64 (z2 k 2)) ∧ W.cell? ⟨kb, off + k * 4 + 3, none⟩ = some (.int .i64 (z2 k 3)) ∧ kb < W.heap.size) := fun k hlt => by
      rcases hk2 with h | ⟨kb, off, h1, h2, h3⟩
      · omega
      · exact ⟨kb, off, h1, fun W g => ⟨keys_cell (h3 k hlt 0 (by decide)) h2 g, keys_cell (h3 k hlt 1 (by decide)) h2 g, keys_cell (h3 k hlt 2 (by decide)) h2 g, keys_cell (h3 k hlt 3 (by decide)) h2 g, Nat.lt_of_lt_of_le h2 g.2.2⟩⟩
    clear hk hk2 hl
    go_enter Tryd.func3, Tryd.ntmps3
    go_wp2_with (first | (go_at_call 7; refine sm.mono ?_; rintro e ws ⟨rfl, hgs⟩; clear sm) | (go_at_call 8; refine (nw _ hgs).mono ?_; rintro e wx ⟨M, rfl, hx⟩; clear nw; have hx : Hid (Apt w wx [obB M N 0 [] 0]) := hx) | (go_at_call 9; refine (nd _ _ hx.out).mono ?_; rintro e wy ⟨A, rfl, hy⟩; clear nd hx; have hy : Hid (Apt w wy [obB M N 0 [] 0, obD A N none 0 [] 0]) := hy))
    go_loopw [10, 11, 12, 13, 14, 15, 16, 17, 18, 19, 20] (fun i _ _ _ _ _ _ _ _ _ _ wr => ∃ (k r f c : Nat) (p : Option Addr) (q : List Ev), k ≤ len1 ∧ i = .int .i64 (k : Int) ∧ f ≤ k ∧ Apt w wr [obB M N f q r, obD A N p c q r]) (fun i _ _ _ _ _ _ _ _ _ _ _ => len1 - (intOf i).toNat)
    case atStart => exact ⟨0, 0, 0, 0, none, [], by omega, rfl, by omega, hy.out⟩
    case round =>
      clear hy
      obtain ⟨k, r, f, c, p, q, hk, rfl, hfk, hx⟩ := hrel
      have hroom := room hx (i := 0) rfl
      obtain ⟨n, hn⟩ : ∃ n, Hid (n = q.length) := ⟨_, rfl⟩
      rw [← hn.out] at hroom
      have hx : Hid (Apt w _ [obB M N f q r, obD A N p c q r]) := hx
      by_cases hlt : k < len1
      · have hd : decide ((k : Int) < (len1 : Int)) = true := by rw [decide_eq_true_eq]; omega
        obtain ⟨y, hy⟩ : ∃ y, Hid (y = bits .and .i64 (k : Int) 15) := ⟨_, rfl⟩
        have ee : Calls Tryd.prog 10 #[.int .i64 (k : Int)] wr fun e w' => e = .returned (.agg #[.int .i64 1, .int .i64 (k : Int), .int .i64 (k : Int), .int .i64 y]) ∧ Apt w w' [obB M N f q r, obD A N p c q r] := by
          rw [hy.out]; exact event_s hx.out (k : Int)
        go_upto_if 49 with (first | (go_at_call 10; refine ee.mono ?_; rintro e w2 ⟨rfl, h2⟩; clear ee hx; have h2 : Hid (Apt w w2 [obB M N f q r, obD A N p c q r]) := h2; have hZ := Go.Deep.blk_alloc_new w2 (.cells #[.int .i64 0, .int .i64 0, .int .i64 0, .int .i64 0] 30)) | (refine wpList_store_ev rfl rfl (.tmp 11) (.tmp 45) rfl w2.heap.size rfl rfl hZ rfl ?_; intro w3 hE o3; have h3 := h2.out.add (u := obBlk w2.heap.size 30 #[.int .i64 1, .int .i64 (k : Int), .int .i64 (k : Int), .int .i64 y]) (o3.grown ((Grown.refl w2).alloc _ _) (fun k hk => by omega)) hE (fun k hk => by have hk : k = w2.heap.size := hk; omega); obtain ⟨E, hEE⟩ : ∃ E, Hid (E = w2.heap.size) := ⟨_, rfl⟩; rw [← hEE.out] at h3 ⊢; clear h2 o3 hZ hE; have h3 : Hid (Apt w _ [obB M N f q r, obD A N p c q r, obBlk E 30 #[.int .i64 1, .int .i64 (k : Int), .int .i64 (k : Int), .int .i64 y]]) := h3))
        go_cut [11] from 38 to 162 (fun ev wc => ∃ (E : Nat) (g : Ev), ev = .pointer (some ⟨E, 0, none⟩) ∧ Apt w wc [obB M N f q r, obD A N p c q r, obBlk E 30 #[.int .i64 g.d, .int .i64 g.n, .int .i64 g.k, .int .i64 g.x]])
        case first =>
          by_cases hl2 : k < len2
          · have hd2 : decide ((k : Int) < (len2 : Int)) = true := by rw [decide_eq_true_eq]; omega
            obtain ⟨kb, off, rfl, ck⟩ := HK2.out k hl2
            obtain ⟨g, hg⟩ : ∃ g : Ev, g = ⟨z2 k 0, z2 k 1, z2 k 2, z2 k 3⟩ := ⟨_, rfl⟩
            rw [show z2 k 0 = g.d by rw [hg], show z2 k 1 = g.n by rw [hg], show z2 k 2 = g.k by rw [hg], show z2 k 3 = g.x by rw [hg]] at ck
            obtain ⟨k0, k1, k2, k3, lb⟩ := ck _ h3.out.grown
            have hE := h3.out.all 2 _ rfl
            have hE : Hid (_ = some (Obj.cells #[.int .i64 1, .int .i64 (k : Int), .int .i64 (k : Int), .int .i64 y] 30 (0, 0))) := hE
            clear hg ck
            go_wp2_with (first | (refine wpList_store_ev rfl rfl (.tmp 11) (.tmp 53) rfl E rfl rfl hE.out rfl ?_; intro w4 hE4 o4; have h4 : Hid (Apt w w4 [obB M N f q r, obD A N p c q r, obBlk E 30 #[.int .i64 g.d, .int .i64 g.n, .int .i64 g.k, .int .i64 g.x]]) := h3.out.upd (i := 2) (o' := obBlk E 30 #[.int .i64 g.d, .int .i64 g.n, .int .i64 g.k, .int .i64 g.x]) rfl hE4 ⟨o4, fun _ => .inl⟩; clear h3 o4 hE hE4 k0 k1 k2 k3))
            go_meet
            exact ⟨E, g, rfl, h4.out⟩
          · have hd2 : decide ((k : Int) < (len2 : Int)) = false := by rw [decide_eq_false_iff_not]; omega
            go_wp2_with fail
            go_meet
            exact ⟨E, ⟨1, (k : Int), (k : Int), y⟩, rfl, h3.out⟩
        case rest =>
          clear h3 hy
          obtain ⟨E, g, rfl, hx⟩ := hcut
          have hx : Hid (Apt w _ [obB M N f q r, obD A N p c q r, obBlk E 30 #[.int .i64 g.d, .int .i64 g.n, .int .i64 g.k, .int .i64 g.x]]) := hx
          obtain ⟨kb, off, rfl, ck⟩ := HKK.out k hlt
          obtain ⟨z, hz⟩ : ∃ z, Hid (z = z1.getD k 0) := ⟨_, rfl⟩
          rw [← hz.out] at ck
          have ckr := ck _ hx.out.grown
          clear ck
          go_upto_block 2 with fail
          go_cut [12, 13, 14, 15, 16, 17, 18, 19, 20] from 38 to 162 (fun sv _ _ _ _ _ _ _ _ wc => sv = .bool true ∧ ∃ (r f c : Nat) (p : Option Addr) (q : List Ev), f ≤ k + 1 ∧ Apt w wc [obB M N f q r, obD A N p c q r])
          case first =>
            rcases and3 z with hc | hc | hc | hc
            · by_cases hr : n + r < N
              · have of := reserve_y hx.out (i := 0) rfl (by rw [← hn.out]; exact hr)
                have og := fun W (h : Apt w W [obB M N f q (r + 1), obD A N p c q r, obBlk E 30 #[.int .i64 g.d, .int .i64 g.n, .int .i64 g.k, .int .i64 g.x]]) => rreserve_y h (i := 1) rfl (by rw [← hn.out]; exact hr) hroom.2
                unfold ptr at of og
                have hs2 : n + r < 4096 := by omega
                go_wp2_with (first | (go_at_call 11; refine of.mono ?_; rintro e w2 ⟨rfl, h2⟩; clear of hx; have h2 : Hid (Apt w w2 [obB M N f q (r + 1), obD A N p c q r, obBlk E 30 #[.int .i64 g.d, .int .i64 g.n, .int .i64 g.k, .int .i64 g.x]]) := h2; obtain ⟨c0, c1, c2, lA⟩ := obD_cells h2.out (i := 1) rfl; rw [← hn.out] at c1) | (go_at_call 12; refine (og _ h2.out).mono ?_; rintro e w3 ⟨rfl, h3⟩; clear og h2 c0 c1 c2; have h3 : Hid (Apt w w3 [obB M N f q (r + 1), obD A N p c q (r + 1), obBlk E 30 #[.int .i64 g.d, .int .i64 g.n, .int .i64 g.k, .int .i64 g.x]]) := h3))
                go_meet
                exact ⟨rfl, r + 1, f, c, p, q, by omega, two h3.out⟩
              · obtain ⟨s, cs⟩ := text_all T (n := 2) (k := (n : Int)) (m := (r : Int)) (by unfold In64; omega) (by unfold In64; omega) (by unfold In64; omega)
                have CS : Hid (∀ (W w : World) (l : List Ob) (i b : Nat), Tab W T → Apt W w l → l[i]? = some (obE b 2 (n : Int) (r : Int)) → Calls Tryd.prog 72 #[.pointer (some ⟨b, 0, none⟩)] w fun e w' => e = .returned (.string s) ∧ Apt W w' l) := cs
                have of : Calls Tryd.prog 11 #[.pointer (some ⟨M + 1, 0, none⟩)] wc fun e w' => ∃ b, e = .returned (.iface 55 (.pointer (some ⟨b, 0, none⟩))) ∧ Apt w w' [obB M N f q r, obD A N p c q r, obBlk E 30 #[.int .i64 g.d, .int .i64 g.n, .int .i64 g.k, .int .i64 g.x], obE b 2 (n : Int) (r : Int)] := by
                  have := reserve_n hx.out (i := 0) rfl (by rw [← hn.out]; omega)
                  rw [← hn.out] at this
                  exact this
                have og := fun W b (h : Apt w W [obB M N f q r, obD A N p c q r, obBlk E 30 #[.int .i64 g.d, .int .i64 g.n, .int .i64 g.k, .int .i64 g.x], obE b 2 (n : Int) (r : Int)]) => rreserve_n h (i := 1) rfl (by rw [← hn.out]; omega) (by rw [← hn.out]; omega)
                unfold ptr at og
                have mE := mErr
                have HT : Hid (Tab w T) := hT
                clear cs
                go_wp2_with (first | (go_at_call 11; refine of.mono ?_; rintro e w2 ⟨b, rfl, h2⟩; clear of hx; have h2 : Hid (Apt w w2 [obB M N f q r, obD A N p c q r, obBlk E 30 #[.int .i64 g.d, .int .i64 g.n, .int .i64 g.k, .int .i64 g.x], obE b 2 (n : Int) (r : Int)]) := h2; obtain ⟨c0, c1, c2, lA⟩ := obD_cells h2.out (i := 1) rfl; rw [← hn.out] at c1) | (go_at_call 12; refine (og _ _ h2.out).mono ?_; rintro e w3 ⟨rfl, h3⟩; clear og h2 c0 c1 c2; have h3 : Hid (Apt w w3 [obB M N f q r, obD A N p c q r, obBlk E 30 #[.int .i64 g.d, .int .i64 g.n, .int .i64 g.k, .int .i64 g.x], obE b 2 (n : Int) (r : Int)]) := h3) | (go_at_call 72; refine (CS.out w _ _ 3 b HT.out h3.out rfl).mono ?_; rintro e w4 ⟨rfl, h4⟩; clear h3; have h4 : Hid (Apt w w4 [obB M N f q r, obD A N p c q r, obBlk E 30 #[.int .i64 g.d, .int .i64 g.n, .int .i64 g.k, .int .i64 g.x], obE b 2 (n : Int) (r : Int)]) := h4) | (go_at_call 13; refine (wrap_s h4.out 2 (n : Int) (r : Int) (by decide)).mono ?_; rintro e w5 ⟨b5, rfl, h5⟩; clear h4; have h5 : Hid (Apt w w5 [obB M N f q r, obD A N p c q r, obBlk E 30 #[.int .i64 g.d, .int .i64 g.n, .int .i64 g.k, .int .i64 g.x], obE b 2 (n : Int) (r : Int), obE b5 2 (n : Int) (r : Int)]) := h5) | (go_at_call 72; refine (CS.out w _ _ 4 b5 HT.out h5.out rfl).mono ?_; rintro e w6 ⟨rfl, h6⟩; clear h5; have h6 : Hid (Apt w w6 [obB M N f q r, obD A N p c q r, obBlk E 30 #[.int .i64 g.d, .int .i64 g.n, .int .i64 g.k, .int .i64 g.x], obE b 2 (n : Int) (r : Int), obE b5 2 (n : Int) (r : Int)]) := h6))
                go_meet
                exact ⟨rfl, r, f, c, p, q, by omega, two h6.out⟩
            · obtain ⟨d, hd1⟩ : ∃ d, Hid (d = cdR r) := ⟨_, rfl⟩
              have hdd : (d == d) = true := by simp
              have of := commit_s hx.out.drew (i := 0) rfl g (by omega)
              have og := fun W (h : Apt w W [obB M N f (cmQ q r g) (r - 1), obD A N p c q r, obBlk E 30 #[.int .i64 g.d, .int .i64 g.n, .int .i64 g.k, .int .i64 g.x]]) => rcommit_s h (i := 1) rfl g (by omega) (by rw [← hn.out]; omega)
              rw [← hd1.out] at of og
              unfold ptr Ev.v at of og
              go_wp2_with fail
              obtain ⟨k0, k1, k2, k3, lE⟩ := ev_cells (hx.out.all 2 _ rfl)
              refine region_fill [2, 5, 6, 7] [(92, .pointer (some ⟨M + 1, 0, none⟩)), (93, .agg #[.int .i64 g.d, .int .i64 g.n, .int .i64 g.k, .int .i64 g.x]), (95, .pointer (some ⟨A, 0, none⟩)), (96, .agg #[.int .i64 g.d, .int .i64 g.n, .int .i64 g.k, .int .i64 g.x])] hmx (by kernel_rfl) (by kernel_rfl) ?_
              simp only [fills, Act.put, List.setIfInBounds_toArray, List.set_cons_zero, List.set_cons_succ]
              refine flow_ent (some 94) 14 #[.pointer (some ⟨M + 1, 0, none⟩), .agg #[.int .i64 g.d, .int .i64 g.n, .int .i64 g.k, .int .i64 g.x]] _ rfl rfl ?run (by go_simp) (of.mono ?_)
              case run =>
                clear of og
                intro i o ho hi
                iterate 8 (rcases i with _ | i; · first | (exact absurd hi (by decide)) | (cases ho; go_simp; done))
                cases ho
              rintro e w2 ⟨rfl, h2⟩
              refine ⟨_, rfl, ?_⟩
              simp only [Act.put, List.setIfInBounds_toArray, List.set_cons_zero, List.set_cons_succ]
              clear of hx k0 k1 k2 k3 lE
              have h2 : Hid (Apt w w2 [obB M N f (cmQ q r g) (r - 1), obD A N p c q r, obBlk E 30 #[.int .i64 g.d, .int .i64 g.n, .int .i64 g.k, .int .i64 g.x]]) := h2
              obtain ⟨k0, k1, k2, k3, lE⟩ := ev_cells (h2.out.all 2 _ rfl)
              refine flow_ent (some 97) 15 #[.pointer (some ⟨A, 0, none⟩), .agg #[.int .i64 g.d, .int .i64 g.n, .int .i64 g.k, .int .i64 g.x]] _ rfl rfl ?run (by go_simp) ((og _ h2.out).mono ?_)
              case run =>
                clear og
                intro i o ho hi
                iterate 8 (rcases i with _ | i; · first | (exact absurd hi (by decide)) | (cases ho; go_simp; done))
                cases ho
              rintro e w3 ⟨p', c', rfl, h3⟩
              refine ⟨_, rfl, ?_⟩
              simp only [Act.put, List.setIfInBounds_toArray, List.set_cons_zero, List.set_cons_succ]
              clear og h2 k0 k1 k2 k3 lE
              have h3 : Hid (Apt w w3 [obB M N f (cmQ q r g) (r - 1), obD A N p' c' (cmQ q r g) (r - 1), obBlk E 30 #[.int .i64 g.d, .int .i64 g.n, .int .i64 g.k, .int .i64 g.x]]) := h3
              obtain ⟨k0, k1, k2, k3, lE⟩ := ev_cells (h3.out.all 2 _ rfl)
              refine flow_val (some 98) (.bool true) w3 _ rfl rfl ?run (by go_simp) ?_
              case run =>
                intro i o ho hi
                iterate 8 (rcases i with _ | i; · first | (exact absurd hi (by decide)) | (cases ho; go_simp; done))
                cases ho
              simp only [Act.put, List.setIfInBounds_toArray, List.set_cons_zero, List.set_cons_succ]
              refine flow_val (some 12) (.bool true) w3 _ rfl rfl ?run (by go_simp) ?_
              case run =>
                intro i o ho hi
                iterate 8 (rcases i with _ | i; · first | (exact absurd hi (by decide)) | (cases ho; go_simp; done))
                cases ho
              clear k0 k1 k2 k3 lE
              simp only [Flow, Act.put, List.setIfInBounds_toArray, List.set_cons_zero, List.set_cons_succ]
              go_wp2_with fail
              go_meet
              exact ⟨rfl, r - 1, f, c', p', cmQ q r g, by omega, two h3.out⟩
            · obtain ⟨d, hd1⟩ : ∃ d, Hid (d = cdR r) := ⟨_, rfl⟩
              have hdd : (d == d) = true := by simp
              have of := cancel_s hx.out (i := 0) rfl
              have og := fun W (h : Apt w W [obB M N f q (r - 1), obD A N p c q r, obBlk E 30 #[.int .i64 g.d, .int .i64 g.n, .int .i64 g.k, .int .i64 g.x]]) => rcancel_s h (i := 1) rfl (by omega)
              rw [← hd1.out] at of og
              unfold ptr at of og
              go_wp2_with (first | (go_at_call 16; refine of.mono ?_; rintro e w2 ⟨rfl, h2⟩; clear of hx; have h2 : Hid (Apt w w2 [obB M N f q (r - 1), obD A N p c q r, obBlk E 30 #[.int .i64 g.d, .int .i64 g.n, .int .i64 g.k, .int .i64 g.x]]) := h2) | (go_at_call 17; refine (og _ h2.out).mono ?_; rintro e w3 ⟨rfl, h3⟩; clear og h2; have h3 : Hid (Apt w w3 [obB M N f q (r - 1), obD A N p c q (r - 1), obBlk E 30 #[.int .i64 g.d, .int .i64 g.n, .int .i64 g.k, .int .i64 g.x]]) := h3))
              go_meet
              exact ⟨rfl, r - 1, f, c, p, q, by omega, two h3.out⟩
            · obtain ⟨v, hv⟩ : ∃ v, Hid (v = q.getD 0 e0) := ⟨_, rfl⟩
              obtain ⟨b, hb⟩ : ∃ b, Hid (b = decide (0 < q.length)) := ⟨_, rfl⟩
              have of := take_s hx.out (i := 0) rfl (by omega)
              have og := fun W E1 (h : Apt w W [obB M N (nxF f q) q.tail r, obD A N p c q r, obBlk E 30 #[.int .i64 g.d, .int .i64 g.n, .int .i64 g.k, .int .i64 g.x], obBlk E1 30 #[.int .i64 v.d, .int .i64 v.n, .int .i64 v.k, .int .i64 v.x]]) => rtake_s h (i := 1) rfl (by rw [← hn.out]; omega)
              rw [← hv.out, ← hb.out] at of og
              unfold ptr Ev.v at of og
              have he := eqEv
              go_wp2_with (first | (go_at_call 18; refine of.mono ?_; rintro e w2 ⟨rfl, h2⟩; clear of hx; have h2 : Hid (Apt w w2 [obB M N (nxF f q) q.tail r, obD A N p c q r, obBlk E 30 #[.int .i64 g.d, .int .i64 g.n, .int .i64 g.k, .int .i64 g.x]]) := h2; have hZ := Go.Deep.blk_alloc_new w2 (.cells #[.int .i64 0, .int .i64 0, .int .i64 0, .int .i64 0] 30)) | (refine wpList_store_ev rfl rfl (.tmp 17) (.tmp 111) rfl w2.heap.size rfl rfl hZ rfl ?_; intro w3 hE o3; have h3 := h2.out.add (u := obBlk w2.heap.size 30 #[.int .i64 v.d, .int .i64 v.n, .int .i64 v.k, .int .i64 v.x]) (o3.grown ((Grown.refl w2).alloc _ _) (fun k hk => by omega)) hE (fun k hk => by have hk : k = w2.heap.size := hk; omega); obtain ⟨E1, hEEE1⟩ : ∃ E1, Hid (E1 = w2.heap.size) := ⟨_, rfl⟩; rw [← hEEE1.out] at h3 ⊢; clear h2 o3 hZ hE; have h3 : Hid (Apt w _ [obB M N (nxF f q) q.tail r, obD A N p c q r, obBlk E 30 #[.int .i64 g.d, .int .i64 g.n, .int .i64 g.k, .int .i64 g.x], obBlk E1 30 #[.int .i64 v.d, .int .i64 v.n, .int .i64 v.k, .int .i64 v.x]]) := h3) | (go_at_call 19; refine (og _ _ h3.out).mono ?_; rintro e w4 ⟨p', c', rfl, h4⟩; clear og h3; have h4 : Hid (Apt w w4 [obB M N (nxF f q) q.tail r, obD A N p' c' q.tail r, obBlk E 30 #[.int .i64 g.d, .int .i64 g.n, .int .i64 g.k, .int .i64 g.x], obBlk E1 30 #[.int .i64 v.d, .int .i64 v.n, .int .i64 v.k, .int .i64 v.x]]) := h4; have hZ := Go.Deep.blk_alloc_new w4 (.cells #[.int .i64 0, .int .i64 0, .int .i64 0, .int .i64 0] 30)) | (refine wpList_store_ev rfl rfl (.tmp 19) (.tmp 116) rfl w4.heap.size rfl rfl hZ rfl ?_; intro w5 hE o3; have h5 := h4.out.add (u := obBlk w4.heap.size 30 #[.int .i64 v.d, .int .i64 v.n, .int .i64 v.k, .int .i64 v.x]) (o3.grown ((Grown.refl w4).alloc _ _) (fun k hk => by omega)) hE (fun k hk => by have hk : k = w4.heap.size := hk; omega); obtain ⟨E2, hEEE2⟩ : ∃ E2, Hid (E2 = w4.heap.size) := ⟨_, rfl⟩; rw [← hEEE2.out] at h5 ⊢; clear h4 o3 hZ hE; have h5 : Hid (Apt w _ [obB M N (nxF f q) q.tail r, obD A N p' c' q.tail r, obBlk E 30 #[.int .i64 g.d, .int .i64 g.n, .int .i64 g.k, .int .i64 g.x], obBlk E1 30 #[.int .i64 v.d, .int .i64 v.n, .int .i64 v.k, .int .i64 v.x], obBlk E2 30 #[.int .i64 v.d, .int .i64 v.n, .int .i64 v.k, .int .i64 v.x]]) := h5; obtain ⟨j0, j1, j2, j3, lE1⟩ := ev_cells (h5.out.all 3 _ rfl); obtain ⟨k0, k1, k2, k3, lE2⟩ := ev_cells (h5.out.all 4 _ rfl)))
              go_meet
              exact ⟨rfl, r, nxF f q, c', p', q.tail, nxF_le hfk, two h5.out⟩
          case rest =>
            clear hx ckr hroom hn n hfk
            obtain ⟨rfl, r, f, c, p, q, hfk, hx⟩ := hcut
            have hroom := room hx (i := 0) rfl
            obtain ⟨n, hn⟩ : ∃ n, Hid (n = q.length) := ⟨_, rfl⟩
            obtain ⟨S, hS⟩ : ∃ S, Hid (S = wsum q) := ⟨_, rfl⟩
            have hx : Hid (Apt w _ [obB M N f q r, obD A N p c q r]) := hx
            have le : Hid (∀ (W : World), Apt w W [obB M N f q r, obD A N p c q r] → Calls Tryd.prog 20 #[.pointer (some ⟨M + 1, 0, none⟩)] W fun e w' => e = .returned (.int .i64 (n : Int)) ∧ w' = W) := fun W h => by
              rw [hn.out]; exact len_s h (i := 0) rfl
            have we : Hid (∀ (W : World), Apt w W [obB M N f q r, obD A N p c q r] → Calls Tryd.prog 23 #[.pointer (some ⟨M + 1, 0, none⟩)] W fun e w' => e = .returned (.int .i64 S) ∧ w' = W) := fun W h => by
              rw [hS.out]; exact weight_s h (i := 0) rfl
            have wd : Hid (∀ (W : World), Apt w W [obB M N f q r, obD A N p c q r] → Calls Tryd.prog 24 #[.pointer (some ⟨A, 0, none⟩)] W fun e w' => e = .returned (.int .i64 S) ∧ w' = W) := fun W h => by
              rw [hS.out]; exact rweight_s h (i := 1) rfl (by omega)
            obtain ⟨c0, c1, c2, lA⟩ := obD_cells hx.out (i := 1) rfl
            rw [← hn.out] at c1
            go_wp2_with fail
            go_quiet (first | (go_at_call 20; exact Calls.quiet_of_same (le.out _ (hx.out.drewN _))) | (go_at_call 21; exact Calls.quiet_of_same (reserved_s (hx.out.drewN _) (i := 0) rfl)) | (go_at_call 22; exact Calls.quiet_of_same (size_s (hx.out.drewN _) (i := 0) rfl)) | (go_at_call 23; exact Calls.quiet_of_same (we.out _ (hx.out.drewN _))) | (go_at_call 24; exact Calls.quiet_of_same (wd.out _ (hx.out.drewN _))))
            go_wp2_with fail
            go_roundw
            case rel => exact ⟨k + 1, r, f, c, p, q, by omega, by go_num, hfk, hx.out.drewN _⟩
            case measure => simp [intOf]; omega
      · obtain rfl : k = len1 := by omega
        have hd : decide ((k : Int) < (k : Int)) = false := by rw [decide_eq_false_iff_not]; omega
        go_wp2_with fail
        go_ret
        exact ⟨rfl, hx.out.grown⟩

/-! ### The row's step -/
set_option maxRecDepth 100000 in
theorem lifted (os : Os) (started : os.Started) (H : Type) (enc : TypeId × Value → H) :
    ReturnsInHanded {} Tryd.checked os 3 .any (fun w args => (Rows.writesPlaySpec.pre enc Tryd.prog Tryd.f3 [] false w args ∧ laidMetH Tryd.prog [("errors.errorType", Rows.laid_errors_errorType)] w) ∧ sizedMet enc Tryd.prog Tryd.f3 (OpenSpec.ofChange Rows.writesPlaySpec) false w args) (Rows.writesPlaySpec.post enc Tryd.prog Tryd.f3 false true false false) := by
  refine returns_shaped (C := Tryd.checked) (X := fun w _ => laidMetH Tryd.prog [("errors.errorType", Rows.laid_errors_errorType)] w) (fun _ _ _ hh h => h.of_heap hh) Tryd.own started (by kernel_rfl) Tryd.func3
    (ChangeSpec.witness_at (enc := enc) (C := Tryd.checked) (os := os) (X := fun w _ => laidMetH Tryd.prog [("errors.errorType", Rows.laid_errors_errorType)] w) false (laidWorld os) #[.int .i64 0, .slice none 0 0, .slice none 0 0] 8 rfl (by kernel_rfl) (by kernel_rfl) (by kernel_rfl) (by kernel_rfl) (by kernel_rfl) (laidWorld_met os _)) ?_
  intro W base args ds gs before hval0 hW hcnd hL hsh
  have hval : ∀ (j : Nat) t v, Tryd.f3.params[j]? = some t → args[j]? = some v → Value.okWide Tryd.prog W .any base t v := hval0
  have hW' := hW
  obtain ⟨p, q, hA0, hV, rfl, hfz, hnd⟩ := hW
  have hA : DataW.TrodAll enc Tryd.prog W 0 (fun _ => true) true Tryd.f3.params.toList args.toList ds p := hA0
  rw [Tryd.params3] at hA hval
  obtain ⟨v0, vs0, d0, ds0, p0, q0, hargs, rfl, rfl, h0, r0⟩ := trodAll_cons hA
  obtain ⟨v1, vs1, d1, ds1, p1, q1, rfl, rfl, rfl, h1, r1⟩ := trodAll_cons r0
  obtain ⟨v2, vs2, d2, ds2, p2, q2, rfl, rfl, rfl, h2, r2⟩ := trodAll_cons r1
  obtain ⟨rfl, rfl, rfl⟩ := trodAll_nil r2
  obtain rfl : args = #[v0, v1, v2] := by cases args; simp_all
  obtain ⟨rfl, rfl⟩ := trodVars_none hV
  obtain ⟨a0, rfl, rfl, rfl, w0⟩ := open_int Tryd.underlying3 (hval 0 3 v0 rfl rfl) h0
  obtain ⟨a1, len1, cap1, rfl⟩ := okWide_slice Tryd.underlying22 (hval 1 22 v1 rfl rfl)
  have k1 := h1
  have lt1 : ∀ x ∈ p1, x.block < W.heap.size := by obtain ⟨m, hm⟩ := k1; exact DataW.trod_lt m _ _ _ hm
  obtain ⟨z1, w1⟩ : ∃ zs, IsInts .i64 W a1 len1 cap1 zs := by
    obtain ⟨fuel, hf⟩ := h1
    rcases open_ints Tryd.underlying22 Tryd.underlying3 (by kernel_rfl) hf with ⟨hcs, _⟩ | ⟨x, l, c, zs, hcs, _, hl, hm, hz, _, hcell, hwz⟩
    · simp [Value.cells] at hcs
      obtain ⟨rfl, rfl, rfl⟩ := hcs
      exact ⟨[], .inl ⟨rfl, rfl, rfl, rfl⟩⟩
    · simp [Value.cells] at hcs
      obtain ⟨rfl, rfl, rfl⟩ := hcs
      exact ⟨zs, .inr ⟨_, rfl, hl, hm, by simpa using hz, hcell, hwz⟩⟩
  obtain ⟨a2, len2, cap2, rfl⟩ := okWide_slice Tryd.underlying23 (hval 2 23 v2 rfl rfl)
  have k2 := h2
  have lt2 : ∀ x ∈ p2, x.block < W.heap.size := by obtain ⟨m, hm⟩ := k2; exact DataW.trod_lt m _ _ _ hm
  obtain ⟨z2, w2⟩ := open_structs (n := 4) (k := .i64) Tryd.underlying23 Tryd.underlying30 (by kernel_rfl) (by
    intro i hi
    match i, hi with
    | 0, _ => exact ⟨_, rfl, Tryd.underlying3, by kernel_rfl, rfl⟩
    | 1, _ => exact ⟨_, rfl, Tryd.underlying3, by kernel_rfl, rfl⟩
    | 2, _ => exact ⟨_, rfl, Tryd.underlying3, by kernel_rfl, rfl⟩
    | 3, _ => exact ⟨_, rfl, Tryd.underlying3, by kernel_rfl, rfl⟩) h2
  clear hA0 hval0
  refine (walk a0 a1 len1 cap1 z1 a2 len2 cap2 z2 W (laid_of_met hL) hsh w0 w1 w2).mono fun e W' ⟨he, bel⟩ => ?_
  subst he
  exact ⟨_, rfl, _, _, _, [], _, [], hW', trodAll_mk1 (shut_bool Tryd.underlying4 _), (trodAll_cons_mk (shut_int Tryd.underlying3 w0) (trodAll_cons_mk (grown_trod laidOut (by kernel_rfl) (of_decide_eq_true (by kernel_rfl)) k1 bel lt1) (trodAll_cons_mk (grown_trod laidOut (by kernel_rfl) (of_decide_eq_true (by kernel_rfl)) k2 bel lt2) trodAll_mk0))), rfl, bel.frame _, fun h => by cases h⟩

theorem over : Rows.writesPlayRow.holds Tryd.pinned (OpenSpec.ofChange Rows.writesPlaySpec) :=
  OpenClaim.holds_of_wide 3 Tryd.f3 rfl rfl rfl rfl rfl rfl rfl ⟨rfl, rfl, rfl, rfl, rfl⟩ rfl rfl rfl rfl rfl (by kernel_rfl) Tryd.func3 (by kernel_rfl)
    (of_decide_eq_true (by kernel_rfl)) (by unfold Func.isWrapper; first | (rw [if_pos (by decide +kernel)]; kernel_rfl) | (rw [if_neg (by decide +kernel)]; exact ⟨rfl, rfl⟩))
    (fun os started H enc _ => lifted os started H enc)

/-- The card. -/
theorem proved : Rows.WritesPlayCardSaid :=
  Claim7.holds_tied_plain_at .later [] [.handle] true (true, "2722ad2fa73c23a01c9272db080880642b41ed3927dea9d586d89d666420e5f9") true
    over (fun _ h => by cases h) (by kernel_rfl) (fun _ h => by cases h) writesPlay_row_tie rfl ⟨rfl, rfl⟩ (by kernel_rfl) rfl
    (fun f fn hf hfn => by
      obtain rfl : f = 3 := Option.some.inj ((show Tryd.prog.funcNamed "pantry/pantrylaw14.WritesPlay" = some 3 by kernel_rfl).symm.trans hf) |>.symm
      obtain rfl : fn = Tryd.f3 := (Option.some.inj (Tryd.func3.symm.trans hfn)).symm
      exact ⟨by kernel_rfl, fun j t ht => noStandIn (by kernel_rfl) ht⟩)
    (by kernel_rfl)
end Go.Proofs.YtigmjgmkeoineaaDoor.writesPlay

namespace Go.Proofs.YtigmjgmkeoineaaDoor
/-- The given statement. -/
theorem writesPlay_holds : Rows.WritesPlayCardSaid := writesPlay.proved
#print axioms writesPlay_holds
end Go.Proofs.YtigmjgmkeoineaaDoor
