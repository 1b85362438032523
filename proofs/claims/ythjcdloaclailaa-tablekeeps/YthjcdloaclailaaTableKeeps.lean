/-
  Proved: pantrylaw15.TableKeeps returns true for every seed, every slice of keys and every key: what is put over what was keeps its place in its chain (P15.3). No condition.
-/
import Derived.Test.YthjcdloaclailaaRows
import Derived.WalkKit
import Derived.ProofKit
import Derived.OpenShut
import Derived.Test.YthjcdloaclailaaTbSmall
import Derived.Test.YthjcdloaclailaaTbChn
import Derived.Test.YthjcdloaclailaaGenFlowI
import Derived.BigQuiet
import Derived.ShutString
import Derived.ChangeOld
import Derived.Below
namespace Go.Proofs.Ythjcdloaclailaa.tableKeeps
open Go.ChangeShapes Go.WideShapes Go.ChangeAt Go.RowKit
open Go.ChangeMaps (open_string shut_string)
set_option linter.unusedVariables false

theorem own : ownKnob Try.prog.godebug = none := by kernel_rfl
theorem laidOut : laidOutB Try.prog = true := by kernel_rfl

/-- WHAT THE WALK IS TOLD OF A SLICE OF INTEGERS THAT CAME IN: it is nil; or it leads to a row of 'cap' cells, the numbers 'zs' (the first 'len' are its elements, the rest its spare room), each fitting its kind. -/
def IsRow (k : IntKind) (w : World) (a : Option Addr) (len cap : Nat) (zs : List Int) : Prop :=
  (a = none ∧ len = 0 ∧ cap = 0 ∧ zs = []) ∨
  ∃ x, a = some x ∧ len ≤ cap ∧ cap ≤ maxLen ∧ zs.length = cap ∧ (∀ i, i < zs.length → w.cell? (x.add i) = some (.int k (zs.getD i 0))) ∧ ∀ n ∈ zs, (Lit.int k n).wf = true

/-! ### STEP 1: THE WALK: the Go text returns true, AND WRITES NOTHING THAT WAS THERE: 'Below w.heap.size w w'' (Derived/Below.lean: '.refl', '.alloc', '.drew', '.setCell' at a new block, '.trans'). Open each 'IsRow' by 'rcases' AHEAD of 'go_enter'; part every test ahead of the walk. -/
open Go.Proofs.Ythjcdloaclailaa.Us Go.Proofs.Ythjcdloaclailaa.Tb in set_option maxRecDepth 20000 in set_option maxHeartbeats 8000000 in
theorem walk (a0 : Int) (a1 : Option Addr) (len1 cap1 : Nat) (z1 : List Int) (a2 : Int) (w : World) (w0 : (Lit.int .i64 a0).wf = true) (w1 : IsRow .i64 w a1 len1 cap1 z1) (w2 : (Lit.int .i64 a2).wf = true) :
    Calls Try.prog 8 #[.int .i64 a0, .slice a1 len1 cap1, .int .i64 a2] w fun e w' => e = .returned (.bool true) ∧ Grown w w' := by
  have hk1 := keys_open w1
  clear w0 w1 w2
  have nw := fun (w1 : World) (g : Grown w w1) => new_e a0 (Apt.none g)
  by_cases hl : 100 < len1
  · clear hk1
    have d1 : decide (100 < (len1 : Int)) = true := by rw [decide_eq_true_eq]; omega
    go_enter Try.func8, Try.ntmps8
    go_wp2_with (first | (go_at_call 9; refine (Tb.small_s _).mono ?_; rintro e ws ⟨rfl, hgs⟩) | (go_at_call 10; refine (nw _ hgs).mono ?_; rintro e wx ⟨t, rfl, hx, _⟩; clear nw hgs; unfold ptr))
    go_ret
    exact ⟨rfl, hx.grown⟩
  · have d1 : decide (100 < (len1 : Int)) = false := by rw [decide_eq_false_iff_not]; omega
    have hlen : len1 ≤ 100 := by omega
    have hkk : ∀ k, k < len1 → ∃ kb off, a1 = some ⟨kb, off, none⟩ ∧ ∀ W, Grown w W → W.cell? ⟨kb, off + k, none⟩ = some (.int .i64 (z1.getD k 0)) := fun k hlt => by
      rcases hk1 with h | ⟨kb, off, h1, h2, h3⟩
      · omega
      · exact ⟨kb, off, h1, fun W g => keys_cell (h3 k hlt) h2 g⟩
    clear hk1 hl
    go_enter Try.func8, Try.ntmps8
    go_wp2_with (first | (go_at_call 9; refine (Tb.small_s _).mono ?_; rintro e ws ⟨rfl, hgs⟩) | (go_at_call 10; refine (nw _ hgs).mono ?_; rintro e wx ⟨t, rfl, hx, t1⟩; clear nw hgs; obtain ⟨X, hX⟩ : ∃ X, Hid (t.X = X) := ⟨_, rfl⟩; rw [hX.out]; have hx : Hid (Apt w wx [obT t]) := hx; have t1 : Hid _ := t1; unfold ptr))
    have hin : Hid (t.es.length ≤ 0 ∧ t.n ≤ 8 + 2 * 0 ∧ t.s = a0) := ⟨by rw [t1.out.1]; exact Nat.le_refl _, by rw [t1.out.2.1]; omega, t1.out.2.2.2⟩
    clear t1
    go_loopw [9] (fun i wr => ∃ (k : Nat) (u : Tab), k ≤ len1 ∧ i = .int .i64 (k : Int) ∧ Hid (u.X = X) ∧ Hid (u.es.length ≤ k ∧ u.n ≤ 8 + 2 * k ∧ u.s = a0) ∧ Hid (Apt w wr [obT u])) (fun i _ => len1 - (intOf i).toNat)
    case atStart => exact ⟨0, t, by omega, rfl, hX, hin, hx⟩
    case round =>
      clear hx hin hX
      obtain ⟨k, u, hk, rfl, hX, hu, hx⟩ := hrel
      by_cases hlt : k < len1
      · have hd : decide ((k : Int) < (len1 : Int)) = true := by rw [decide_eq_true_eq]; omega
        obtain ⟨kb, off, rfl, ck⟩ := hkk k hlt
        obtain ⟨y, hy⟩ : ∃ y, y = z1.getD k 0 := ⟨_, rfl⟩
        rw [← hy] at ck
        have ck1 := ck _ hx.out.grown
        have pt := put_any hx.out (i := 0) rfl hX.out ⟨y, 0, 0, 0⟩ (by have := hu.out.1; omega)
        clear hy hkk ck hx
        go_wp2_with (go_at_call 12; refine pt.mono ?_; rintro e w2 ⟨v2, b2, t2, rfl, hX2, h2, hu2⟩; clear pt ck1)
        go_roundw
        case rel => exact ⟨k + 1, t2, by omega, by go_num, hX2, ⟨by have := hu.out.1; have := hu2.out.1; omega, by have := hu.out; have := hu2.out.2.1; omega, by rw [hu2.out.2.2]; exact hu.out.2.2⟩, h2⟩
        case measure => simp [intOf]; omega
      · obtain rfl : k = len1 := by omega
        have hd : decide ((k : Int) < (k : Int)) = false := by rw [decide_eq_false_iff_not]; omega
        have hin : Hid (u.es.length ≤ 150 ∧ u.n ≤ 308 ∧ u.s = a0 ∧ u.l + 0 ≤ 1000) := ⟨by have := hu.out.1; omega, by have := hu.out.2.1; omega, hu.out.2.2, by have := (hx.out.all 0 _ rfl : Tb.Tb _ u).sh.le; have := hu.out.2.1; omega⟩
        clear hu hkk
        go_wp2
        go_loopw [10] (fun i wr => ∃ (k : Nat) (t : Tab), i = .int .i64 (k : Int) ∧ Hid (t.X = X) ∧ Hid (t.es.length ≤ 150 ∧ t.n ≤ 308 ∧ t.s = a0 ∧ t.l + k ≤ 1000) ∧ Hid (Apt w wr [obT t])) (fun i _ => 1001 - (intOf i).toNat)
        case atStart => exact ⟨0, u, rfl, hX, hin, hx⟩
        case round =>
          clear hx hin hX
          obtain ⟨i, v, rfl, hX, hv, hx⟩ := hrel
          obtain ⟨L, hL⟩ : ∃ L, Hid (v.l = L) := ⟨_, rfl⟩
          have hi : i ≤ 1000 := by have := hv.out.2.2.2; omega
          have hd2 : decide ((i : Int) < 2000) = true := by rw [decide_eq_true_eq]; omega
          have lf := left_s hx.out (i := 0) rfl
          rw [hX.out, hL.out] at lf
          unfold ptr at lf
          by_cases h0 : 0 < L
          · have g1 : decide (0 < L) = true := decide_eq_true h0
            have g2 : decide ((L : Int) > 0) = true := by rw [decide_eq_true_eq]; omega
            have rm := rem_some hx.out (i := 0) rfl hX.out (-9223372036854775808) (by have := hv.out.1; omega)
            clear hx
            go_wp2_with (first
              | (go_at_call 21; refine lf.mono ?_; rintro e w' ⟨rfl, hw⟩; have hw := hw.symm; subst hw; clear lf)
              | (go_at_call 14; refine rm.mono ?_; rintro e w2 ⟨v2, b2, t2, rfl, hX2, h2, hu2⟩; clear rm))
            go_roundw
            case rel => exact ⟨i + 1, t2, by go_num, hX2, ⟨by have := hv.out.1; have := hu2.out.1; omega, by rw [hu2.out.2.1]; exact hv.out.2.1, by rw [hu2.out.2.2.2]; exact hv.out.2.2.1, by have := hu2.out.2.2.1; have := hv.out.2.2.2; rw [hL.out] at *; omega⟩, h2⟩
            case measure => simp [intOf]; omega
          · obtain rfl : L = 0 := by omega
            have g1 : decide ((0 : Int) > 0) = false := by decide
            have hL : Hid (v.l = 0) := hL
            rcases es_or v.es a2 with ⟨r, hr1⟩ | hn1
            · have hr : Hid (r ∈ v.es ∧ r.k = a2) := hr1
              have gt := get_some hx.out (i := 0) rfl hX.out hr1.1
              rw [hr1.2] at gt
              clear hr1
              have rk : Hid (r.k = a2) := hr.out.2
              obtain ⟨N, hN⟩ : ∃ N, Hid (v.n = N) := ⟨_, rfl⟩
              have hN1 : N ≤ 308 := by rw [← hN.out]; exact hv.out.2.1
              have hm : Hid (v.es.length ≤ 1000000) := by have := hv.out.1; show _ ≤ _; omega
              clear hx
              go_wp2_with (first
                | (go_at_call 21; refine lf.mono ?_; rintro e w' ⟨rfl, hw⟩; have hw := hw.symm; subst hw; clear lf)
                | (go_at_call 16; refine gt.mono ?_; rintro e w4 ⟨rfl, h4⟩; clear gt; have h5 : Hid (Apt w (w4.alloc (.cells #[.int .i64 a2, .int .i64 r.a, .int .i64 r.x, .int .i64 r.n] 30)) [obT v]) := h4.out.more ((Grown.refl _).alloc _ _); clear h4; have lf2 := left_s h5.out (i := 0) rfl; rw [hX.out, hL.out] at lf2; unfold ptr at lf2)
                | (go_at_call 21; refine lf2.mono ?_; rintro e w' ⟨rfl, hw⟩; have hw := hw.symm; subst hw; clear lf2))
              have h6 : Hid (Apt w _ [obT v, obW none 0 0 (fun _ => .slice none 0 0)]) := h5.out.add (Grown.refl _) (Vec.nil _ _ _ _) fun _ hk => absurd hk In.no
              clear h5
              go_loopw [13, 14] (fun wv bv wr => ∃ (b c : Nat) (p : Option Addr) (f : Nat → Value) (chs : List Ob), b ≤ N ∧ bv = .int .i64 (b : Int) ∧ wv = .slice p b c ∧ Hid (Apt w wr ([obT v, obW p b c f] ++ chs)) ∧ Hid (chs.length = b ∧ ∀ j, j < b → ∃ pj cj, chs[j]? = some (obV pj cj (v.kAt (j : Int))) ∧ f j = .slice pj (v.kAt (j : Int)).length cj)) (fun _ b _ => N - (intOf b).toNat)
              case atStart => exact ⟨0, 0, none, _, [], by omega, rfl, rfl, h6, rfl, fun j hj => by omega⟩
              case round =>
                clear h6
                obtain ⟨b, c, p, f, chs, hb, rfl, rfl, hx, hch⟩ := hrel
                have bk := buckets_s hx.out (i := 0) rfl
                rw [hX.out, hN.out] at bk
                unfold ptr at bk
                by_cases hbn : b < N
                · have hd3 : decide ((b : Int) < (N : Int)) = true := by rw [decide_eq_true_eq]; omega
                  have ch := chain_e hx.out (i := 0) rfl hX.out hm.out (b : Int)
                  obtain ⟨q, hq⟩ : ∃ q, Hid (q = v.kAt (b : Int)) := ⟨_, rfl⟩
                  rw [← hq.out] at ch
                  obtain ⟨Q, hQ⟩ : ∃ Q, Hid (Q = q.length) := ⟨_, rfl⟩
                  rw [← hQ.out] at ch
                  clear hx
                  go_wp2_with (first
                    | (go_at_call 20; refine bk.mono ?_; rintro e w' ⟨rfl, hw⟩; have hw := hw.symm; subst hw; clear bk)
                    | (go_at_call 24; refine ch.mono ?_; rintro e w2 ⟨p2, c2, rfl, h2⟩; clear ch; have h2 : Hid (Apt w w2 ([obT v, obW p b c f] ++ chs ++ [obV p2 c2 q])) := h2)
                    | (at_builtin; refine wpList_append_vec rfl (.tmp 84) (.tmp 88) 50 rfl Try.underlying50 infoSl rfl rfl (f := f) ((h2.out.all 1 _ rfl : Vec w2 _ 1 p b c f).grown ((Grown.refl _).alloc _ _)) rfl (by decide) (new_int _ _ _) (fun _ _ => rfl) (by omega) (by omega) ?_; intro p' c' w3 hv3 ho3 hp3; have h3 : Hid (Apt w w3 ([obT v, obW p' (b + 1) c' (fun j => if j < b then f j else .slice p2 Q c2)] ++ chs ++ [obV p2 c2 q])) := appended_w h2.out (i := 1) rfl hv3 ho3 hp3; clear hv3 ho3 hp3 h2))
                  go_roundw
                  case rel =>
                    refine ⟨b + 1, c', p', _, chs ++ [obV p2 c2 q], by omega, by go_num, rfl, h3, by rw [List.length_append, hch.out.1]; rfl, fun j hj => ?_⟩
                    by_cases e : j < b
                    · obtain ⟨pj, cj, h1, h2⟩ := hch.out.2 j e
                      exact ⟨pj, cj, by rw [List.getElem?_append_left (by rw [hch.out.1]; exact e)]; exact h1, by rw [if_pos e]; exact h2⟩
                    · obtain rfl : j = b := by omega
                      exact ⟨p2, c2, by rw [List.getElem?_append_right (by rw [hch.out.1]; exact Nat.le_refl _), hch.out.1, hq.out]; simp, by rw [if_neg e, ← hq.out, hQ.out]⟩
                  case measure => simp [intOf]; omega
                · obtain rfl : b = N := by omega
                  have hd3 : decide ((b : Int) < (b : Int)) = false := by rw [decide_eq_false_iff_not]; omega
                  have pk := put_keep hx.out (i := 0) rfl hX.out ⟨a2, 9, 0, 0⟩ hr.out hL.out
                  clear hx
                  go_wp2_with (first
                    | (go_at_call 20; refine bk.mono ?_; rintro e w' ⟨rfl, hw⟩; have hw := hw.symm; subst hw; clear bk)
                    | (go_at_call 12; refine pk.mono ?_; rintro e w5 ⟨t2, rfl, hX2, h5, ht2⟩; clear pk; have h5 : Hid (Apt w (w5.alloc (.cells #[.int .i64 r.k, .int .i64 r.a, .int .i64 r.x, .int .i64 r.n] 30)) ([obT t2, obW p b c f] ++ chs)) := h5.out.more ((Grown.refl _).alloc _ _)))
                  obtain ⟨N, hNb⟩ : ∃ N, Hid (N = b) := ⟨_, rfl⟩
                  have hm2 : Hid (t2.es.length ≤ 1000000) := by rw [ht2.out.2.2.1]; exact hm.out
                  have hn2 : Hid (t2.n = N) := by show _ = _; rw [ht2.out.2.1, hN.out, hNb.out]
                  rw [← hNb.out] at hch h5 ⊢
                  clear hd3 hbn hb hN1 hN
                  have hN1 : N ≤ 131072 := by rw [← hn2.out]; exact (h5.out.all 0 _ rfl : Tb.Tb _ t2).sh.hi
                  go_loopw [17] (fun bv wr => ∃ (b : Nat), b ≤ N ∧ bv = .int .i64 (b : Int) ∧ Hid (Apt w wr ([obT t2, obW p N c f] ++ chs))) (fun b _ => N - (intOf b).toNat)
                  case atStart => exact ⟨0, by omega, rfl, h5⟩
                  case round =>
                    clear h5
                    obtain ⟨b, hb, rfl, hx⟩ := hrel
                    have bk := buckets_s hx.out (i := 0) rfl
                    rw [hX2.out, hn2.out] at bk
                    unfold ptr at bk
                    by_cases hbn : b < N
                    · have hd3 : decide ((b : Int) < (N : Int)) = true := by rw [decide_eq_true_eq]; omega
                      have hbi : (b : Int) < (N : Int) := by omega
                      obtain ⟨q, hq⟩ : ∃ q, Hid (q = v.kAt (b : Int)) := ⟨_, rfl⟩
                      obtain ⟨Q, hQ⟩ : ∃ Q, Hid (Q = q.length) := ⟨_, rfl⟩
                      obtain ⟨pj, cj, hcj, hfj⟩ := hch.out.2 b hbn
                      rw [← hq.out] at hcj hfj
                      rw [← hQ.out] at hfj
                      have hcj : Hid (chs[b]? = some (obV pj cj q)) := hcj
                      obtain ⟨Bw, rfl, _, _, _, _⟩ := Vec.opens (hx.out.all 1 _ rfl) (by omega)
                      have HI : Hid (∀ W, Apt w W ([obT t2, obW (some ⟨Bw, 0, none⟩) N c f] ++ chs) → W.cell? ⟨Bw, b, none⟩ = some (.slice pj Q cj) ∧ Bw < W.heap.size) := fun W h => by
                        obtain ⟨B', e, lB, cB, _, _⟩ := Vec.opens (h.all 1 _ rfl) (by omega)
                        cases e
                        refine ⟨?_, lB⟩
                        rw [cB b (by omega)]
                        exact congrArg some hfj
                      have hQm : Hid (Q ≤ 1000000) := by
                        have h1 := (hx.out.all 0 _ rfl : Tb.Tb _ t2).sh
                        have h2 := hm2.out
                        rw [hQ.out, hq.out, ← ht2.out.2.2.2]
                        show _ ≤ _
                        unfold Tab.kAt
                        split
                        · rename_i g
                          have := chain_le h1 (j := (b : Int).toNat) (by have := g.2.1; omega)
                          rw [es_len] at this
                          simp [kz] at this ⊢
                          omega
                        · simp
                      clear hfj
                      go_wp2_with (go_at_call 20; refine bk.mono ?_; rintro e w' ⟨rfl, hw⟩; have hw := hw.symm; subst hw; clear bk)
                      refine region_fillI [2, 7, 8] [(109, .pointer (some ⟨X, 0, none⟩)), (110, .int .i64 (b : Int)), (112, .slice (some ⟨Bw, 0, none⟩) N c), (113, .int .i64 (b : Int)), (114, .pointer (some ⟨Bw, b, none⟩)), (115, .slice pj Q cj)] [(8, .pointer (some ⟨X, 0, none⟩)), (17, .int .i64 (b : Int)), (13, .slice (some ⟨Bw, 0, none⟩) N c), (109, .pointer (some ⟨X, 0, none⟩)), (110, .int .i64 (b : Int)), (112, .slice (some ⟨Bw, 0, none⟩) N c), (113, .int .i64 (b : Int)), (114, .pointer (some ⟨Bw, b, none⟩)), (115, .slice pj Q cj)] (fun W => W.cell? ⟨Bw, b, none⟩ = some (.slice pj Q cj) ∧ Bw < W.heap.size) hmx (by kernel_rfl) (by kernel_rfl) ?hk (by kernel_rfl) ?runs ?_
                      case hk =>
                        simp only [fills, Act.put, List.setIfInBounds_toArray, List.set_cons_zero, List.set_cons_succ]
                        exact ⟨rfl, rfl, rfl, rfl, rfl, rfl, rfl, rfl, rfl, trivial⟩
                      case runs =>
                        rintro A W ⟨e8, e17, e13, e109, e110, e112, e113, e114, e115, _⟩ g
                        obtain ⟨cw, lw⟩ := g
                        intro i o ho hi
                        iterate 9 (rcases i with _ | i; · first | (exact absurd hi (by decide)) | (cases ho; go_simp; done))
                        cases ho
                      simp only [fills, Act.put, List.setIfInBounds_toArray, List.set_cons_zero, List.set_cons_succ]
                      have hx : Hid (Apt w wr.drew ([obT t2, obW (some ⟨Bw, 0, none⟩) N c f] ++ chs)) := hx.out.drew
                      generalize wr.drew = W1 at hx ⊢
                      have ch := chain_e hx.out (i := 0) rfl hX2.out hm2.out (b : Int)
                      rw [ht2.out.2.2.2, ← hq.out, ← hQ.out] at ch
                      refine flowI_ent (some 111) 24 #[.pointer (some ⟨X, 0, none⟩), .int .i64 (b : Int)] _ rfl rfl (HI.out _ hx.out) (by go_simp) ((ch).mono ?_)
                      rintro _ w6 ⟨p6, c6, rfl, h6⟩
                      refine ⟨_, rfl, ?_⟩
                      simp only [Act.put, List.setIfInBounds_toArray, List.set_cons_zero, List.set_cons_succ]
                      clear ch hx
                      have h6 : Hid (Apt w w6 (([obT t2, obW (some ⟨Bw, 0, none⟩) N c f] ++ chs) ++ [obV p6 c6 q])) := h6
                      have it := ints_s h6.out (at_end _ _) (j := 2 + b) (by rw [List.getElem?_append_left (by simp; rw [hch.out.1]; omega)]; show ([obT t2, obW (some ⟨Bw, 0, none⟩) N c f] ++ chs)[2 + b]? = _; rw [List.getElem?_append_right (by simp), show 2 + b - [obT t2, obW (some ⟨Bw, 0, none⟩) N c f].length = b by simp]; exact hcj.out) (by rw [← hQ.out]; exact hQm.out)
                      rw [← hQ.out] at it
                      refine flowI_ent (some 116) 23 #[.slice p6 Q c6, .slice pj Q cj] _ rfl rfl (HI.out _ h6.out.front) (by go_simp) ((it).mono ?_)
                      rintro _ w7 ⟨rfl, h7⟩
                      refine ⟨_, rfl, ?_⟩
                      simp only [Act.put, List.setIfInBounds_toArray, List.set_cons_zero, List.set_cons_succ]
                      clear it h6
                      refine flowI_val (some 117) (.bool false) (w7) _ rfl rfl (HI.out _ h7.front) (by go_simp) ?_
                      simp only [Act.put, List.setIfInBounds_toArray, List.set_cons_zero, List.set_cons_succ]
                      first | show Exit.then _ _ Exit.normal _ _ | show Exit.inBlock _ _ Exit.normal _ _
                      go_wp2
                      go_roundw
                      case rel => exact ⟨b + 1, by omega, by go_num, h7.front⟩
                      case measure => simp [intOf]; omega
                    · obtain rfl : b = N := by omega
                      have hd3 : decide ((b : Int) < (b : Int)) = false := by rw [decide_eq_false_iff_not]; omega
                      have gt2 := get_some hx.out (i := 0) rfl hX2.out ht2.out.1
                      go_wp2_with (first
                        | (go_at_call 20; refine bk.mono ?_; rintro e w' ⟨rfl, hw⟩; have hw := hw.symm; subst hw; clear bk)
                        | (go_at_call 16; refine gt2.mono ?_; rintro e w9 ⟨rfl, h9⟩; clear gt2))
                      go_ret
                      exact ⟨rfl, h9.out.grown.alloc _ _⟩
            · have gt := get_n hx.out (i := 0) rfl hX.out hn1
              unfold En.v e0 at gt
              clear hx
              go_wp2_with (first
                | (go_at_call 21; refine lf.mono ?_; rintro e w' ⟨rfl, hw⟩; have hw := hw.symm; subst hw; clear lf)
                | (go_at_call 16; refine gt.mono ?_; rintro e w4 ⟨rfl, h4⟩; clear gt; have h5 : Hid (Apt w (w4.alloc (.cells #[.int .i64 0, .int .i64 0, .int .i64 0, .int .i64 0] 30)) [obT v]) := h4.more ((Grown.refl _).alloc _ _); clear h4; have lf2 := left_s h5.out (i := 0) rfl; rw [hX.out, hL.out] at lf2; unfold ptr at lf2)
                | (go_at_call 21; refine lf2.mono ?_; rintro e w' ⟨rfl, hw⟩; have hw := hw.symm; subst hw; clear lf2))
              go_ret
              exact ⟨rfl, h5.out.grown⟩

/-! ### THE ROW's STEP: WRITTEN OUT: LEAVE IT -/
set_option maxRecDepth 100000 in
theorem lifted (os : Os) (started : os.Started) (H : Type) (enc : TypeId × Value → H) :
    ReturnsInHanded {} Try.checked os 8 .any (Rows.tableKeepsSpec.pre6 enc Try.prog Try.f8 Rows.tableKeepsRow.domain false) (Rows.tableKeepsSpec.post enc Try.prog Try.f8 false true false false) := by
  refine returnsInHanded_of_change (C := Try.checked) own started (by kernel_rfl) Try.func8
    (ChangeSpec.witness6 (enc := enc) (C := Try.checked) false ⟨#[], #[.int .i64 0, .slice none 0 0, .int .i64 0], []⟩ 8 (by kernel_rfl) (by kernel_rfl) (by kernel_rfl) (by kernel_rfl)) ?_
  intro W base args ds gs before hval0 hW hcnd _
  have hval : ∀ (j : Nat) t v, Try.f8.params[j]? = some t → args[j]? = some v → Value.okWide Try.prog W .any base t v := hval0
  have hW' := hW
  obtain ⟨p, q, hA0, hV, rfl, hfz, hnd⟩ := hW
  have hA : DataW.TrodAll enc Try.prog W 0 (fun _ => true) true Try.f8.params.toList args.toList ds p := hA0
  rw [Try.params8] at hA hval
  obtain ⟨v0, vs0, d0, ds0, p0, q0, hargs, rfl, rfl, h0, r0⟩ := trodAll_cons hA
  obtain ⟨v1, vs1, d1, ds1, p1, q1, rfl, rfl, rfl, h1, r1⟩ := trodAll_cons r0
  obtain ⟨v2, vs2, d2, ds2, p2, q2, rfl, rfl, rfl, h2, r2⟩ := trodAll_cons r1
  obtain ⟨rfl, rfl, rfl⟩ := trodAll_nil r2
  obtain rfl : args = #[v0, v1, v2] := by cases args; simp_all
  obtain ⟨rfl, rfl⟩ := trodVars_none hV
  obtain ⟨a0, rfl, rfl, rfl, w0⟩ := open_int Try.underlying3 (hval 0 3 v0 rfl rfl) h0
  obtain ⟨a1, len1, cap1, rfl⟩ := okWide_slice Try.underlying39 (hval 1 39 v1 rfl rfl)
  have k1 := h1
  have lt1 : ∀ x ∈ p1, x.block < W.heap.size := by obtain ⟨m, hm⟩ := k1; exact DataW.trod_lt m _ _ _ hm
  obtain ⟨z1, w1⟩ : ∃ zs, IsRow .i64 W a1 len1 cap1 zs := by
    obtain ⟨fuel, hf⟩ := h1
    rcases open_ints Try.underlying39 Try.underlying3 (by kernel_rfl) hf with ⟨hcs, _⟩ | ⟨x, l, c, zs, hcs, _, hl, hm, hz, _, hcell, hwz⟩
    · simp [Value.cells] at hcs
      obtain ⟨rfl, rfl, rfl⟩ := hcs
      exact ⟨[], .inl ⟨rfl, rfl, rfl, rfl⟩⟩
    · simp [Value.cells] at hcs
      obtain ⟨rfl, rfl, rfl⟩ := hcs
      exact ⟨zs, .inr ⟨_, rfl, hl, hm, by simpa using hz, hcell, hwz⟩⟩
  obtain ⟨a2, rfl, rfl, rfl, w2⟩ := open_int Try.underlying3 (hval 2 3 v2 rfl rfl) h2
  clear hA0 hval0
  refine (walk a0 a1 len1 cap1 z1 a2 W w0 w1 w2).mono fun e W' ⟨he, bel⟩ => ?_
  subst he
  exact ⟨_, rfl, _, _, _, [], _, [], hW', trodAll_mk1 (shut_bool Try.underlying4 _), (trodAll_cons_mk (shut_int Try.underlying3 w0) (trodAll_cons_mk (grown_trod laidOut (by kernel_rfl) (of_decide_eq_true (by kernel_rfl)) k1 bel lt1) (trodAll_cons_mk (shut_int Try.underlying3 w2) trodAll_mk0))), rfl, bel.frame _, fun h => by cases h⟩

theorem over : Rows.tableKeepsRow.holds Try.pinned (OpenSpec.ofChange Rows.tableKeepsSpec) :=
  OpenClaim.holds_of_wide 8 Try.f8 rfl rfl rfl rfl rfl rfl rfl ⟨rfl, rfl, rfl, rfl, rfl⟩ rfl rfl rfl rfl rfl (by kernel_rfl) Try.func8 (by kernel_rfl)
    (of_decide_eq_true (by kernel_rfl)) (by unfold Func.isWrapper; first | (rw [if_pos (by decide +kernel)]; kernel_rfl) | (rw [if_neg (by decide +kernel)]; exact ⟨rfl, rfl⟩))
    (fun os started H enc _ => lifted os started H enc)

/-- ████ THE STATEMENT ████ -/
theorem proved : Rows.TableKeepsSaid := over
end Go.Proofs.Ythjcdloaclailaa.tableKeeps

namespace Go.Proofs.Ythjcdloaclailaa
/-- The given statement. -/
theorem tableKeeps_holds : Rows.TableKeepsSaid := tableKeeps.proved
#print axioms tableKeeps_holds
end Go.Proofs.Ythjcdloaclailaa
