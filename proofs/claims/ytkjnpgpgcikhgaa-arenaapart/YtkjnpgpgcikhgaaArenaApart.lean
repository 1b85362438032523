/-
  Proved: pantrylaw06.ArenaApart returns true for every slice of keys and every slice of numbers that tell which to drop: no two nodes have one number, and what is held is what was put last (P6.4). No condition.
-/
import Derived.Test.YtkjnpgpgcikhgaaRows
import Derived.WalkKit
import Derived.ProofKit
import Derived.OpenShut
import Derived.Test.YtkjnpgpgcikhgaaArLaws
import Derived.Deep.CutRange
import Derived.BigQuiet
import Derived.ShutString
import Derived.ChangeOld
import Derived.Below
namespace Go.Proofs.Ytkjnpgpgcikhgaa.arenaApart
open Go.ChangeShapes Go.WideShapes Go.ChangeAt Go.RowKit
open Go.ChangeMaps (open_string shut_string)
set_option linter.unusedVariables false

theorem own : ownKnob Try.prog.godebug = none := by kernel_rfl
theorem laidOut : laidOutB Try.prog = true := by kernel_rfl

/-- WHAT THE WALK IS TOLD OF A SLICE OF INTEGERS THAT CAME IN: it is nil; or it leads to a row of 'cap' cells, the numbers 'zs' (the first 'len' are its elements, the rest its spare room), each fitting its kind. -/
def IsRow (k : IntKind) (w : World) (a : Option Addr) (len cap : Nat) (zs : List Int) : Prop :=
  (a = none ∧ len = 0 ∧ cap = 0 ∧ zs = []) ∨
  ∃ x, a = some x ∧ len ≤ cap ∧ cap ≤ maxLen ∧ zs.length = cap ∧ (∀ i, i < zs.length → w.cell? (x.add i) = some (.int k (zs.getD i 0))) ∧ ∀ n ∈ zs, (Lit.int k n).wf = true

/-! ### STEP 1: THE WALK: the Go text returns true, AND WRITES NOTHING THAT WAS THERE: 'Below w.heap.size w w'' (Derived/Below.lean: '.refl', '.alloc', '.drew', '.setCell' at a new block, '.trans'). Open each 'IsRow' by 'rcases' AHEAD of 'go_enter'; part every test ahead of the walk. -/
set_option maxRecDepth 20000 in set_option maxHeartbeats 16000000 in
theorem walk (a0 : Option Addr) (len0 cap0 : Nat) (z0 : List Int) (a1 : Option Addr) (len1 cap1 : Nat) (z1 : List Int) (w : World) (w0 : IsRow .i64 w a0 len0 cap0 z0) (w1 : IsRow .i64 w a1 len1 cap1 z1) :
    Calls Try.prog 4 #[.slice a0 len0 cap0, .slice a1 len1 cap1] w fun e w' => e = .returned (.bool true) ∧ Grown w w' := by
  have hk0 := keys_open w0
  have hk1 := keys_open w1
  clear w0 w1
  by_cases hl : len0 ≤ 200 ∧ len1 ≤ 200
  · obtain ⟨hl0, hl1⟩ := hl
    have d1 : decide (200 < (len0 : Int)) = false := by rw [decide_eq_false_iff_not]; omega
    have d2 : decide (200 < (len1 : Int)) = false := by rw [decide_eq_false_iff_not]; omega
    have nw := fun w g => new_i 1000 w w g
    unfold ptr at nw
    obtain ⟨key, HKE⟩ : ∃ key : Nat → Int, Hid (key = fun k => z0.getD k 0) := ⟨_, rfl⟩
    go_enter Try.func4, Try.ntmps4
    go_wp2_with (first | (go_at_call 8; refine (aSmall_any _).mono ?_; rintro e ws ⟨rfl, hgs⟩) | (go_at_call 9; refine (nw _ (Grown.refl _)).mono ?_; rintro e wx ⟨A, rfl, hx⟩))
    go_loopw [7, 8, 9] (fun idv gv iv wr => ∃ (i g : Nat) (t : As) (p : Option Addr) (c : Nat) (v : Nat → Int), i ≤ len0 ∧ idv = .slice p i c ∧ gv = .int .i64 (g : Int) ∧ iv = .int .i64 (i : Int) ∧ Kept t key v i g ∧ Ari ws wr A t p i c (fun k => .int .i64 (v k))) (fun _ _ iv _ => len0 - (intOf iv).toNat)
    case atStart => exact ⟨0, 0, _, none, 0, fun _ => 0, by omega, rfl, rfl, rfl, Kept.start key, hx⟩
    case round =>
      clear hx nw
      obtain ⟨i, g, t, p, c, v, hi, rfl, rfl, rfl, hK, ht⟩ := hrel
      have hw := ht.wf
      by_cases hlt : i < len0
      · have hkk := hk0
        rcases hkk with h0 | ⟨kb, off, rfl, hkb, hcell⟩
        · omega
        have HC : Hid (∀ W, Grown ws W → ∀ k, k < len0 → W.cell? ⟨kb, off + k, none⟩ = some (.int .i64 (key k))) := fun W g k hk => by rw [HKE.out]; exact keys_cell (hcell k hk) hkb (grownTrans hgs g)
        have ck := HC.out _ ht.old i hlt
        have hd : decide ((i : Int) < (len0 : Int)) = true := by rw [decide_eq_true_eq]; omega
        have pt := put_i ht (key i, (i : Int))
        obtain ⟨e1, e2, e3⟩ := As.put_room (t := t) (v := (key i, (i : Int))) (hK.room (by omega))
        rw [e1, e2, e3] at pt
        have HK1 : Hid (Kept _ key _ (i + 1) g) := hK.put hw (by omega)
        have HN : Hid (∀ k, k < i → (v k == (t.give : Int)) = false) := fun k hk => by simpa using hK.fresh hw (by omega) hk
        obtain ⟨t1, ht1⟩ : ∃ t1, t1 = t.put (key i, (i : Int)) := ⟨_, rfl⟩
        obtain ⟨G, hG⟩ : ∃ G : Int, G = (t.give : Int) := ⟨_, rfl⟩
        rw [← ht1, ← hG] at pt
        rw [← ht1] at HK1
        simp only [← hG] at HK1 HN
        clear ht1 hG e1 e2 e3 hK hw ht hcell
        unfold ptr nodeV at pt
        go_wp2_with (first | (go_at_call 11; refine pt.mono ?_; rintro e w1 ⟨rfl, h1⟩))
        go_loopw [12] (fun kv wi => ∃ k : Nat, k ≤ i ∧ kv = .int .i64 (k : Int) ∧ wi = w1) (fun kv _ => i - (intOf kv).toNat)
        case atStart => exact ⟨0, by omega, rfl, rfl⟩
        case round =>
          clear pt ck
          obtain ⟨k, hk, rfl, rfl⟩ := hrel
          by_cases hlk : k < i
          · obtain ⟨B, rfl, hB, hc, _, hcc⟩ := h1.at (by omega)
            have c1 := hc k hlk
            have q1 := HN.out k hlk
            have q2 : decide ((k : Int) < (i : Int)) = true := by rw [decide_eq_true_eq]; omega
            clear hc
            go_wp2
            go_roundw
            case rel => exact ⟨k + 1, by omega, by go_num, by first | rfl | trivial⟩
            case measure => simp [intOf]; omega
          · obtain rfl : k = i := by omega
            have q2 : decide ((k : Int) < (k : Int)) = false := by rw [decide_eq_false_iff_not]; omega
            go_upto_region 19 with (first | (at_builtin; refine wpList_append_vec rfl (.tmp 67) (.tmp 69) 41 rfl Try.underlying41 infoInt rfl rfl (h1.vec.grown ((Grown.refl _).alloc _ _)) rfl (by decide) (new_one _ _ _) (fun _ _ => rfl) (by omega) (by omega) ?_; intro p' c' w2 hv2 ho2 hp2; have h2 := h1.append hv2 ho2 hp2; clear hv2 ho2 hp2))
            clear h1
            obtain ⟨v1, HV1⟩ : ∃ v1 : Nat → Int, Hid (v1 = fun j => if j < k then v j else G) := ⟨_, rfl⟩
            rw [← HV1.out] at HK1
            have h3 : Ari ws w2 A t1 p' (k + 1) c' (fun j => .int .i64 (v1 j)) := h2.congr fun j _ => by rw [HV1.out]; show _ = Value.int .i64 (if j < k then v j else G); split <;> rfl
            clear h2 HN HV1 v
            go_cut [82] from 36 to 161 (fun tv wc => ∃ b : Bool, tv = .bool b ∧ (b = true → k < len1) ∧ wc = w2)
            case first =>
              by_cases hi1 : k < len1
              · have hkk := hk1
                rcases hkk with h0 | ⟨db, dof, rfl, hdb, hdc⟩
                · omega
                have ck := keys_cell (hdc k hi1) hdb (grownTrans hgs h3.old)
                have q3 : decide ((k : Int) < (len1 : Int)) = true := by rw [decide_eq_true_eq]; omega
                clear hdc hk1 hk0
                go_wp2_with fail
                all_goals go_meet
                all_goals exact ⟨_, rfl, fun _ => hi1, rfl⟩
              · have q3 : decide ((k : Int) < (len1 : Int)) = false := by rw [decide_eq_false_iff_not]; omega
                clear hk1 hk0
                go_wp2_with fail
                all_goals go_meet
                all_goals exact ⟨false, rfl, fun h => Bool.noConfusion h, rfl⟩
            case rest =>
              obtain ⟨b, rfl, hb, rfl⟩ := hcut
              go_upto_if 82 with fail
              go_cut [8, 13] from 36 to 161 (fun gv _ wc => ∃ (g2 : Nat) (t2 : As) (v2 : Nat → Int), gv = .int .i64 (g2 : Int) ∧ Kept t2 key v2 (k + 1) g2 ∧ Ari ws wc A t2 p' (k + 1) c' (fun j => .int .i64 (v2 j)))
              case first =>
                cases b with
                | false =>
                  clear hk1 hk0
                  go_wp2_with fail
                  go_meet
                  exact ⟨g, t1, v1, rfl, HK1.out, h3⟩
                | true =>
                  have hi1 := hb rfl
                  have hkk := hk1
                  rcases hkk with h0 | ⟨db, dof, rfl, hdb, hdc⟩
                  · omega
                  have ck := keys_cell (hdc k hi1) hdb (grownTrans hgs h3.old)
                  obtain ⟨dv, hdv⟩ : ∃ dv, dv = z1.getD k 0 := ⟨_, rfl⟩
                  rw [← hdv] at ck
                  clear hdv hdc hk1 hk0
                  go_upto_region 20 with fail
                  go_cut [13] from 36 to 161 (fun qv wq => ∃ q : Nat, q ≤ k ∧ qv = .int .i64 (q : Int) ∧ wq = wc)
                  case first =>
                    go_wp2_with fail
                    go_meet
                    have h5 := and1023 (dv / 2)
                    obtain ⟨y, hy⟩ : ∃ y, y = bits .and .i64 (dv / 2) 1023 := ⟨_, rfl⟩
                    rw [← hy] at h5 ⊢
                    have h6 := Int.tmod_nonneg ((k : Int) + 1) h5.1
                    have h7 := Int.tmod_lt_of_pos y (show (0 : Int) < (k : Int) + 1 by omega)
                    obtain ⟨r, hr⟩ : ∃ r, r = y.tmod ((k : Int) + 1) := ⟨_, rfl⟩
                    rw [← hr] at h6 h7 ⊢
                    exact ⟨r.toNat, by omega, by rw [show ((r.toNat : Nat) : Int) = r by omega], rfl⟩
                  case rest =>
                    obtain ⟨q, hq, rfl, rfl⟩ := hcut
                    clear ck
                    obtain ⟨B, rfl, hB, hc, hf, hcc⟩ := h3.at (by omega)
                    have c1 := hc q (by omega)
                    have hfq := hf q
                    obtain ⟨x, hx⟩ : ∃ x, x = v1 q := ⟨_, rfl⟩
                    have hbd := HK1.out.bd q (by omega)
                    rw [← hx] at c1 hbd
                    by_cases hpos : 0 < x
                    · have hat := HK1.out.held_at q (by omega) (by omega)
                      obtain ⟨j, hj, hs⟩ := As.under_some hat
                      have hw1 := h3.wf
                      have HK2 : Hid (Kept _ key _ (k + 1) (g + 1)) := HK1.out.drop hw1 (by omega) hj hs
                      have dr := drop_i h3 (j : Int)
                      rw [As.err_held hs, As.drop_held hs] at dr
                      obtain ⟨t2, ht2⟩ : ∃ t2, t2 = t1.drop j := ⟨_, rfl⟩
                      have hn : t2.s j = none := by rw [ht2]; exact if_pos rfl
                      rw [← ht2] at dr HK2
                      have dr2 : ∀ W, Ari ws W A t2 (some ⟨B, 0, none⟩) (k + 1) c' (fun j => .int .i64 (v1 j)) → Calls Try.prog 13 #[ptr A, .int .i64 (j : Int)] W fun e w' => e = .returned (.int .i64 3) ∧ Ari ws w' A t2 (some ⟨B, 0, none⟩) (k + 1) c' (fun j => .int .i64 (v1 j)) := fun W h => by
                        have := drop_i h (j : Int)
                        rw [As.err_none hn] at this
                        have e : t2.dropI j = t2 := by unfold As.dropI; rw [As.under_nat, hn]; rfl
                        rw [e] at this
                        exact this
                      have hxj : x = (j : Int) := by rw [hx, hj]
                      subst hxj
                      have HCE : Hid (∀ W, Ari ws W A t2 (some ⟨B, 0, none⟩) (k + 1) c' (fun j => .int .i64 (v1 j)) → W.cell? ⟨B, q, none⟩ = some (.int .i64 (j : Int)) ∧ W.frozen? ⟨B, q, none⟩ = false ∧ B < W.heap.size) := fun W h => by
                        obtain ⟨B', hB', hlt', hc', hf', _⟩ := h.at (by omega)
                        cases hB'
                        exact ⟨by rw [hc' q (by omega), hj], hf' q, hlt'⟩
                      have HQ : Hid (q ≤ k) := hq
                      have HE : Hid (∀ W, Ari ws W A t2 (some ⟨B, 0, none⟩) (k + 1) c' (fun j => .int .i64 (v1 j)) → Ari ws (W.setCell ⟨B, q, none⟩ (.int .i64 (-(j : Int)))) A t2 (some ⟨B, 0, none⟩) (k + 1) c' (fun l => .int .i64 (if l = q then -(j : Int) else v1 l))) := fun W h => (h.set (i := q) (v := .int .i64 (-(j : Int)))).congr fun l _ => by split <;> rfl
                      clear hat hs hw1 ht2 hn hc hf hx hj h3
                      have T1 : Hid True := trivial
                      have hgb : g ≤ 201 := by have := HK1.out.len; omega
                      unfold ptr at dr dr2
                      go_wp2_with (first | (go_at_call 13; clear T1; refine dr.mono ?_; rintro e w3 ⟨rfl, h4⟩; obtain ⟨k1, k2, k3⟩ := HCE.out _ h4) | (go_at_call 13; refine (dr2 _ h4).mono ?_; rintro e w4 ⟨rfl, h5⟩; obtain ⟨k4, k5, k6⟩ := HCE.out _ h5))
                      go_meet
                      exact ⟨g + 1, t2, _, by go_num, HK2.out, HE.out _ h5⟩
                    · have hpos' : decide (0 < x) = false := by rw [decide_eq_false_iff_not]; omega
                      clear hx hc hf
                      go_wp2_with fail
                      go_meet
                      exact ⟨g, t1, v1, rfl, HK1.out, h3⟩
              case rest =>
                obtain ⟨g2, t2, v2, rfl, hK2, h4⟩ := hcut
                clear h3 HK1 v1
                go_wp2_with fail
                go_loopw [14] (fun kv wi => ∃ l : Nat, l ≤ k + 1 ∧ kv = .int .i64 (l : Int) ∧ Ari ws wi A t2 p' (k + 1) c' (fun j => .int .i64 (v2 j))) (fun kv _ => k + 1 - (intOf kv).toNat)
                case atStart => exact ⟨0, by omega, rfl, h4⟩
                case round =>
                  clear h4
                  obtain ⟨l, hl, rfl, h4⟩ := hrel
                  by_cases hlk' : l < k + 1
                  · obtain ⟨B, rfl, hB, hc, _, hcc⟩ := h4.at (by omega)
                    have c1 := hc l hlk'
                    obtain ⟨x, hx⟩ : ∃ x, x = v2 l := ⟨_, rfl⟩
                    rw [← hx] at c1
                    have q4 : decide ((l : Int) < (k : Int) + 1) = true := by rw [decide_eq_true_eq]; omega
                    by_cases hpos : 0 < x
                    · obtain ⟨e1, e2⟩ := hK2.held hlk' (by omega)
                      have gt := get_i h4 x
                      rw [← hx] at e1 e2
                      rw [e1, e2] at gt
                      have q5 : decide (0 < x) = true := by rw [decide_eq_true_eq]; omega
                      clear hc hx e1 e2 hK2 hk0 hk1
                      unfold ptr nodeV at gt
                      obtain ⟨y, hy⟩ : ∃ y, y = key l := ⟨_, rfl⟩
                      have HC2 : Hid (∀ W, Grown ws W → W.cell? ⟨kb, off + l, none⟩ = some (.int .i64 y)) := fun W g => by rw [hy]; exact HC.out W g l (by omega)
                      rw [← hy] at gt
                      clear hy
                      go_upto_region 31 with (first | (go_at_call 17; refine gt.mono ?_; rintro e w3 ⟨rfl, h5⟩; have k1 := HC2.out _ h5.old; have k2 : kb < w3.heap.size := Nat.lt_of_lt_of_le hkb (grownTrans hgs h5.old).2.2))
                      go_quiet (fail)
                      go_wp2
                      go_roundw
                      case rel => exact ⟨l + 1, by omega, by go_num, h5.grown (grownDrewN ((Grown.refl _).alloc _ _) _)⟩
                      case measure => simp [intOf]; omega
                    · have q5 : decide (0 < x) = false := by rw [decide_eq_false_iff_not]; omega
                      clear hc hx hK2 hk0 hk1
                      go_wp2_with fail
                      go_roundw
                      case rel => exact ⟨l + 1, by omega, by go_num, h4⟩
                      case measure => simp [intOf]; omega
                  · obtain rfl : l = k + 1 := by omega
                    have q4 : decide (((k + 1 : Nat) : Int) < (k : Int) + 1) = false := by rw [decide_eq_false_iff_not]; omega
                    have ln := len_i h4
                    have hlen := hK2.len
                    have e1 : (t2.len : Int) = (k : Int) + 1 - (g2 : Int) := by omega
                    rw [e1] at ln
                    have q6 : (((k : Int) + 1 - (g2 : Int)) != ((k : Int) + 1 - (g2 : Int))) = false := by simp
                    clear e1 hk0 hk1
                    have HK2 : Hid (Kept t2 key v2 (k + 1) g2) := hK2
                    clear hK2
                    unfold ptr at ln
                    go_wp2_with (first | (go_at_call 19; refine ln.mono ?_; rintro e w5 ⟨rfl, h5⟩))
                    go_roundw
                    case rel => exact ⟨k + 1, g2, t2, p', c', v2, by omega, rfl, rfl, by go_num, HK2.out, h5⟩
                    case measure => simp [intOf]; omega
      · have hd : decide ((i : Int) < (len0 : Int)) = false := by rw [decide_eq_false_iff_not]; omega
        clear hk0 hk1 hK hw
        go_wp2_with fail
        go_ret
        exact ⟨rfl, grownTrans hgs ht.old⟩
  · have hl' : 200 < (len0 : Int) ∨ ((len0 : Int) ≤ 200 ∧ 200 < (len1 : Int)) := by omega
    have nw := fun w g => new_i 1000 w w g
    unfold ptr at nw
    clear hl hk0 hk1
    rcases hl' with h | ⟨h, h'⟩
    all_goals
      go_enter Try.func4, Try.ntmps4
      go_wp2_with (first | (go_at_call 8; refine (aSmall_any _).mono ?_; rintro e ws ⟨rfl, hgs⟩) | (go_at_call 9; refine (nw _ (Grown.refl _)).mono ?_; rintro e wx ⟨A, rfl, hx⟩))
      go_ret
      exact ⟨rfl, grownTrans hgs hx.old⟩

/-! ### THE ROW's STEP: WRITTEN OUT: LEAVE IT -/
set_option maxRecDepth 100000 in
theorem lifted (os : Os) (started : os.Started) (H : Type) (enc : TypeId × Value → H) :
    ReturnsInHanded {} Try.checked os 4 .any (Rows.arenaApartSpec.pre6 enc Try.prog Try.f4 Rows.arenaApartRow.domain false) (Rows.arenaApartSpec.post enc Try.prog Try.f4 false true false false) := by
  refine returnsInHanded_of_change (C := Try.checked) own started (by kernel_rfl) Try.func4
    (ChangeSpec.witness6 (enc := enc) (C := Try.checked) false ⟨#[], #[.slice none 0 0, .slice none 0 0], []⟩ 8 (by kernel_rfl) (by kernel_rfl) (by kernel_rfl) (by kernel_rfl)) ?_
  intro W base args ds gs before hval0 hW hcnd _
  have hval : ∀ (j : Nat) t v, Try.f4.params[j]? = some t → args[j]? = some v → Value.okWide Try.prog W .any base t v := hval0
  have hW' := hW
  obtain ⟨p, q, hA0, hV, rfl, hfz, hnd⟩ := hW
  have hA : DataW.TrodAll enc Try.prog W 0 (fun _ => true) true Try.f4.params.toList args.toList ds p := hA0
  rw [Try.params4] at hA hval
  obtain ⟨v0, vs0, d0, ds0, p0, q0, hargs, rfl, rfl, h0, r0⟩ := trodAll_cons hA
  obtain ⟨v1, vs1, d1, ds1, p1, q1, rfl, rfl, rfl, h1, r1⟩ := trodAll_cons r0
  obtain ⟨rfl, rfl, rfl⟩ := trodAll_nil r1
  obtain rfl : args = #[v0, v1] := by cases args; simp_all
  obtain ⟨rfl, rfl⟩ := trodVars_none hV
  obtain ⟨a0, len0, cap0, rfl⟩ := okWide_slice Try.underlying41 (hval 0 41 v0 rfl rfl)
  have k0 := h0
  have lt0 : ∀ x ∈ p0, x.block < W.heap.size := by obtain ⟨m, hm⟩ := k0; exact DataW.trod_lt m _ _ _ hm
  obtain ⟨z0, w0⟩ : ∃ zs, IsRow .i64 W a0 len0 cap0 zs := by
    obtain ⟨fuel, hf⟩ := h0
    rcases open_ints Try.underlying41 Try.underlying3 (by kernel_rfl) hf with ⟨hcs, _⟩ | ⟨x, l, c, zs, hcs, _, hl, hm, hz, _, hcell, hwz⟩
    · simp [Value.cells] at hcs
      obtain ⟨rfl, rfl, rfl⟩ := hcs
      exact ⟨[], .inl ⟨rfl, rfl, rfl, rfl⟩⟩
    · simp [Value.cells] at hcs
      obtain ⟨rfl, rfl, rfl⟩ := hcs
      exact ⟨zs, .inr ⟨_, rfl, hl, hm, by simpa using hz, hcell, hwz⟩⟩
  obtain ⟨a1, len1, cap1, rfl⟩ := okWide_slice Try.underlying41 (hval 1 41 v1 rfl rfl)
  have k1 := h1
  have lt1 : ∀ x ∈ p1, x.block < W.heap.size := by obtain ⟨m, hm⟩ := k1; exact DataW.trod_lt m _ _ _ hm
  obtain ⟨z1, w1⟩ : ∃ zs, IsRow .i64 W a1 len1 cap1 zs := by
    obtain ⟨fuel, hf⟩ := h1
    rcases open_ints Try.underlying41 Try.underlying3 (by kernel_rfl) hf with ⟨hcs, _⟩ | ⟨x, l, c, zs, hcs, _, hl, hm, hz, _, hcell, hwz⟩
    · simp [Value.cells] at hcs
      obtain ⟨rfl, rfl, rfl⟩ := hcs
      exact ⟨[], .inl ⟨rfl, rfl, rfl, rfl⟩⟩
    · simp [Value.cells] at hcs
      obtain ⟨rfl, rfl, rfl⟩ := hcs
      exact ⟨zs, .inr ⟨_, rfl, hl, hm, by simpa using hz, hcell, hwz⟩⟩
  clear hA0 hval0
  refine (walk a0 len0 cap0 z0 a1 len1 cap1 z1 W w0 w1).mono fun e W' ⟨he, bel⟩ => ?_
  subst he
  exact ⟨_, rfl, _, _, _, [], _, [], hW', trodAll_mk1 (shut_bool Try.underlying4 _), (trodAll_cons_mk (grown_trod laidOut (by kernel_rfl) (of_decide_eq_true (by kernel_rfl)) k0 bel lt0) (trodAll_cons_mk (grown_trod laidOut (by kernel_rfl) (of_decide_eq_true (by kernel_rfl)) k1 bel lt1) trodAll_mk0)), rfl, bel.frame _, fun h => by cases h⟩

theorem over : Rows.arenaApartRow.holds Try.pinned (OpenSpec.ofChange Rows.arenaApartSpec) :=
  OpenClaim.holds_of_wide 4 Try.f4 rfl rfl rfl rfl rfl rfl rfl ⟨rfl, rfl, rfl, rfl, rfl⟩ rfl rfl rfl rfl rfl (by kernel_rfl) Try.func4 (by kernel_rfl)
    (of_decide_eq_true (by kernel_rfl)) (by unfold Func.isWrapper; first | (rw [if_pos (by decide +kernel)]; kernel_rfl) | (rw [if_neg (by decide +kernel)]; exact ⟨rfl, rfl⟩))
    (fun os started H enc _ => lifted os started H enc)

/-- ████ THE STATEMENT ████ -/
theorem proved : Rows.ArenaApartSaid := over
end Go.Proofs.Ytkjnpgpgcikhgaa.arenaApart

namespace Go.Proofs.Ytkjnpgpgcikhgaa
/-- The given statement. -/
theorem arenaApart_holds : Rows.ArenaApartSaid := arenaApart.proved
#print axioms arenaApart_holds
end Go.Proofs.Ytkjnpgpgcikhgaa
