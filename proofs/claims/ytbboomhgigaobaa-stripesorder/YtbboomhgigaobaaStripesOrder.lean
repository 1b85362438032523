/-
  Proved: pantrylaw13.StripesOrder returns true for every count, size, seed and slice of numbers: what one thread offers, and is not lost, is taken in its order, and what was offered is taken, held, or lost (P13.3, P13.4). No condition.
-/
import Derived.Test.YtbboomhgigaobaaRows
import Derived.WalkKit
import Derived.ProofKit
import Derived.OpenShut
import Derived.Test.YtbboomhgigaobaaSpOrd
import Derived.Deep.CutRange
import Derived.ShutString
import Derived.ChangeOld
import Derived.Below
namespace Go.Proofs.Ytbboomhgigaobaa.stripesOrder
open Go.ChangeShapes Go.WideShapes Go.ChangeAt Go.RowKit
open Go.ChangeMaps (open_string shut_string)
set_option linter.unusedVariables false

theorem own : ownKnob Try.prog.godebug = none := by kernel_rfl
theorem laidOut : laidOutB Try.prog = true := by kernel_rfl

/-- WHAT THE WALK IS TOLD OF A SLICE OF INTEGERS THAT CAME IN: it is nil; or it leads to a row of 'cap' cells, the numbers 'zs' (the first 'len' are its elements, the rest its spare room), each fitting its kind. -/
def IsRow (k : IntKind) (w : World) (a : Option Addr) (len cap : Nat) (zs : List Int) : Prop :=
  (a = none ∧ len = 0 ∧ cap = 0 ∧ zs = []) ∨
  ∃ x, a = some x ∧ len ≤ cap ∧ cap ≤ maxLen ∧ zs.length = cap ∧ (∀ i, i < zs.length → w.cell? (x.add i) = some (.int k (zs.getD i 0))) ∧ ∀ n ∈ zs, (Lit.int k n).wf = true

/-! ### STEP 1: THE WALK: the Go text returns true, AND WRITES NOTHING THAT WAS THERE: 'Below w.heap.size w w'' (Derived/Below.lean: '.refl', '.alloc', '.drew', '.setCell' at a new block, '.trans'). Open each 'IsRow' by 'rcases' AHEAD of 'go_enter'; part every test ahead of the walk. -/
open Go.Proofs.Ytbboomhgigaobaa.Rn in set_option maxRecDepth 100000 in set_option maxHeartbeats 16000000 in
theorem walk (a0 : Int) (a1 : Int) (a2 : Int) (a3 : Option Addr) (len3 cap3 : Nat) (z3 : List Int) (w : World) (w0 : (Lit.int .i64 a0).wf = true) (w1 : (Lit.int .i64 a1).wf = true) (w2 : (Lit.int .i64 a2).wf = true) (w3 : IsRow .i64 w a3 len3 cap3 z3) :
    Calls Try.prog 4 #[.int .i64 a0, .int .i64 a1, .int .i64 a2, .slice a3 len3 cap3] w fun e w' => e = .returned (.bool true) ∧ Grown w w' := by
  have hk := keys_open w3
  clear w0 w1 w2 w3
  obtain ⟨N, n1, n2, eN, _, _, _⟩ := size_all a1
  obtain ⟨kk, k1, k2, ek⟩ := count_all a0
  have nx := fun (w1 : World) (g : Grown w w1) => new_x (Apt.none g) a0 a1 a2 k1 k2 ek n1 n2 eN
  clear eN ek
  unfold ptr at nx
  by_cases hl : 200 < len3
  · clear hk
    have d1 : decide (200 < (len3 : Int)) = true := by rw [decide_eq_true_eq]; omega
    go_enter Try.func4, Try.ntmps4
    go_wp2_with (first | (go_at_call 7; refine (small_s _).mono ?_; rintro e ws ⟨rfl, hgs⟩) | (go_at_call 8; refine (nx _ hgs).mono ?_; rintro e wx ⟨X, rfl, hX, hx⟩; clear nx hX hgs; have hx : Hid (Apt w wx [obSp X (freshN kk)]) := hx))
    go_ret
    exact ⟨rfl, hx.out.grown⟩
  · have d1 : decide (200 < (len3 : Int)) = false := by rw [decide_eq_false_iff_not]; omega
    have hlen : len3 ≤ 200 := by omega
    have hkk : ∀ k, k < len3 → ∃ kb off, a3 = some ⟨kb, off, none⟩ ∧ ∀ W, Grown w W → W.cell? ⟨kb, off + k, none⟩ = some (.int .i64 (z3.getD k 0)) := fun k hlt => by
      rcases hk with h | ⟨kb, off, h1, h2, h3⟩
      · omega
      · exact ⟨kb, off, h1, fun W g => keys_cell (h3 k hlt) h2 g⟩
    clear hk hl
    go_enter Try.func4, Try.ntmps4
    go_wp2_with (first | (go_at_call 7; refine (small_s _).mono ?_; rintro e ws ⟨rfl, hgs⟩) | (go_at_call 8; refine (nx _ hgs).mono ?_; rintro e wx ⟨X, rfl, hX, hx⟩; clear nx hgs; have hX : Hid (Is X kk N a2) := hX; have hx : Hid (Apt w wx [obSp X (freshN kk)]) := hx))
    go_loopw [11, 12, 13, 14, 15, 16, 17] (fun av ov fv iv _ _ _ wr => ∃ (k ma mo ca co : Nat) (pa po : Option Addr) (a o : List Int) (F : Int) (st : St), k ≤ len3 ∧ iv = .int .i64 (k : Int) ∧ av = .slice pa ma ca ∧ ov = .slice po mo co ∧ fv = .int .i64 F ∧ ma = a.length ∧ mo = o.length ∧ Ord (ofT a2 kk) st a o F k ∧ Apt w wr [obSp X st, obV pa ca a, obV po co o]) (fun _ _ _ iv _ _ _ _ => len3 - (intOf iv).toNat)
    case atStart => exact ⟨0, 0, 0, 0, 0, none, none, [], [], 0, freshN kk, by omega, rfl, rfl, rfl, rfl, rfl, rfl, ord_zero _ _, (hx.out.add (u := obV none 0 []) (Grown.refl _) (Vec.nil _ _ _ _) fun x hx => absurd hx In.no).add (u := obV none 0 []) (Grown.refl _) (Vec.nil _ _ _ _) fun x hx => absurd hx In.no⟩
    case round =>
      clear hx
      obtain ⟨k, ma, mo, ca, co, pa, po, a, o, F, st, hk, rfl, rfl, rfl, rfl, hma, hmo, hO, hx⟩ := hrel
      have hx : Hid (Apt w _ [obSp X st, obV pa ca a, obV po co o]) := hx
      have HM : Hid (ma = a.length ∧ mo = o.length) := ⟨hma, hmo⟩
      have hma2 : ma ≤ 200 := by have := hO.le; omega
      have hmo2 : mo ≤ 200 := by have := hO.le; have := hO.len; omega
      have hF : 0 ≤ F ∧ F ≤ 200 := by have := hO.leF; omega
      have hO : Hid (Ord (ofT a2 kk) st a o F k) := hO
      clear hma hmo
      by_cases hlt : k < len3
      · have hd : decide ((k : Int) < (len3 : Int)) = true := by rw [decide_eq_true_eq]; omega
        obtain ⟨kb, off, rfl, ck⟩ := hkk k hlt
        obtain ⟨v, hv⟩ : ∃ v, v = z3.getD k 0 := ⟨_, rfl⟩
        rw [← hv] at ck
        have ck0 := ck _ hx.out.grown
        clear hkk hv
        go_upto_if 49 with fail
        go_cut [11, 12, 13] from 39 to 91 (fun av ov fv wc => ∃ (ma mo ca co : Nat) (pa po : Option Addr) (a o : List Int) (F : Int) (st : St), av = .slice pa ma ca ∧ ov = .slice po mo co ∧ fv = .int .i64 F ∧ ma = a.length ∧ mo = o.length ∧ Ord (ofT a2 kk) st a o F (k + 1) ∧ Apt w wc [obSp X st, obV pa ca a, obV po co o])
        case first =>
          by_cases hv0 : v < 0
          · have q0 : decide (v < 0) = true := by rw [decide_eq_true_eq]; exact hv0
            have ta := take_p hx.out (i := 0) rfl
            have hy := hO.out.take_yes
            have hn := hO.out.take_no
            obtain ⟨x, hx0⟩ : ∃ x, x = (takeN st).1 := ⟨_, rfl⟩
            obtain ⟨b, hb⟩ : ∃ b, b = (takeN st).2.1 := ⟨_, rfl⟩
            obtain ⟨st2, hst2⟩ : ∃ st2, st2 = (takeN st).2.2 := ⟨_, rfl⟩
            simp only [← hx0, ← hb, ← hst2] at ta hy hn
            unfold ptr at ta
            clear hx0 hb hst2
            cases b with
            | true =>
              have hz : Hid (Ord (ofT a2 kk) st2 a (o ++ [x]) F (k + 1)) := hy rfl
              clear hn hy
              go_wp2_with (first
                | (go_at_call 10; refine ta.mono ?_; rintro e w2 ⟨rfl, h2⟩; clear ta; have h2 : Hid (Apt w w2 [obSp X st2, obV pa ca a, obV po co o]) := h2)
                | (at_builtin; refine wpList_append_vec rfl (.tmp 56) (.tmp 58) 32 rfl Try.underlying32 infoN rfl rfl (f := ivL o) (by rw [HM.out.2]; exact (h2.out.all 2 _ rfl).grown ((Grown.refl _).alloc _ _)) rfl (by decide) (new_int _ _ _) (fun _ _ => rfl) (by omega) (by omega) ?_; intro p' c' w3 hv3 ho3 hp3; have h3 : Hid (Apt w w3 [obSp X st2, obV pa ca a, obV p' c' (o ++ [x])]) := appended_s h2.out (i := 2) rfl (by rw [← HM.out.2]; exact hv3) ho3 hp3; clear hv3 ho3 hp3 h2))
              go_meet
              exact ⟨ma, mo + 1, ca, c', pa, p', a, o ++ [x], F, st2, rfl, rfl, rfl, HM.out.1, by rw [HM.out.2]; simp, hz.out, h3.out⟩
            | false =>
              have hz : Hid (Ord (ofT a2 kk) st2 a o F (k + 1)) := hn rfl
              clear hy hn
              go_wp2_with (go_at_call 10; refine ta.mono ?_; rintro e w2 ⟨rfl, h2⟩; clear ta; have h2 : Hid (Apt w w2 [obSp X st2, obV pa ca a, obV po co o]) := h2)
              go_meet
              exact ⟨ma, mo, ca, co, pa, po, a, o, F, st2, rfl, rfl, rfl, HM.out.1, HM.out.2, hz.out, h2.out⟩
          · have q0 : decide (v < 0) = false := by rw [decide_eq_false_iff_not]; exact hv0
            obtain ⟨t, ht⟩ : ∃ t, t = bits .and .i64 v 7 := ⟨_, rfl⟩
            have htb : 0 ≤ t ∧ t ≤ 7 := by rw [ht]; exact lo7_bd v
            have hlt7 : lo7 (t + 8 * (k : Int)) = t := by rw [ht]; exact lo7_add v k
            have hoff := hO.out.offer (N := N) (n := t + 8 * (k : Int)) (len_abs hx.out (i := 0) rfl hX.out _)
            rw [hlt7] at hoff
            have o1 := x_offer3 hx.out hX.out hO.out.lo (by omega) t (t + 8 * (k : Int))
            obtain ⟨n, hn⟩ : ∃ n, n = t + 8 * (k : Int) := ⟨_, rfl⟩
            have hnB : 0 ≤ n ∧ n ≤ 2000 := by omega
            rw [← hn] at o1 hoff
            obtain ⟨b, hb⟩ : ∃ b, b = (offerN N kk a2 st t n).1 := ⟨_, rfl⟩
            obtain ⟨st2, hst2⟩ : ∃ st2, st2 = (offerN N kk a2 st t n).2 := ⟨_, rfl⟩
            simp only [← hb, ← hst2] at o1 hoff
            unfold ptr at o1
            have ht1 := ht.symm
            have hn1 := hn.symm
            clear hb hst2 hlt7 ht hn
            cases b with
            | true =>
              have hy : Hid (Ord (ofT a2 kk) st2 (a ++ [n]) o (F + 1) (k + 1)) := hoff.1 rfl
              clear hoff
              go_wp2_with (first
                | (go_at_call 15; refine o1.mono ?_; rintro e w2 ⟨rfl, h2⟩; clear o1; have h2 : Hid (Apt w w2 [obSp X st2, obV pa ca a, obV po co o]) := h2)
                | (at_builtin; refine wpList_append_vec rfl (.tmp 78) (.tmp 80) 32 rfl Try.underlying32 infoN rfl rfl (f := ivL a) (by rw [HM.out.1]; exact (h2.out.all 1 _ rfl).grown ((Grown.refl _).alloc _ _)) rfl (by decide) (new_int _ _ _) (fun _ _ => rfl) (by omega) (by omega) ?_; intro p' c' w3 hv3 ho3 hp3; have h3 : Hid (Apt w w3 [obSp X st2, obV p' c' (a ++ [n]), obV po co o]) := appended_s h2.out (i := 1) rfl (by rw [← HM.out.1]; exact hv3) ho3 hp3; clear hv3 ho3 hp3 h2))
              go_meet
              exact ⟨ma + 1, mo, c', co, p', po, a ++ [n], o, F + 1, st2, rfl, rfl, rfl, by rw [HM.out.1]; simp, HM.out.2, hy.out, h3.out⟩
            | false =>
              have hn : Hid (Ord (ofT a2 kk) st2 a o (F + 1) (k + 1)) := hoff.2 rfl
              clear hoff
              go_wp2_with (go_at_call 15; refine o1.mono ?_; rintro e w2 ⟨rfl, h2⟩; clear o1; have h2 : Hid (Apt w w2 [obSp X st2, obV pa ca a, obV po co o]) := h2)
              go_meet
              exact ⟨ma, mo, ca, co, pa, po, a, o, F + 1, st2, rfl, rfl, rfl, HM.out.1, HM.out.2, hn.out, h2.out⟩
        case rest =>
          clear hx hO HM hma2 hmo2 hF ck ck0
          obtain ⟨ma, mo, ca, co, pa, po, a, o, F, st, rfl, rfl, rfl, hma, hmo, hO, hx⟩ := hcut
          have l1 := len_p hx (i := 0) rfl
          have l2 := lost_p hx (i := 0) rfl (fun s hs => by have := hO.lo s hs; omega)
          have hsum := hO.sum
          have b1 := allN_len st
          have b2 := (sumN_bd (st := st) lostO (B := 10000) (by omega) (fun s hs => by have := hO.lo s hs; unfold lostO; omega) st.length).1
          rw [sumN_all lostO rfl] at b2
          obtain ⟨s1, hs1⟩ : ∃ s1, s1 = (st.map lenO).sum := ⟨_, rfl⟩
          obtain ⟨s2, hs2⟩ : ∃ s2, s2 = (st.map lostO).sum := ⟨_, rfl⟩
          rw [← hs1] at l1 b1 hsum
          rw [← hs2] at l2 b2 hsum
          have hF : 0 ≤ F ∧ F ≤ 201 := by have := hO.leF; omega
          have B1 : 0 ≤ s1 ∧ s1 ≤ 201 := by omega
          have B2 : 0 ≤ s2 ∧ s2 ≤ 201 := by omega
          have hmo2 : mo ≤ 201 := by omega
          have E : (F != (mo : Int) + s1 + s2) = false := by rw [bne_eq_false_iff_eq]; omega
          have hx : Hid (Apt w _ [obSp X st, obV pa ca a, obV po co o]) := hx
          have HM : Hid (ma = a.length ∧ mo = o.length) := ⟨hma, hmo⟩
          have hO : Hid (Ord (ofT a2 kk) st a o F (k + 1)) := hO
          clear hs1 hs2 hma hmo b1 b2 hsum
          unfold ptr at l1 l2
          go_wp2_with (first
            | (go_at_call 19; refine l1.mono ?_; rintro e w' ⟨rfl, hw⟩; clear l1; have hw := hw.symm; subst hw)
            | (go_at_call 21; refine l2.mono ?_; rintro e w' ⟨rfl, hw⟩; clear l2; have hw := hw.symm; subst hw))
          go_roundw
          case rel => exact ⟨k + 1, ma, mo, ca, co, pa, po, a, o, F, st, by omega, by go_num, rfl, rfl, rfl, HM.out.1, HM.out.2, hO.out, hx.out⟩
          case measure => simp [intOf]; omega
      · obtain rfl : k = len3 := by omega
        have hd : decide ((k : Int) < (k : Int)) = false := by rw [decide_eq_false_iff_not]; omega
        have da := drain_p hx.out (i := 0) rfl
        have hfl : Hid (∀ t, filt t a = filt t (o ++ allN st)) := fun t => by rw [filt_app]; exact hO.out.fl t
        have hln : Hid ((o ++ allN st).length = ma) := by
          show _ = _
          rw [List.length_append, HM.out.1, hO.out.len]
        have hdr : Hid ((allN st).length + mo = ma) := by
          have := hO.out.len
          have := HM.out
          show _ = _
          omega
        obtain ⟨d, hdd⟩ : ∃ d, Hid (d = allN st) := ⟨_, rfl⟩
        obtain ⟨n', hn'⟩ : ∃ n', Hid (n' = d.length) := ⟨_, rfl⟩
        rw [← hdd.out] at da hfl hln hdr
        rw [← hn'.out] at da hdr
        have hn3 : n' ≤ 201 := by have := hdr.out; omega
        have hsum : mo + n' = ma := by have := hdr.out; omega
        unfold ptr at da
        clear hkk hO hdr
        go_wp2_with (first
          | (go_at_call 13; refine da.mono ?_; rintro e w2 ⟨p2, c2, rfl, h2⟩; clear da hx; have h2 : Hid (Apt w w2 [obSp X (emptyN st), obV pa ca a, obV po co o, obV p2 c2 d]) := h2)
          | (at_builtin; refine wpList_append_any rfl (.tmp 92) (.tmp 94) 32 rfl Try.underlying32 infoN rfl rfl (f := ivL o) (by rw [HM.out.2]; exact h2.out.all 2 _ rfl) rfl (g := ivL d) (fun hp => src_s h2.out (i := 3) rfl hn'.out hp) (fun _ _ => rfl) (by omega) (by omega) ?_; intro p' c' w3 hv3 ho3 hp3; have h3 : Hid (Apt w w3 [obSp X (emptyN st), obV pa ca a, obV p' c' (o ++ d)]) := Apt.front (l := [obSp X (emptyN st), obV pa ca a, obV p' c' (o ++ d)]) (joined_s h2.out (i := 2) (z := d) rfl (by rw [← HM.out.2, ← hn'.out]; exact hv3) ho3 hp3); clear hv3 ho3 hp3 h2; rw [hsum]))
        obtain ⟨b, hb⟩ : ∃ b, Hid (b = o ++ d) := ⟨_, rfl⟩
        rw [← hb.out] at h3 hfl hln
        have HA : Hid (a.length = ma) := HM.out.1.symm
        clear hb hdd hn' hn3 hsum hmo2 HM hF
        have E : ((ma : Int) != (ma : Int)) = false := by simp
        have hB : ∀ i, i < ma → ∃ x y, a[i]? = some x ∧ b[i]? = some y := fun i hi => ⟨_, _, List.getElem?_eq_getElem (by rw [HA.out]; exact hi), List.getElem?_eq_getElem (by rw [hln.out]; exact hi)⟩
        have hlb : Hid (b.length = ma) := hln
        clear hln
        go_loopw [18, 19, 20, 21] (fun tv _ _ _ wr => ∃ t : Nat, t ≤ 8 ∧ tv = .int .i64 (t : Int) ∧ Apt w wr [obSp X (emptyN st), obV pa ca a, obV p' c' b]) (fun tv _ _ _ _ => 8 - (intOf tv).toNat)
        case atStart => exact ⟨0, by omega, rfl, h3.out⟩
        case round =>
          clear h3
          obtain ⟨t, ht, rfl, hx⟩ := hrel
          have hx : Hid (Apt w _ [obSp X (emptyN st), obV pa ca a, obV p' c' b]) := hx
          by_cases hlt8 : t < 8
          · have hd8 : decide ((t : Int) < 8) = true := by rw [decide_eq_true_eq]; omega
            go_wp2_with fail
            go_loopw [19, 20, 21] (fun av bv iv wr => ∃ (i m1 m2 c1 c2 : Nat) (p1 p2 : Option Addr), i ≤ ma ∧ iv = .int .i64 (i : Int) ∧ av = .slice p1 m1 c1 ∧ bv = .slice p2 m2 c2 ∧ m1 = (filt t (a.take i)).length ∧ m2 = (filt t (b.take i)).length ∧ Apt w wr [obSp X (emptyN st), obV pa ca a, obV p' c' b, obV p1 c1 (filt t (a.take i)), obV p2 c2 (filt t (b.take i))]) (fun _ _ iv _ => ma - (intOf iv).toNat)
            case atStart => exact ⟨0, 0, 0, 0, 0, none, none, by omega, rfl, rfl, rfl, rfl, rfl, (hx.out.add (u := obV none 0 []) (Grown.refl _) (Vec.nil _ _ _ _) fun x hx => absurd hx In.no).add (u := obV none 0 []) (Grown.refl _) (Vec.nil _ _ _ _) fun x hx => absurd hx In.no⟩
            case round =>
              clear hx
              obtain ⟨i, m1, m2, c1, c2, p1, p2, hi, rfl, rfl, rfl, hm1, hm2, hx⟩ := hrel
              obtain ⟨q1, hq1⟩ : ∃ q1, Hid (q1 = filt t (a.take i)) := ⟨_, rfl⟩
              obtain ⟨q2, hq2⟩ : ∃ q2, Hid (q2 = filt t (b.take i)) := ⟨_, rfl⟩
              rw [← hq1.out] at hm1 hx
              rw [← hq2.out] at hm2 hx
              have hb1 : m1 ≤ 200 := by
                have h1 := List.length_filter_le (fun n => lo7 n == (t : Int)) (a.take i)
                have h2 := List.length_take_le i a
                have h3 : q1.length ≤ (a.take i).length := by rw [hq1.out]; exact h1
                omega
              have hb2 : m2 ≤ 200 := by
                have h1 := List.length_filter_le (fun n => lo7 n == (t : Int)) (b.take i)
                have h2 := List.length_take_le i b
                have h3 : q2.length ≤ (b.take i).length := by rw [hq2.out]; exact h1
                omega
              have HM1 : Hid (m1 = q1.length) := hm1
              have HM2 : Hid (m2 = q2.length) := hm2
              have hx : Hid (Apt w _ [obSp X (emptyN st), obV pa ca a, obV p' c' b, obV p1 c1 q1, obV p2 c2 q2]) := hx
              clear hm1 hm2
              by_cases hlti : i < ma
              · have hdi : decide ((i : Int) < (ma : Int)) = true := by rw [decide_eq_true_eq]; omega
                obtain ⟨x, y, hx0, hy0⟩ := hB i hlti
                have f1 := filt_take (t := (t : Int)) hx0
                have f2 := filt_take (t := (t : Int)) hy0
                rw [← hq1.out] at f1
                rw [← hq2.out] at f2
                have v1 : Vec _ 3 1 pa a.length ca (ivL a) := hx.out.all 1 _ rfl
                have v2 : Vec _ 3 1 p' b.length c' (ivL b) := hx.out.all 2 _ rfl
                obtain ⟨B1, rfl, _⟩ := v1.opens (by have := HA.out; omega)
                obtain ⟨B2, rfl, _⟩ := v2.opens (by have := hlb.out; omega)
                have cX : ∀ w1 u v, Apt w w1 [obSp X (emptyN st), obV (some ⟨B1, 0, none⟩) ca a, obV (some ⟨B2, 0, none⟩) c' b, u, v] → w1.cell? ⟨B1, i, none⟩ = some (.int .i64 x) ∧ w1.cell? ⟨B2, i, none⟩ = some (.int .i64 y) := fun w1 u v h => by
                  have v1 : Vec w1 3 1 (some ⟨B1, 0, none⟩) a.length ca (ivL a) := h.all 1 _ rfl
                  have v2 : Vec w1 3 1 (some ⟨B2, 0, none⟩) b.length c' (ivL b) := h.all 2 _ rfl
                  obtain ⟨_, e1, _, k1, _, _⟩ := v1.opens (by have := HA.out; omega)
                  obtain ⟨_, e2, _, k2, _, _⟩ := v2.opens (by have := hlb.out; omega)
                  cases e1
                  cases e2
                  rw [k1 i (by have := HA.out; omega), k2 i (by have := hlb.out; omega)]
                  unfold ivL
                  rw [List.getD_eq_getElem?_getD, List.getD_eq_getElem?_getD, hx0, hy0]
                  exact ⟨rfl, rfl⟩
                obtain ⟨ca0, ca1⟩ := cX _ _ _ hx.out
                clear v1 v2 hx0 hy0 hq1 hq2
                by_cases e1 : (bits .and .i64 x 7 == (t : Int)) = true
                · rw [show (lo7 x == (t : Int)) = true from e1, if_pos rfl] at f1
                  have f1 : Hid (filt t (a.take (i + 1)) = q1 ++ [x]) := f1
                  by_cases e2 : (bits .and .i64 y 7 == (t : Int)) = true
                  · rw [show (lo7 y == (t : Int)) = true from e2, if_pos rfl] at f2
                    have f2 : Hid (filt t (b.take (i + 1)) = q2 ++ [y]) := f2
                    go_wp2_with (first
                      | (at_builtin; refine wpList_append_vec rfl (.tmp 118) (.tmp 123) 32 rfl Try.underlying32 infoN rfl rfl (f := ivL q1) (by rw [HM1.out]; exact (hx.out.all 3 _ rfl).grown ((Grown.refl _).alloc _ _)) rfl (by decide) (new_int _ _ _) (fun _ _ => rfl) (by omega) (by omega) ?_; intro p5 c5 w5 hv5 ho5 hp5; have h5 : Hid (Apt w w5 [obSp X (emptyN st), obV (some ⟨B1, 0, none⟩) ca a, obV (some ⟨B2, 0, none⟩) c' b, obV p5 c5 (q1 ++ [x]), obV p2 c2 q2]) := appended_s hx.out (i := 3) rfl (by rw [← HM1.out]; exact hv5) ho5 hp5; clear hv5 ho5 hp5 ca0 ca1; obtain ⟨ca0, ca1⟩ := cX _ _ _ h5.out)
                      | (at_builtin; refine wpList_append_vec rfl (.tmp 132) (.tmp 137) 32 rfl Try.underlying32 infoN rfl rfl (f := ivL q2) (by rw [HM2.out]; exact (h5.out.all 4 _ rfl).grown ((Grown.refl _).alloc _ _)) rfl (by decide) (new_int _ _ _) (fun _ _ => rfl) (by omega) (by omega) ?_; intro p6 c6 w6 hv6 ho6 hp6; have h6 : Hid (Apt w w6 [obSp X (emptyN st), obV (some ⟨B1, 0, none⟩) ca a, obV (some ⟨B2, 0, none⟩) c' b, obV p5 c5 (q1 ++ [x]), obV p6 c6 (q2 ++ [y])]) := appended_s h5.out (i := 4) rfl (by rw [← HM2.out]; exact hv6) ho6 hp6; clear hv6 ho6 hp6 ca0 ca1; obtain ⟨ca0, ca1⟩ := cX _ _ _ h6.out))
                    go_roundw
                    case rel => exact ⟨i + 1, m1 + 1, m2 + 1, c5, c6, p5, p6, by omega, by go_num, rfl, rfl, by rw [f1.out, HM1.out]; simp, by rw [f2.out, HM2.out]; simp, by rw [f1.out, f2.out]; exact h6.out⟩
                    case measure => simp [intOf]; omega
                  · have e2 : (bits .and .i64 y 7 == (t : Int)) = false := by simpa using e2
                    rw [show (lo7 y == (t : Int)) = false from e2, if_neg (by decide), List.append_nil] at f2
                    have f2 : Hid (filt t (b.take (i + 1)) = q2) := f2
                    go_wp2_with (at_builtin; refine wpList_append_vec rfl (.tmp 118) (.tmp 123) 32 rfl Try.underlying32 infoN rfl rfl (f := ivL q1) (by rw [HM1.out]; exact (hx.out.all 3 _ rfl).grown ((Grown.refl _).alloc _ _)) rfl (by decide) (new_int _ _ _) (fun _ _ => rfl) (by omega) (by omega) ?_; intro p5 c5 w5 hv5 ho5 hp5; have h5 : Hid (Apt w w5 [obSp X (emptyN st), obV (some ⟨B1, 0, none⟩) ca a, obV (some ⟨B2, 0, none⟩) c' b, obV p5 c5 (q1 ++ [x]), obV p2 c2 q2]) := appended_s hx.out (i := 3) rfl (by rw [← HM1.out]; exact hv5) ho5 hp5; clear hv5 ho5 hp5 ca0 ca1; obtain ⟨ca0, ca1⟩ := cX _ _ _ h5.out)
                    go_roundw
                    case rel => exact ⟨i + 1, m1 + 1, m2, c5, c2, p5, p2, by omega, by go_num, rfl, rfl, by rw [f1.out, HM1.out]; simp, by rw [f2.out]; exact HM2.out, by rw [f1.out, f2.out]; exact h5.out⟩
                    case measure => simp [intOf]; omega
                · have e1 : (bits .and .i64 x 7 == (t : Int)) = false := by simpa using e1
                  rw [show (lo7 x == (t : Int)) = false from e1, if_neg (by decide), List.append_nil] at f1
                  have f1 : Hid (filt t (a.take (i + 1)) = q1) := f1
                  by_cases e2 : (bits .and .i64 y 7 == (t : Int)) = true
                  · rw [show (lo7 y == (t : Int)) = true from e2, if_pos rfl] at f2
                    have f2 : Hid (filt t (b.take (i + 1)) = q2 ++ [y]) := f2
                    go_wp2_with (at_builtin; refine wpList_append_vec rfl (.tmp 132) (.tmp 137) 32 rfl Try.underlying32 infoN rfl rfl (f := ivL q2) (by rw [HM2.out]; exact (hx.out.all 4 _ rfl).grown ((Grown.refl _).alloc _ _)) rfl (by decide) (new_int _ _ _) (fun _ _ => rfl) (by omega) (by omega) ?_; intro p6 c6 w6 hv6 ho6 hp6; have h6 : Hid (Apt w w6 [obSp X (emptyN st), obV (some ⟨B1, 0, none⟩) ca a, obV (some ⟨B2, 0, none⟩) c' b, obV p1 c1 q1, obV p6 c6 (q2 ++ [y])]) := appended_s hx.out (i := 4) rfl (by rw [← HM2.out]; exact hv6) ho6 hp6; clear hv6 ho6 hp6 ca0 ca1; obtain ⟨ca0, ca1⟩ := cX _ _ _ h6.out)
                    go_roundw
                    case rel => exact ⟨i + 1, m1, m2 + 1, c1, c6, p1, p6, by omega, by go_num, rfl, rfl, by rw [f1.out]; exact HM1.out, by rw [f2.out, HM2.out]; simp, by rw [f1.out, f2.out]; exact h6.out⟩
                    case measure => simp [intOf]; omega
                  · have e2 : (bits .and .i64 y 7 == (t : Int)) = false := by simpa using e2
                    rw [show (lo7 y == (t : Int)) = false from e2, if_neg (by decide), List.append_nil] at f2
                    have f2 : Hid (filt t (b.take (i + 1)) = q2) := f2
                    go_wp2_with fail
                    go_roundw
                    case rel => exact ⟨i + 1, m1, m2, c1, c2, p1, p2, by omega, by go_num, rfl, rfl, by rw [f1.out]; exact HM1.out, by rw [f2.out]; exact HM2.out, by rw [f1.out, f2.out]; exact hx.out⟩
                    case measure => simp [intOf]; omega
              · obtain rfl : i = ma := by omega
                have hdi : decide ((i : Int) < (i : Int)) = false := by rw [decide_eq_false_iff_not]; omega
                have eq : q2 = q1 := by
                  rw [hq1.out, hq2.out, ← HA.out, List.take_length, HA.out, ← hlb.out, List.take_length, hfl.out]
                have is := ints_s (c := c1) (d := c2) (p := p1) (r := p2) (q := q1) (i := 3) (j := 4) hx.out rfl (by rw [eq]; rfl) (by rw [← HM1.out]; omega)
                have em : m2 = m1 := by rw [HM1.out, HM2.out, eq]
                rw [← HM1.out] at is
                subst em
                clear hq1 hq2 eq
                go_wp2_with (go_at_call 12; refine is.mono ?_; rintro e w5 ⟨rfl, h5⟩; clear is; have h5 : Hid (Apt w w5 [obSp X (emptyN st), obV pa ca a, obV p' c' b, obV p1 c1 q1, obV p2 c2 q2]) := h5)
                go_roundw
                case rel => exact ⟨t + 1, by omega, by go_num, Apt.front (l := [obSp X (emptyN st), obV pa ca a, obV p' c' b]) (Apt.front (l := [obSp X (emptyN st), obV pa ca a, obV p' c' b, obV p1 c1 q1]) h5.out)⟩
                case measure => simp [intOf]; omega
          · obtain rfl : t = 8 := by omega
            go_wp2_with fail
            go_ret
            exact ⟨rfl, hx.out.grown⟩

/-! ### THE ROW's STEP: WRITTEN OUT: LEAVE IT -/
set_option maxRecDepth 100000 in
theorem lifted (os : Os) (started : os.Started) (H : Type) (enc : TypeId × Value → H) :
    ReturnsInHanded {} Try.checked os 4 .any (Rows.stripesOrderSpec.pre6 enc Try.prog Try.f4 Rows.stripesOrderRow.domain false) (Rows.stripesOrderSpec.post enc Try.prog Try.f4 false true false false) := by
  refine returnsInHanded_of_change (C := Try.checked) own started (by kernel_rfl) Try.func4
    (ChangeSpec.witness6 (enc := enc) (C := Try.checked) false ⟨#[], #[.int .i64 0, .int .i64 0, .int .i64 0, .slice none 0 0], []⟩ 8 (by kernel_rfl) (by kernel_rfl) (by kernel_rfl) (by kernel_rfl)) ?_
  intro W base args ds gs before hval0 hW hcnd _
  have hval : ∀ (j : Nat) t v, Try.f4.params[j]? = some t → args[j]? = some v → Value.okWide Try.prog W .any base t v := hval0
  have hW' := hW
  obtain ⟨p, q, hA0, hV, rfl, hfz, hnd⟩ := hW
  have hA : DataW.TrodAll enc Try.prog W 0 (fun _ => true) true Try.f4.params.toList args.toList ds p := hA0
  rw [Try.params4] at hA hval
  obtain ⟨v0, vs0, d0, ds0, p0, q0, hargs, rfl, rfl, h0, r0⟩ := trodAll_cons hA
  obtain ⟨v1, vs1, d1, ds1, p1, q1, rfl, rfl, rfl, h1, r1⟩ := trodAll_cons r0
  obtain ⟨v2, vs2, d2, ds2, p2, q2, rfl, rfl, rfl, h2, r2⟩ := trodAll_cons r1
  obtain ⟨v3, vs3, d3, ds3, p3, q3, rfl, rfl, rfl, h3, r3⟩ := trodAll_cons r2
  obtain ⟨rfl, rfl, rfl⟩ := trodAll_nil r3
  obtain rfl : args = #[v0, v1, v2, v3] := by cases args; simp_all
  obtain ⟨rfl, rfl⟩ := trodVars_none hV
  obtain ⟨a0, rfl, rfl, rfl, w0⟩ := open_int Try.underlying3 (hval 0 3 v0 rfl rfl) h0
  obtain ⟨a1, rfl, rfl, rfl, w1⟩ := open_int Try.underlying3 (hval 1 3 v1 rfl rfl) h1
  obtain ⟨a2, rfl, rfl, rfl, w2⟩ := open_int Try.underlying3 (hval 2 3 v2 rfl rfl) h2
  obtain ⟨a3, len3, cap3, rfl⟩ := okWide_slice Try.underlying32 (hval 3 32 v3 rfl rfl)
  have k3 := h3
  have lt3 : ∀ x ∈ p3, x.block < W.heap.size := by obtain ⟨m, hm⟩ := k3; exact DataW.trod_lt m _ _ _ hm
  obtain ⟨z3, w3⟩ : ∃ zs, IsRow .i64 W a3 len3 cap3 zs := by
    obtain ⟨fuel, hf⟩ := h3
    rcases open_ints Try.underlying32 Try.underlying3 (by kernel_rfl) hf with ⟨hcs, _⟩ | ⟨x, l, c, zs, hcs, _, hl, hm, hz, _, hcell, hwz⟩
    · simp [Value.cells] at hcs
      obtain ⟨rfl, rfl, rfl⟩ := hcs
      exact ⟨[], .inl ⟨rfl, rfl, rfl, rfl⟩⟩
    · simp [Value.cells] at hcs
      obtain ⟨rfl, rfl, rfl⟩ := hcs
      exact ⟨zs, .inr ⟨_, rfl, hl, hm, by simpa using hz, hcell, hwz⟩⟩
  clear hA0 hval0
  refine (walk a0 a1 a2 a3 len3 cap3 z3 W w0 w1 w2 w3).mono fun e W' ⟨he, bel⟩ => ?_
  subst he
  exact ⟨_, rfl, _, _, _, [], _, [], hW', trodAll_mk1 (shut_bool Try.underlying4 _), (trodAll_cons_mk (shut_int Try.underlying3 w0) (trodAll_cons_mk (shut_int Try.underlying3 w1) (trodAll_cons_mk (shut_int Try.underlying3 w2) (trodAll_cons_mk (grown_trod laidOut (by kernel_rfl) (of_decide_eq_true (by kernel_rfl)) k3 bel lt3) trodAll_mk0)))), rfl, bel.frame _, fun h => by cases h⟩

theorem over : Rows.stripesOrderRow.holds Try.pinned (OpenSpec.ofChange Rows.stripesOrderSpec) :=
  OpenClaim.holds_of_wide 4 Try.f4 rfl rfl rfl rfl rfl rfl rfl ⟨rfl, rfl, rfl, rfl, rfl⟩ rfl rfl rfl rfl rfl (by kernel_rfl) Try.func4 (by kernel_rfl)
    (of_decide_eq_true (by kernel_rfl)) (by unfold Func.isWrapper; first | (rw [if_pos (by decide +kernel)]; kernel_rfl) | (rw [if_neg (by decide +kernel)]; exact ⟨rfl, rfl⟩))
    (fun os started H enc _ => lifted os started H enc)

/-- ████ THE STATEMENT ████ -/
theorem proved : Rows.StripesOrderSaid := over
end Go.Proofs.Ytbboomhgigaobaa.stripesOrder

namespace Go.Proofs.Ytbboomhgigaobaa
/-- The given statement. -/
theorem stripesOrder_holds : Rows.StripesOrderSaid := stripesOrder.proved
#print axioms stripesOrder_holds
end Go.Proofs.Ytbboomhgigaobaa
