/-
  What Play of package policy does when it is called: any events. Condition: the policy is one that New and events made, and had less than 2^60 ages; there are 100000 events at most.
-/
import Derived.Test.YtlmcopenbeammaaPoSmall
import Derived.Test.YtlmcopenbeammaaGenApp
namespace Go.Proofs.Ytlmcopenbeammaa.Po
open Go.RowKit Go.Deep Cm

/-- Behind the first k events: who went of them all. -/
def pl (C seed : Int) (mw : Nat) (z : Nat → Nat → Int) (y : Ps) : Nat → Ps × List Int
  | 0 => (y, [])
  | k + 1 => (((pl C seed mw z y k).1.ev C seed mw (z k 0) (z k 1) (z k 2) (z k 3)).1, (pl C seed mw z y k).2 ++ ((pl C seed mw z y k).1.ev C seed mw (z k 0) (z k 1) (z k 2) (z k 3)).2)
variable {w w' : World} {A : Nat} {Φ : Nat → Prop} {C seed : Int} {mw : Nat} {y : Ps}
theorem gone_short {y : Ps} (h : Fine C y) (d n k v : Int) : (y.ev C seed mw d n k v).2.length ≤ 196608 := by
  have hc := wh_le C
  rw [h.cap] at hc
  unfold Ps.ev
  by_cases hz : refE y C d n v = 0
  · rw [if_pos hz]
    rcases refE_zero hz with ⟨rfl, n1, n2, hv, hk⟩ | ⟨rfl, hk, hv⟩ | ⟨rfl, hk⟩ | ⟨rfl, hk⟩
    · rw [if_pos rfl]
      obtain ⟨v0, v1, v2⟩ := heavy_zero hv
      have h1 := (h.half.rec1 (seed := seed) (mw := mw) k).hit false
      have hb : Half C (y.ad C seed mw n k v) := by
        refine (h1.put n k v ⟨n1, n2⟩ ⟨v0, v1⟩ hk ?_).1
        have s := (hit_sm (C := C) (y := y.rec1 seed mw k) h.wf false).tot
        rw [show (y.rec1 seed mw k).t.n = 3 from h.n] at s
        rw [s]
        have := h.tot
        show y.t.tot 3 + v ≤ _
        omega
      have g := (set_ok (seed := seed) (mw := mw) hb).cnt
      have := (hb.wf.shed_sm 0 (y.ad C seed mw n k v).q.x).wf.cnt3
      have e : ({ y.ad C seed mw n k v with t := (y.ad C seed mw n k v).t.shed 0 (y.ad C seed mw n k v).q.x } : Ps).t.cnt 3 = ((y.ad C seed mw n k v).t.shed 0 (y.ad C seed mw n k v).q.x).cnt 3 := rfl
      rw [e] at g
      omega
    · rw [if_neg (by decide), if_pos rfl]
      obtain ⟨v0, v1, v2⟩ := heavy_zero hv
      have hb := (h.half.wtd n v ⟨v0, v1⟩ hk (by have := h.tot; omega)).1.rd (seed := seed) (mw := mw) n
      have g := (set_ok (seed := seed) (mw := mw) hb).cnt
      have := (hb.wf.shed_sm 0 ((y.wtd n v).rd C seed mw n).q.x).wf.cnt3
      have e : ({ (y.wtd n v).rd C seed mw n with t := ((y.wtd n v).rd C seed mw n).t.shed 0 ((y.wtd n v).rd C seed mw n).q.x } : Ps).t.cnt 3 = (((y.wtd n v).rd C seed mw n).t.shed 0 ((y.wtd n v).rd C seed mw n).q.x).cnt 3 := rfl
      rw [e] at g
      omega
    · rw [if_neg (by decide), if_neg (by decide), if_pos rfl]
      exact Nat.zero_le _
    · rw [if_neg (by decide), if_neg (by decide), if_neg (by decide)]
      exact Nat.zero_le _
  · rw [if_neg hz]
    exact Nat.zero_le _
theorem pl_ok {z : Nat → Nat → Int} (h : Fine C y) (ha : 0 ≤ y.f.a) : ∀ k, Fine C (pl C seed mw z y k).1 ∧ 0 ≤ (pl C seed mw z y k).1.f.a ∧ (pl C seed mw z y k).1.f.a ≤ y.f.a + k ∧ (pl C seed mw z y k).2.length ≤ 196608 * k
  | 0 => ⟨h, ha, by show y.f.a ≤ y.f.a + 0; omega, Nat.le_refl _⟩
  | k + 1 => by
    obtain ⟨h1, h2, h3, h4⟩ := pl_ok (z := z) h ha k
    obtain ⟨e1, e2, e3⟩ := ev_ok (seed := seed) (mw := mw) h1 (z k 0) (z k 1) (z k 2) (z k 3)
    have e4 := gone_short (seed := seed) (mw := mw) h1 (z k 0) (z k 1) (z k 2) (z k 3)
    refine ⟨e1, by show 0 ≤ (Ps.ev _ C seed mw _ _ _ _).1.f.a; omega, by show (Ps.ev _ C seed mw _ _ _ _).1.f.a ≤ _; omega, ?_⟩
    show ((pl C seed mw z y k).2 ++ _).length ≤ _
    rw [List.length_append]; omega
/-- A slice of events in a block. -/
def Evs (w : World) (a : Option Addr) (len : Nat) (z : Nat → Nat → Int) (b : Nat) : Prop :=
  len = 0 ∨ ∃ off, a = some ⟨b, off, none⟩ ∧ b < w.heap.size ∧ ∀ i, i < len → (∀ j, j < 4 → w.cell? ⟨b, off + (i * 4 + j), none⟩ = some (.int .i64 (z i j))) ∧ (Lit.int .i64 (z i 1)).wf = true
theorem cell_same {w w' : World} {b : Nat} (h : w'.heap[b]? = w.heap[b]?) (o : Nat) : w'.cell? ⟨b, o, none⟩ = w.cell? ⟨b, o, none⟩ := by
  unfold World.cell?
  simp only [h]
theorem Evs.out {a : Option Addr} {len b : Nat} {z : Nat → Nat → Int} {Ψ : Nat → Prop} (h : Evs w a len z b) (o : Out Ψ w w') (hb : b < w.heap.size → ¬ Ψ b) : Evs w' a len z b := by
  rcases h with h | ⟨off, rfl, hl, hc⟩
  · exact .inl h
  · have e := o.block b hl (hb hl)
    exact .inr ⟨off, rfl, Nat.lt_of_lt_of_le hl o.size, fun i hi => ⟨fun j hj => by rw [cell_same e]; exact (hc i hi).1 j hj, (hc i hi).2⟩⟩
theorem Evs.range {b off k : Nat} {z : Nat → Nat → Int} (h : ∀ j, j < 4 → w.cell? ⟨b, off + (k * 4 + j), none⟩ = some (.int .i64 (z k j))) : w.rangeAt b (off + k * 4) [.int .i64 (z k 0), .int .i64 (z k 1), .int .i64 (z k 2), .int .i64 (z k 3)] := fun j v hv => by
  have hj : j < 4 := by have := (List.getElem?_eq_some_iff.1 hv).1; simpa using this
  have e := h j hj
  rw [show off + (k * 4 + j) = off + k * 4 + j by omega] at e
  rw [e]
  rcases j with _ | _ | _ | _ | j <;> first | (cases hv; rfl) | omega
theorem idL_append (l m : List Int) (j : Nat) : (if j < l.length * 1 then idL l j else idL m (j - l.length * 1)) = idL (l ++ m) j := by
  unfold idL
  simp only [Nat.mul_one]
  by_cases h : j < l.length
  · rw [if_pos h, List.getD_eq_getElem?_getD, List.getD_eq_getElem?_getD, List.getElem?_append_left h]
  · rw [if_neg h, List.getD_eq_getElem?_getD, List.getD_eq_getElem?_getD, List.getElem?_append_right (by omega)]
/-- What Play keeps. -/
structure Playd (w : World) (A : Nat) (Φ0 : Nat → Prop) (C seed : Int) (mw : Nat) (z : Nat → Nat → Int) (y : Ps) (b : Nat) (k : Nat) (p : Option Addr) (c : Nat) (wr : World) (Φ : Nat → Prop) : Prop where
  pol : Pol wr A Φ C seed mw (pl C seed mw z y k).1
  st : Step Φ0 Φ w wr
  vec : Vec wr 3 1 p (pl C seed mw z y k).2.length c (idL (pl C seed mw z y k).2)
  ap : ∀ i, In p i → ¬ Φ i ∧ w.heap.size ≤ i
theorem vec_le {w : World} {e : TypeId} {s : Nat} {p : Option Addr} {n c : Nat} {f : Nat → Value} (h : Vec w e s p n c f) : n ≤ c := by
  rcases h with ⟨_, h1, h2⟩ | ⟨_, _, _, _, h, _⟩
  · omega
  · exact h
theorem vec_cells {w : World} {B n c : Nat} {f : Nat → Value} (h : Vec w 3 1 (some ⟨B, 0, none⟩) n c f) : ∀ j, j < n * 1 → w.cell? ((⟨B, 0, none⟩ : Addr).add j) = some (f j) := fun j hj => by
  have hn : 0 < n := by omega
  obtain ⟨B', e, _, hc, _⟩ := h.opens hn
  cases e
  have e : (⟨B, 0, none⟩ : Addr).add j = ⟨B, j, none⟩ := by unfold Addr.add; split <;> simp_all
  rw [e]; exact hc j hj
set_option maxRecDepth 100000 in
set_option maxHeartbeats 4000000 in
theorem play_q (h : Pol w A Φ C seed mw y) (hf : Fine C y) (ha : 0 ≤ y.f.a ∧ y.f.a ≤ 1152921504606846976) (a : Option Addr) (len cap b : Nat) (z : Nat → Nat → Int) (hz : Evs w a len z b) (hb : ¬ Φ b) (hl : len ≤ 100000) :
    Calls Try.prog 12 #[ptr A, .slice a len cap] w fun e w' => ∃ p g c Φ', e = .returned (.slice p g c) ∧ g = (pl C seed mw z y len).2.length ∧ Vec w' 3 1 p g c (idL (pl C seed mw z y len).2) ∧ Pol w' A Φ' C seed mw (pl C seed mw z y len).1 ∧ Step Φ Φ' w w' ∧ ∀ i, In p i → ¬ Φ' i ∧ w.heap.size ≤ i := by
  have HA : Hid (Fine C y ∧ 0 ≤ y.f.a ∧ y.f.a ≤ 1152921504606846976 ∧ ¬ Φ b ∧ len ≤ 100000) := ⟨hf, ha.1, ha.2, hb, hl⟩
  have HZ : Hid (Evs w a len z b) := hz
  have hlI : (len : Int) ≤ 100000 := by omega
  have h0 : Hid (Pol w A Φ C seed mw y) := h
  clear hf ha hb hz h
  unfold ptr
  go_enter Try.func12, Try.ntmps12
  go_wp2
  go_loopw [5, 12] (fun g i wr => ∃ (k : Nat) (p : Option Addr) (c : Nat) (Φr : Nat → Prop), g = .slice p (pl C seed mw z y k).2.length c ∧ i = .int .i64 k ∧ k ≤ len ∧ Hid (Playd w A Φ C seed mw z y b k p c wr Φr)) (fun _ i _ => len - (intOf i).toNat)
  case atStart => exact ⟨0, none, 0, Φ, rfl, rfl, Nat.zero_le _, h0.out, Step.grown _ (Grown.refl _), Vec.nil _ _ _ _, fun i hi => absurd hi In.no⟩
  case round =>
    obtain ⟨k, p, c, Φr, rfl, rfl, hk, HP⟩ := hrel
    obtain ⟨f1, f2, f3, f4⟩ := pl_ok (seed := seed) (mw := mw) (z := z) HA.out.1 HA.out.2.1 k
    obtain ⟨L, hL⟩ : ∃ L, L = (pl C seed mw z y k).2 := ⟨_, rfl⟩
    obtain ⟨yk, hyk⟩ : ∃ yk, yk = (pl C seed mw z y k).1 := ⟨_, rfl⟩
    have HE : Hid (L = (pl C seed mw z y k).2 ∧ yk = (pl C seed mw z y k).1) := ⟨hL, hyk⟩
    rw [← hL] at f4 ⊢
    rw [← hyk] at f1 f2 f3
    have PK := HP.out.pol
    have VK := HP.out.vec
    rw [← hyk] at PK
    rw [← hL] at VK
    clear hL hyk
    by_cases hlt : k < len
    · have hd : decide ((k : Int) < (len : Int)) = true := by rw [decide_eq_true_eq]; omega
      rcases HZ.out.out HP.out.st.out (fun _ => HA.out.2.2.2.1) with h00 | ⟨off, rfl, hbl, hc⟩
      · omega
      have hcw := hc k hlt
      have hrg := Evs.range hcw.1
      have hid := hcw.2
      obtain ⟨zd, ezd⟩ : ∃ x, x = z k 0 := ⟨_, rfl⟩
      obtain ⟨zn, ezn⟩ : ∃ x, x = z k 1 := ⟨_, rfl⟩
      obtain ⟨zk, ezk⟩ : ∃ x, x = z k 2 := ⟨_, rfl⟩
      obtain ⟨zv, ezv⟩ : ∃ x, x = z k 3 := ⟨_, rfl⟩
      rw [← ezd, ← ezn, ← ezk, ← ezv] at hrg
      rw [← ezn] at hid
      have HN : Hid (pl C seed mw z y (k + 1) = ((yk.ev C seed mw zd zn zk zv).1, L ++ (yk.ev C seed mw zd zn zk zv).2)) := by
        rw [HE.out.1, HE.out.2, ezd, ezn, ezk, ezv]; rfl
      have HF : Hid (Fine C yk ∧ 0 ≤ yk.f.a ∧ yk.f.a ≤ 2305843009213693952 ∧ L.length ≤ 196608 * k ∧ (yk.ev C seed mw zd zn zk zv).2.length ≤ 196608) := ⟨f1, f2, by have := HA.out.2.2.1; omega, f4, gone_short f1 _ _ _ _⟩
      obtain ⟨N, hN⟩ : ∃ N, N = L.length := ⟨_, rfl⟩
      rw [← hN] at VK ⊢
      have HNN : Hid (N = L.length) := hN
      have HPK : Hid (Pol wr A Φr C seed mw yk ∧ Vec wr 3 1 p N c (idL L)) := ⟨PK, VK⟩
      have HNb : Hid (N ≤ 19660800000) := by show N ≤ 19660800000; rw [hN]; have := HA.out.2.2.2.2; omega
      clear hc hcw ezd ezn ezk ezv f1 f2 f3 f4 hN PK VK
      obtain ⟨W0, hW0⟩ : ∃ W, W = wr.alloc (.cells #[.int .i64 zd, .int .i64 zn, .int .i64 zk, .int .i64 zv] 28) := ⟨_, rfl⟩
      have g0 : Grown wr W0 := by rw [hW0]; exact (Grown.refl _).alloc _ _
      have DO := do_q (HPK.out.1.grown g0) HF.out.1 ⟨HF.out.2.1, HF.out.2.2.1⟩ zd zn zk zv hid
      rw [hW0] at DO
      unfold ptr evV at DO
      have HG : Hid (Grown wr W0 ∧ W0 = wr.alloc (.cells #[.int .i64 zd, .int .i64 zn, .int .i64 zk, .int .i64 zv] 28)) := ⟨g0, hW0⟩
      clear g0 hW0 hid
      obtain ⟨E, hE⟩ : ∃ E, E = (yk.ev C seed mw zd zn zk zv).2 := ⟨_, rfl⟩
      obtain ⟨ye, hye⟩ : ∃ E, E = (yk.ev C seed mw zd zn zk zv).1 := ⟨_, rfl⟩
      obtain ⟨re, hre⟩ : ∃ E, E = refE yk C zd zn zv := ⟨_, rfl⟩
      rw [← hE] at DO HN HF
      rw [← hye] at DO HN
      rw [← hre] at DO
      clear hE hye hre
      by_cases hE0 : E.length = 0
      · have HEE : Hid (E = []) := List.eq_nil_of_length_eq_zero hE0
        obtain ⟨m, hm⟩ : ∃ m, m = E.length := ⟨_, rfl⟩
        have HM : Hid (m = 0) := hm.trans hE0
        rw [← hm] at DO
        clear hE0 hm
        go_wp2_with (first | (refine wpList_load_mid rfl 28 (.tmp 14) rfl b (off + k * 4) rfl [.int .i64 zd, .int .i64 zn, .int .i64 zk, .int .i64 zv] _ hrg Try.underlying28 rfl (infoE zd zn zk zv) ?_) | (go_at_call 9; refine DO.mono ?_; clear DO; rintro e w3 ⟨q, g, cc, Φ3, rfl, hg, hv, hP, hS, hi⟩; replace hg := hg.trans HM.out; subst hg; have H3 : Hid (Pol w3 A Φ3 C seed mw ye ∧ Step Φr Φ3 W0 w3 ∧ Vec w3 3 1 p N c (idL L)) := ⟨hP, by rw [HG.out.2]; exact hS, (HPK.out.2.grown HG.out.1).out (by rw [HG.out.2]; exact hS.out) fun i hi => (HP.out.ap i hi).1⟩; clear hv hP hS hi; have hle : Hid (N ≤ c) := vec_le H3.out.2.2) | (at_builtin; refine wpList_append_nothing rfl (.tmp 22) (.tmp 23) 26 rfl Try.underlying26 infoIntD rfl rfl hle.out ?_))
        go_roundw
        case rel =>
          have S3 := HP.out.st.trans ((Step.grown Φr HG.out.1).trans H3.out.2.1)
          have ap := ((Step.grown Φr HG.out.1).trans H3.out.2.1).apart (G := In p) (fun i hi => HPK.out.2.lt hi) (fun i hi => (HP.out.ap i hi).1)
          have e2 : (pl C seed mw z y (k + 1)).2 = L := by rw [HN.out, HEE.out]; simp
          have e1 : (pl C seed mw z y (k + 1)).1 = ye := by rw [HN.out]
          refine ⟨k + 1, p, c, Φ3, by rw [e2, HNN.out], by go_num, by omega, by rw [e1]; exact H3.out.1, S3, by rw [e2, ← HNN.out]; exact H3.out.2.2, fun i hi => ⟨ap i hi, (HP.out.ap i hi).2⟩⟩
        case measure => simp [intOf]; omega
      · obtain ⟨m, hm⟩ : ∃ m, m = E.length := ⟨_, rfl⟩
        have hm0 : 0 < m := by omega
        have hmb : m ≤ 196608 := by rw [hm]; exact HF.out.2.2.2.2
        have HEE : Hid (m = E.length) := hm
        rw [← hm] at DO
        clear hE0 hm
        go_wp2_with (first | (refine wpList_load_mid rfl 28 (.tmp 14) rfl b (off + k * 4) rfl [.int .i64 zd, .int .i64 zn, .int .i64 zk, .int .i64 zv] _ hrg Try.underlying28 rfl (infoE zd zn zk zv) ?_) | (go_at_call 9; refine DO.mono ?_; clear DO; rintro e w3 ⟨q, g, cc, Φ3, rfl, hg, hv, hP, hS, hi⟩; replace hg := hg.symm; subst hg; obtain ⟨Bq, hq, _⟩ := hv.opens hm0; subst hq; have H3 : Hid (Pol w3 A Φ3 C seed mw ye ∧ Step Φr Φ3 W0 w3 ∧ Vec w3 3 1 p N c (idL L)) := ⟨hP, by rw [HG.out.2]; exact hS, (HPK.out.2.grown HG.out.1).out (by rw [HG.out.2]; exact hS.out) fun i hi => (HP.out.ap i hi).1⟩; have HV3 : Hid (∀ j, j < m * 1 → w3.cell? ((⟨Bq, 0, none⟩ : Addr).add j) = some (idL E j)) := vec_cells hv; clear hv hP hS hi) | (at_builtin; refine wpList_append_vec rfl (.tmp 22) (.tmp 23) 26 rfl Try.underlying26 infoIntD rfl rfl H3.out.2.2 rfl hm0 HV3.out (fun _ _ => rfl) (by have := HNb.out; omega) (by have := HNb.out; omega) ?_; intro p' c' w4 hv4 ho4 hp4; have H4 : Hid (Vec w4 3 1 p' (N + m) c' (fun j => if j < N * 1 then idL L j else idL E (j - N * 1)) ∧ Out (In p) w3 w4 ∧ (p' = p ∨ p' = some ⟨w3.heap.size, 0, none⟩)) := ⟨hv4, ho4, hp4⟩; clear hv4 ho4 hp4))
        go_roundw
        case rel =>
          have S3 := HP.out.st.trans ((Step.grown Φr HG.out.1).trans H3.out.2.1)
          have ap := ((Step.grown Φr HG.out.1).trans H3.out.2.1).apart (G := In p) (fun i hi => HPK.out.2.lt hi) (fun i hi => (HP.out.ap i hi).1)
          obtain ⟨v4, o4, p4⟩ := H4.out
          have e2 : (pl C seed mw z y (k + 1)).2 = L ++ E := by rw [HN.out]
          have e1 : (pl C seed mw z y (k + 1)).1 = ye := by rw [HN.out]
          have el : (L ++ E).length = N + m := by rw [List.length_append, ← HNN.out, ← HEE.out]
          refine ⟨k + 1, p', c', Φ3, by rw [e2, el], by go_num, by omega, by rw [e1]; exact H3.out.1.out o4 (fun i hi hp => ap i hp hi), ⟨S3.out.trans o4 (fun i hi => .inr (HP.out.ap i hi).2), S3.new⟩, ?_, fun i hi => ?_⟩
          · rw [e2, el]
            refine v4.congr fun j _ => ?_
            have := idL_append L E j
            rw [← HNN.out] at this
            exact this
          · rcases p4 with rfl | rfl
            · exact ⟨ap i hi, (HP.out.ap i hi).2⟩
            · have hi := hi.eq
              have := S3.out.size
              exact ⟨fun hf => by have := H3.out.1.lt hf; omega, by omega⟩
        case measure => simp [intOf]; omega
    · obtain rfl : k = len := by omega
      have hd : decide ((k : Int) < (k : Int)) = false := by rw [decide_eq_false_iff_not]; omega
      obtain ⟨N, hN⟩ : ∃ N, N = L.length := ⟨_, rfl⟩
      have HNN : Hid (N = L.length ∧ Vec wr 3 1 p L.length c (idL L) ∧ Pol wr A Φr C seed mw yk) := ⟨hN, VK, PK⟩
      rw [← hN]
      clear hN VK PK f1 f2 f3 f4
      go_wp2
      go_ret
      refine ⟨p, N, c, Φr, rfl, by rw [HNN.out.1, HE.out.1], by rw [← HE.out.1, HNN.out.1]; exact HNN.out.2.1, by rw [← HE.out.2]; exact HNN.out.2.2, HP.out.st, HP.out.ap⟩
end Go.Proofs.Ytlmcopenbeammaa.Po
