/-
  What Drain, Len, Lost and Lens of package pantryref13 do when they are called. Conditions: rings of at most 4096 numbers, at most 10000 lost of each.
-/
import Derived.Test.YtbboomhgigaobaaSpRefT
namespace Go.Proofs.Ytbboomhgigaobaa.Rn
open Go.RowKit Go.Deep
variable {W w w' w2 : World} {l : List Ob} {i j k N : Nat} {Y : Dp} {ds : Ds} {st : St} {q q' : List Int} {L L' : Int} {p p' : Option Addr} {c c' : Nat}

theorem upN_bd (hm : ∀ s ∈ st, s.1.length ≤ 4096) (k : Nat) : ((upN st k).length : Int) ≤ k * 4096 := by
  rw [upN_len]
  exact (sumN_bd (st := st) lenO (B := 4096) (by omega) (fun s hs => by have := hm s hs; unfold lenO; omega) k).2
theorem halfN_drop {k : Nat} {s : List Int × Int} (h : st[k]? = some s) : (halfN st k)[k]? = some s := halfN_at h
theorem rdrain_p (h : Apt W w l) (hi : l[i]? = some (obDp Y ds)) (hst : absD ds = st) (hm : ∀ s ∈ st, s.1.length ≤ 4096) :
    Calls Try.prog 14 #[ptr Y.Y] w fun e w' => ∃ ds' p c, e = .returned (.slice p (allN st).length c) ∧ absD ds' = emptyN st ∧ Apt W w' (l.set i (obDp Y ds') ++ [obV p c (allN st)]) := by
  have hlt : Hid (i < l.length) := (List.getElem?_eq_some_iff.1 hi).1
  have hlen : Hid (st.length = Y.k) := by
    rw [← hst]
    show (ds.map (·.2)).length = Y.k
    rw [List.length_map]; exact (dp_head h hi).1
  have k2 := (dp_head h hi).2.2.1
  have H : Hid (Apt W w (l.set i (obDp Y ds) ++ [obV none 0 []]) ∧ absD ds = st) := ⟨by
    rw [set_same hi]; exact h.add (Grown.refl _) (Vec.nil _ _ _ _) fun x hx => absurd hx In.no, hst⟩
  have hm : Hid (∀ k : Nat, ((upN st k).length : Int) ≤ k * 4096) := fun k => upN_bd hm k
  clear h hi hst
  unfold ptr at *
  go_enter Try.func14, Try.ntmps14
  go_wp2
  go_loopw [3, 4] (fun al iv wr => ∃ (k m c : Nat) (p : Option Addr) (ds' : Ds), k ≤ Y.k ∧ iv = .int .i64 (k : Int) ∧ al = .slice p m c ∧ m = (upN st k).length ∧ absD ds' = halfN st k ∧ Apt W wr (l.set i (obDp Y ds') ++ [obV p c (upN st k)])) (fun _ iv _ => Y.k - (intOf iv).toNat)
  case atStart => exact ⟨0, 0, 0, none, ds, by omega, rfl, rfl, by rw [upN_zero]; rfl, by rw [halfN_zero]; exact H.out.2, by rw [upN_zero]; exact H.out.1⟩
  case round =>
    clear H
    obtain ⟨k, m, c, p, ds, hk', rfl, rfl, hmm, hst, hx⟩ := hrel
    obtain ⟨a, ha⟩ : ∃ a, Hid (a = upN st k) := ⟨_, rfl⟩
    have hm2 : m ≤ 262144 := by have := hm.out k; omega
    rw [← ha.out] at hmm hx
    have HM : Hid (m = a.length) := hmm
    have hst : Hid (absD ds = halfN st k) := hst
    have hx : Hid (Apt W wr (l.set i (obDp Y ds) ++ [obV p c a])) := hx
    have hil : Hid ((l.set i (obDp Y ds) ++ [obV p c a])[i]? = some (obDp Y ds)) := by
      show _ = _
      rw [List.getElem?_append_left (by rw [List.length_set]; exact hlt.out), List.getElem?_set_self hlt.out]
    obtain ⟨_, _, _, B, eB, c0, _, cR, lS, lR⟩ := dp_head hx.out hil.out
    clear hmm
    by_cases hlt' : k < Y.k
    · obtain ⟨⟨q, L⟩, hq⟩ : ∃ s, st[k]? = some s := ⟨_, List.getElem?_eq_getElem (by have := hlen.out; omega)⟩
      obtain ⟨pr, cr, hd⟩ := absD_at (ds := ds) (by rw [hst.out]; exact halfN_at hq)
      have ck := cR k hlt'
      obtain ⟨n', hn'⟩ : ∃ n', Hid (n' = q.length) := ⟨_, rfl⟩
      have hup : Hid (upN st (k + 1) = a ++ q) := by rw [ha.out]; exact upN_succ hq
      have hn3 : m + n' ≤ 266240 := by
        have := hm.out (k + 1)
        rw [hup.out, List.length_append, ← HM.out, ← hn'.out] at this
        omega
      obtain ⟨ds2, hds2⟩ : ∃ ds2 : Ds, Hid (ds2 = ds.set k ((none, 0), ([], L))) := ⟨_, rfl⟩
      have hab : Hid (absD ds2 = halfN st (k + 1)) := by rw [hds2.out]; show absD (ds.set k _) = _; rw [absD_set, hst.out]; exact halfN_succ hq
      obtain ⟨l2, hl2⟩ : ∃ l2, Hid (l2 = l.set i (obDp Y ds2)) := ⟨_, rfl⟩
      have d1 : Calls Try.prog 30 #[ptr (Y.a k)] wr fun e w' => e = .returned (.slice pr n' cr) ∧ Apt W w' (l2 ++ [obV p c a] ++ [obV pr cr q]) := by
        refine (rdrain_r hx.out hil.out hd).mono ?_
        rintro e w' ⟨rfl, h2⟩
        rw [List.set_append_left (h := by rw [List.length_set]; exact hlt.out), List.set_set, ← hds2.out, ← hl2.out] at h2
        exact ⟨by rw [hn'.out], h2⟩
      have hdd : decide ((k : Int) < (Y.k : Int)) = true := by rw [decide_eq_true_eq]; omega
      unfold ptr at *
      clear hx hd cR hil hm hq
      go_wp2_with (first
        | (go_at_call 30; refine d1.mono ?_; rintro e w2 ⟨rfl, h2⟩; clear d1 ck c0 lS lR; have h2 : Hid (Apt W w2 (l2 ++ [obV p c a] ++ [obV pr cr q])) := h2)
        | (at_builtin; refine wpList_append_any rfl (.tmp 14) (.tmp 22) 32 rfl Try.underlying32 infoN rfl rfl (f := ivL a) (by rw [HM.out]; exact h2.out.all _ _ (at_mid _ _ _)) rfl (g := ivL q) (fun hp => src_s h2.out (at_end _ _ _) hn'.out hp) (fun _ _ => rfl) (by omega) (by omega) ?_; intro p' c' w3 hv3 ho3 hp3; have h3 : Hid (Apt W w3 (l2 ++ [obV p' c' (a ++ q)] ++ [obV pr cr q])) := (by have := joined_s h2.out (at_mid _ _ _) (by rw [HM.out, hn'.out] at hv3; exact hv3) ho3 hp3; rw [set_mid] at this; exact this); clear hv3 ho3 hp3 h2))
      go_roundw
      case rel => exact ⟨k + 1, m + n', c', p', ds2, by omega, by go_num, rfl, by rw [hup.out, List.length_append, HM.out, hn'.out], hab.out, by rw [hup.out, ← hl2.out]; exact h3.out.front⟩
      case measure => simp [intOf]; omega
    · obtain rfl : k = Y.k := by omega
      have hd : decide ((Y.k : Int) < (Y.k : Int)) = false := by rw [decide_eq_false_iff_not]; omega
      go_wp2
      go_ret
      refine ⟨ds, p, c, by rw [← upN_all hlen.out, ← ha.out, ← HM.out]; rfl, by rw [hst.out, halfN_all hlen.out], ?_⟩
      have := hx.out
      rw [ha.out, upN_all hlen.out] at this
      exact this
theorem rlen_p (h : Apt W w l) (hi : l[i]? = some (obDp Y ds)) (hst : absD ds = st) (hm : ∀ s ∈ st, s.1.length ≤ 4096) :
    Calls Try.prog 20 #[ptr Y.Y] w fun e w' => e = .returned (.int .i64 (st.map lenO).sum) ∧ w' = w := by
  obtain ⟨hk, k1, k2, B, eB, c0, _, cR, lS, lR⟩ := dp_head h hi
  have hlen : st.length = Y.k := by
    rw [← hst]
    show (ds.map (·.2)).length = Y.k
    rw [List.length_map]; exact hk
  have hb : ∀ k : Nat, k ≤ 64 → 0 ≤ sumN lenO st k ∧ sumN lenO st k ≤ 1000000 := fun k hk => by
    have := sumN_bd (st := st) lenO (B := 4096) (by omega) (fun s hs => by have := hm s hs; unfold lenO; omega) k
    omega
  have hs : ∀ j, j < Y.k → ∃ (p : Option Addr) (c : Nat) (q : List Int) (L : Int), w.cell? ⟨Y.a j, 1, none⟩ = some (.slice p q.length c) ∧ Y.a j < w.heap.size ∧ Hid (sumN lenO st (j + 1) = sumN lenO st j + (q.length : Int)) := fun j hj => by
    obtain ⟨⟨q, L⟩, hq⟩ : ∃ s, st[j]? = some s := ⟨_, List.getElem?_eq_getElem (by omega)⟩
    obtain ⟨p, c, hd⟩ := absD_at (ds := ds) (by rw [hst]; exact hq)
    have := dring_cells h hi hd
    exact ⟨p, c, q, L, this.1, this.2.2, sumN_succ lenO hq⟩
  rw [← sumN_all lenO hlen]
  clear h hi hst hm hlen
  unfold ptr at *
  go_enter Try.func20, Try.ntmps20
  go_wp2
  go_loopw [3, 4] (fun al iv wr => ∃ k : Nat, k ≤ Y.k ∧ iv = .int .i64 (k : Int) ∧ al = .int .i64 (sumN lenO st k) ∧ wr = w) (fun _ iv _ => Y.k - (intOf iv).toNat)
  case atStart => exact ⟨0, by omega, rfl, by rw [sumN_zero], rfl⟩
  case round =>
    obtain ⟨k, hk', rfl, rfl, rfl⟩ := hrel
    by_cases hlt : k < Y.k
    · obtain ⟨p, c, q, L, c1, l1, hs1⟩ := hs k hlt
      have ck := cR k hlt
      have b1 := hb k (by omega)
      have b2 := hb (k + 1) (by omega)
      rw [hs1.out] at b2
      have hd : decide ((k : Int) < (Y.k : Int)) = true := by rw [decide_eq_true_eq]; omega
      clear hs cR hb
      go_wp2
      go_roundw
      case rel => exact ⟨k + 1, by omega, by go_num, by rw [hs1.out], trivial⟩
      case measure => simp [intOf]; omega
    · obtain rfl : k = Y.k := by omega
      have hd : decide ((Y.k : Int) < (Y.k : Int)) = false := by rw [decide_eq_false_iff_not]; omega
      clear hs cR hb
      go_wp2
      go_ret
      exact ⟨rfl, rfl⟩
theorem rlost_p (h : Apt W w l) (hi : l[i]? = some (obDp Y ds)) (hst : absD ds = st) (hm : ∀ s ∈ st, 0 ≤ s.2 ∧ s.2 ≤ 10000) :
    Calls Try.prog 22 #[ptr Y.Y] w fun e w' => e = .returned (.int .i64 (st.map lostO).sum) ∧ w' = w := by
  obtain ⟨hk, k1, k2, B, eB, c0, _, cR, lS, lR⟩ := dp_head h hi
  have hlen : st.length = Y.k := by
    rw [← hst]
    show (ds.map (·.2)).length = Y.k
    rw [List.length_map]; exact hk
  have hb : ∀ k : Nat, k ≤ 64 → 0 ≤ sumN lostO st k ∧ sumN lostO st k ≤ 1000000 := fun k hk => by
    have := sumN_bd (st := st) lostO (B := 10000) (by omega) hm k
    omega
  have hs : ∀ j, j < Y.k → ∃ L : Int, w.cell? ⟨Y.a j, 2, none⟩ = some (.int .i64 L) ∧ Y.a j < w.heap.size ∧ Hid (sumN lostO st (j + 1) = sumN lostO st j + L) := fun j hj => by
    obtain ⟨⟨q, L⟩, hq⟩ : ∃ s, st[j]? = some s := ⟨_, List.getElem?_eq_getElem (by omega)⟩
    obtain ⟨p, c, hd⟩ := absD_at (ds := ds) (by rw [hst]; exact hq)
    have := dring_cells h hi hd
    exact ⟨L, this.2.1, this.2.2, sumN_succ lostO hq⟩
  rw [← sumN_all lostO hlen]
  clear h hi hst hm hlen
  unfold ptr at *
  go_enter Try.func22, Try.ntmps22
  go_wp2
  go_loopw [3, 4] (fun al iv wr => ∃ k : Nat, k ≤ Y.k ∧ iv = .int .i64 (k : Int) ∧ al = .int .i64 (sumN lostO st k) ∧ wr = w) (fun _ iv _ => Y.k - (intOf iv).toNat)
  case atStart => exact ⟨0, by omega, rfl, by rw [sumN_zero], rfl⟩
  case round =>
    obtain ⟨k, hk', rfl, rfl, rfl⟩ := hrel
    by_cases hlt : k < Y.k
    · obtain ⟨L, c1, l1, hs1⟩ := hs k hlt
      have ck := cR k hlt
      have b1 := hb k (by omega)
      have b2 := hb (k + 1) (by omega)
      rw [hs1.out] at b2
      have hd : decide ((k : Int) < (Y.k : Int)) = true := by rw [decide_eq_true_eq]; omega
      clear hs cR hb
      go_wp2
      go_roundw
      case rel => exact ⟨k + 1, by omega, by go_num, by rw [hs1.out], trivial⟩
      case measure => simp [intOf]; omega
    · obtain rfl : k = Y.k := by omega
      have hd : decide ((Y.k : Int) < (Y.k : Int)) = false := by rw [decide_eq_false_iff_not]; omega
      clear hs cR hb
      go_wp2
      go_ret
      exact ⟨rfl, rfl⟩
end Go.Proofs.Ytbboomhgigaobaa.Rn
