/-
  What Lens of package pantryref13 does when it is called. No condition but those told at each sentence.
-/
import Derived.Test.YtbboomhgigaobaaSpRefD
namespace Go.Proofs.Ytbboomhgigaobaa.Rn
open Go.RowKit Go.Deep
variable {W w w' w2 : World} {l : List Ob} {i j k N : Nat} {Y : Dp} {ds : Ds} {st : St} {q q' : List Int} {L L' : Int} {p p' : Option Addr} {c c' : Nat}

/-- append of one number to the last object. -/
theorem appended_l {a : List Int} {x : Int} {tmp : Array Value} {y : TypeId} (h : Apt W w (l ++ [obV p c a])) (hv : Vec w2 3 1 p' (a.length + 1) c' (fun j => if j < a.length * 1 then ivL a j else .int .i64 x)) (o : Out (In p) (w.alloc (.cells tmp y)) w2)
    (hp : p' = p ∨ p' = some ⟨(w.alloc (.cells tmp y)).heap.size, 0, none⟩) : Apt W w2 (l ++ [obV p' c' (a ++ [x])]) := by
  have := appended_s h (last_at _ _) hv o hp
  rwa [last_set] at this
theorem rlens_p (h : Apt W w l) (hi : l[i]? = some (obDp Y ds)) (hst : absD ds = st) :
    Calls Try.prog 24 #[ptr Y.Y] w fun e w' => ∃ p c, e = .returned (.slice p Y.k c) ∧ (st.map lenO).length = Y.k ∧ Apt W w' (l ++ [obV p c (st.map lenO)]) := by
  obtain ⟨hk, k1, k2, B, eB, _⟩ := dp_head h hi
  have hlt : Hid (i < l.length) := (List.getElem?_eq_some_iff.1 hi).1
  have hlen : Hid (st.length = Y.k) := by
    rw [← hst]
    show (ds.map (·.2)).length = Y.k
    rw [List.length_map]; exact hk
  have H : Hid (Apt W w (l ++ [obV none 0 []])) := h.add (Grown.refl _) (Vec.nil _ _ _ _) fun x hx => absurd hx In.no
  have hi1 : ∀ u : Ob, Hid ((l ++ [u])[i]? = some (obDp Y ds)) := fun u => by
    show _ = _
    rw [List.getElem?_append_left hlt.out]; exact hi
  have hst : Hid (absD ds = st) := hst
  clear h hi hk
  unfold ptr at *
  go_enter Try.func24, Try.ntmps24
  go_wp2
  go_loopw [3, 4] (fun al iv wr => ∃ (k m c : Nat) (p : Option Addr), k ≤ Y.k ∧ iv = .int .i64 (k : Int) ∧ al = .slice p m c ∧ m = k ∧ Apt W wr (l ++ [obV p c ((st.take k).map lenO)])) (fun _ iv _ => Y.k - (intOf iv).toNat)
  case atStart => exact ⟨0, 0, 0, none, by omega, rfl, rfl, rfl, by simpa using H.out⟩
  case round =>
    clear H
    obtain ⟨k, m, c, p, hk', rfl, rfl, hmm, hx⟩ := hrel
    obtain ⟨a, ha⟩ : ∃ a, Hid (a = (st.take k).map lenO) := ⟨_, rfl⟩
    rw [← ha.out] at hx
    have HM : Hid (m = a.length ∧ m = k) := ⟨by rw [hmm, ha.out]; simp; have := hlen.out; omega, hmm⟩
    have hm2 : m ≤ 64 := by omega
    have hx : Hid (Apt W wr (l ++ [obV p c a])) := hx
    obtain ⟨_, _, _, B', eB', c0, _, cR, lS, lR⟩ := dp_head hx.out (hi1 _).out
    have eBB := eB'.symm.trans eB
    cases eBB
    clear hmm eB'
    by_cases hlt' : k < Y.k
    · obtain ⟨⟨q, L⟩, hq⟩ : ∃ s, st[k]? = some s := ⟨_, List.getElem?_eq_getElem (by have := hlen.out; omega)⟩
      obtain ⟨pr, cr, hd⟩ := absD_at (ds := ds) (by rw [hst.out]; exact hq)
      obtain ⟨c1, _, l1⟩ := dring_cells hx.out (hi1 _).out hd
      have ck := cR k hlt'
      obtain ⟨n', hn'⟩ : ∃ n', Hid (n' = q.length) := ⟨_, rfl⟩
      rw [← hn'.out] at c1
      have hup : Hid ((st.take (k + 1)).map lenO = a ++ [(n' : Int)]) := by
        rw [ha.out, hn'.out]
        show _ = _
        rw [List.take_add_one, hq, List.map_append]
        rfl
      have hdd : decide ((k : Int) < (Y.k : Int)) = true := by rw [decide_eq_true_eq]; omega
      unfold ptr at *
      clear hd cR hq
      go_wp2_with (at_builtin; refine wpList_append_vec rfl (.tmp 14) (.tmp 26) 32 rfl Try.underlying32 infoN rfl rfl (f := ivL a) (by rw [HM.out.1]; exact (hx.out.all _ _ (last_at _ _)).grown ((Grown.refl _).alloc _ _)) rfl (by decide) (new_int _ _ _) (fun _ _ => rfl) (by omega) (by omega) ?_; intro p' c' w3 hv3 ho3 hp3; have h3 : Hid (Apt W w3 (l ++ [obV p' c' (a ++ [(n' : Int)])])) := appended_l hx.out (by rw [HM.out.1] at hv3; exact hv3) ho3 hp3; clear hv3 ho3 hp3 hx c0 ck c1)
      go_roundw
      case rel => exact ⟨k + 1, m + 1, c', p', by omega, by go_num, rfl, by rw [HM.out.2], by rw [hup.out]; exact h3.out⟩
      case measure => simp [intOf]; omega
    · obtain rfl : k = Y.k := by omega
      have hd : decide ((Y.k : Int) < (Y.k : Int)) = false := by rw [decide_eq_false_iff_not]; omega
      go_wp2
      go_ret
      refine ⟨p, c, by rw [← HM.out.2]; rfl, by rw [List.length_map]; exact hlen.out, ?_⟩
      have := hx.out
      rw [ha.out, ← hlen.out, List.take_length] at this
      exact this
end Go.Proofs.Ytbboomhgigaobaa.Rn
