/-
  What the document's own Add and Ints of layer 3 do when they are called.
-/
import Derived.Test.YtaelaikfpehciaaSkRef
namespace Go.Proofs.Ytaelaikfpehciaa
open Go.RowKit Go.Deep

variable {w : World} {b m : Nat} {seed n : Int} {c : Nat → Nat → Int}

/-- The counters behind as many rows' raises. -/
def icK (c : Nat → Nat → Int) (x : BitVec 64) (m k i j : Nat) : Int := if i < k ∧ j = P x i m ∧ c i j < 15 then c i j + 1 else c i j
theorem icK_here (c : Nat → Nat → Int) (x : BitVec 64) (m k j : Nat) : icK c x m k k j = c k j := by unfold icK; rw [if_neg (by omega)]
theorem ic_set {M k p : Nat} {x : BitVec 64} (h : Rf w b seed n M (icK c x m k)) (hk : k < 4) (hp : p = P x k m) (hl : kc c x m k < 15) :
    Rf (w.setCell ⟨b + 1 + k, p, none⟩ (.int .i64 (kc c x m k + 1))) b seed n M (icK c x m (k + 1)) := by
  refine (Tb.setV h hk _).congr fun i hi l _ => ?_
  show (if i = k ∧ l = p then _ else _) = _
  unfold kc at hl ⊢
  by_cases e : i = k ∧ l = p
  · obtain ⟨rfl, rfl⟩ := e
    rw [if_pos ⟨rfl, rfl⟩, hp]
    unfold icK; rw [if_pos ⟨by omega, rfl, hl⟩]
  · rw [if_neg e]
    unfold icK
    by_cases e2 : i < k ∧ l = P x i m ∧ c i l < 15
    · rw [if_pos e2, if_pos ⟨by omega, e2.2⟩]
    · rw [if_neg e2, if_neg]
      intro e3
      by_cases e4 : i = k
      · subst e4; exact e ⟨rfl, by rw [hp]; exact e3.2.1⟩
      · exact e2 ⟨by omega, e3.2⟩
theorem ic_not {M k : Nat} {x : BitVec 64} (h : Rf w b seed n M (icK c x m k)) (hl : ¬ kc c x m k < 15) : Rf w b seed n M (icK c x m (k + 1)) := by
  refine Tb.congr h fun i hi l _ => ?_
  have e : icK c x m k i l = icK c x m (k + 1) i l := by
    unfold icK
    by_cases e2 : i < k ∧ l = P x i m ∧ c i l < 15
    · rw [if_pos e2, if_pos ⟨by omega, e2.2⟩]
    · rw [if_neg e2, if_neg]
      intro e3
      by_cases e4 : i = k
      · subst e4; exact hl (by unfold kc; rw [← e3.2.1]; exact e3.2.2)
      · exact e2 ⟨by omega, e3.2⟩
  rw [e]
theorem ic_end {M : Nat} {x : BitVec 64} (h : Rf w b seed n M (icK c x m 4)) : Rf w b seed n M (incC c x m) := by
  refine Tb.congr h fun i hi l _ => ?_
  have e : icK c x m 4 i l = incC c x m i l := by
    unfold icK incC
    by_cases e2 : l = P x i m ∧ c i l < 15
    · rw [if_pos ⟨by omega, e2⟩, if_pos e2]
    · rw [if_neg (fun x => e2 x.2), if_neg e2]
  rw [e]
theorem inc_bd {M : Nat} (x : BitVec 64) (hb : ∀ i, i < 4 → ∀ j, j < M → 0 ≤ c i j ∧ c i j ≤ 15) : ∀ i, i < 4 → ∀ j, j < M → 0 ≤ incC c x m i j ∧ incC c x m i j ≤ 15 := by
  intro i hi j hj
  have := hb i hi j hj
  unfold incC; split <;> omega

set_option maxHeartbeats 2000000 in
theorem refAdd_any (h : Rf w b seed n (16 * m) c) (h1 : 1 ≤ m) (hm : m ≤ 4096) (hn : 0 ≤ n) (hn' : n ≤ 4611686018427387903) (hb : ∀ i, i < 4 → ∀ j, j < 16 * m → 0 ≤ c i j ∧ c i j ≤ 15) (key : Int) :
    Calls Try.prog 25 #[ptr b, .int .i64 key] w fun e w' => e = .returned (.tuple #[.bool (okG (kc c (mixB seed key) m) 4), .bool (agedC c (mixB seed key) m n)]) ∧ Rf w' b seed (nC c (mixB seed key) m n) (16 * m) (cC c (mixB seed key) m n) ∧ Off b 5 w w' := by
  have at_ := fun w c h => @refAt_any w b m seed n c h h1 hm key
  obtain ⟨x, hx⟩ : ∃ x, x = mixB seed key := ⟨_, rfl⟩
  rw [← hx]
  simp only [← hx] at at_
  clear hx
  unfold ptr at *
  go_enter Try.func25, Try.ntmps25
  go_wp2
  go_loopw [6, 7] (fun l i wr => ∃ k : Nat, k ≤ 4 ∧ i = .int .i64 k ∧ l = .bool (okG (kc c x m) k) ∧ Rf wr b seed n (16 * m) (icK c x m k) ∧ Off b 5 w wr) (fun _ i _ => 4 - (intOf i).toNat)
  case atStart => exact ⟨0, by omega, rfl, rfl, Tb.congr h (fun i _ q _ => by unfold icK; rw [if_neg (by omega)]), Off.refl _ _ _⟩
  case round =>
    obtain ⟨k, hk, rfl, rfl, hs, ho⟩ := hrel
    by_cases hlt : k < 4
    · have hp := P_lt x k m h1
      have ak := at_ wr _ hs k
      have c1 : wr.cell? ⟨b, 3 + k, none⟩ = some (.slice (some ⟨b + 1 + k, 0, none⟩) (16 * m) (16 * m)) := Tb.cellR hs hlt
      have c2 : wr.cell? ⟨b + 1 + k, P x k m, none⟩ = some (.int .i64 (kc c x m k)) := by
        have := Tb.cellV hs hlt hp
        rw [icK_here] at this
        exact this
      have c3 : wr.frozen? ⟨b + 1 + k, P x k m, none⟩ = false := Tb.frozenV hs hlt _
      have hbb := hb k hlt _ hp
      obtain ⟨v, hv⟩ : ∃ v, v = kc c x m k := ⟨_, rfl⟩
      have hvb : 0 ≤ v ∧ v ≤ 15 := by rw [hv]; exact hbb
      obtain ⟨p, hpe⟩ : ∃ p, p = P x k m := ⟨_, rfl⟩
      have hd : decide ((k : Int) < 4) = true := by rw [decide_eq_true_eq]; omega
      have HS : Hid (Rf wr b seed n (16 * m) (icK c x m k)) := hs
      have HP : Hid (p = P x k m) := hpe
      have HV : Hid (v = kc c x m k) := hv
      rw [← hv] at c2
      rw [← hpe] at hp c2 c3 ak
      have HO : Hid (okG (kc c x m) (k + 1) = (okG (kc c x m) k || decide (v < 15))) := by show _ = _; rw [hv]; rfl
      clear hv hpe hs hbb at_
      obtain ⟨hv0, hv1⟩ := hvb
      by_cases hl : v < 15
      · have hdl : decide (v < 15) = true := decide_eq_true hl
        go_wp2_with (first | (go_at_call 40; refine ak.mono ?_; rintro e w' ⟨rfl, d, hw⟩; subst hw))
        go_roundw
        case rel => exact ⟨k + 1, by omega, by go_num, by rw [HO.out, hdl, Bool.or_true], by rw [HV.out]; exact ic_set (rf_drewN HS.out d) hlt HP.out (by rw [← HV.out]; exact hl), hc_off (ho.drewN d) hlt _ _⟩
        case measure => simp [intOf]; omega
      · have hdl : decide (v < 15) = false := decide_eq_false hl
        go_wp2_with (first | (go_at_call 40; refine ak.mono ?_; rintro e w' ⟨rfl, d, hw⟩; subst hw))
        go_roundw
        case rel => exact ⟨k + 1, by omega, by go_num, by rw [HO.out, hdl, Bool.or_false], ic_not (rf_drewN HS.out d) (by rw [← HV.out]; omega), ho.drewN d⟩
        case measure => simp [intOf]; omega
    · obtain rfl : k = 4 := by omega
      have hs := ic_end hs
      have c1 : wr.cell? ⟨b, 2, none⟩ = some (.int .i64 n) := Tb.cellH hs (k := 2) rfl
      have c2 := Tb.frozenH hs 2
      have c0 : wr.cell? ⟨b, 0, none⟩ = some (.int .i64 (16 * (m : Int))) := by
        have := Tb.cellH hs (k := 0) rfl
        exact this.trans (by show some (Value.int .i64 ((16 * m : Nat) : Int)) = _; rw [Int.natCast_mul]; rfl)
      have hbi := inc_bd (m := m) x hb
      have HH : Hid (∀ (W : World) (n' : Int), Rf W b seed n' (16 * m) (incC c x m) → 0 ≤ n' → n' ≤ 9223372036854775807 → _) := fun W n' h h0 h9 => refHalve_any h (by omega) h0 h9 hbi
      have HS : Hid (Rf wr b seed n (16 * m) (incC c x m)) := hs
      clear hs at_ hbi hb h
      cases hok : okG (kc c x m) 4 with
      | false =>
        have HA : Hid (agedC c x m n = false) := by show _ = _; unfold agedC; rw [hok]; rfl
        have HN : Hid (nC c x m n = n) := by show _ = _; unfold nC; rw [HA.out, hok]; rfl
        have HC : Hid (cC c x m n = incC c x m) := by show _ = _; funext i j; unfold cC; rw [HA.out]; rfl
        go_wp2
        go_ret2
        exact ⟨by rw [HA.out, hok]; rfl, by rw [HN.out, HC.out]; exact HS.out, ho⟩
      | true =>
        by_cases hag : 160 * (m : Int) ≤ n + 1
        · have HA : Hid (agedC c x m n = true) := by show _ = _; unfold agedC; rw [hok, decide_eq_true hag]; rfl
          have HN : Hid (nC c x m n = (n + 1) / 2) := by show _ = _; unfold nC; rw [HA.out]; rfl
          have HC : Hid (cC c x m n = fun i j => incC c x m i j / 2) := by show _ = _; funext i j; unfold cC; rw [HA.out]; rfl
          have hd : decide (10 * (16 * (m : Int)) ≤ n + 1) = true := by rw [decide_eq_true_eq]; omega
          go_wp2
          go_quiet (fail)
          go_wp2_with (first | (go_at_call 41; refine (HH.out _ (n + 1) (rf_drewN (rf_n HS.out _) _) (by omega) (by omega)).mono ?_; rintro e w2 ⟨rfl, hs2, ho2⟩))
          go_ret2
          exact ⟨by rw [HA.out, hok]; rfl, by rw [HN.out, HC.out]; assumption, ((off_n2 ho _).drewN _).trans (by assumption)⟩
        · have HA : Hid (agedC c x m n = false) := by show _ = _; unfold agedC; rw [hok, decide_eq_false hag]; rfl
          have HN : Hid (nC c x m n = n + 1) := by show _ = _; unfold nC; rw [HA.out, hok]; rfl
          have HC : Hid (cC c x m n = incC c x m) := by show _ = _; funext i j; unfold cC; rw [HA.out]; rfl
          have hd : decide (10 * (16 * (m : Int)) ≤ n + 1) = false := by rw [decide_eq_false_iff_not]; omega
          go_wp2
          go_quiet (fail)
          go_wp2
          go_ret2
          exact ⟨by rw [HA.out, hok]; rfl, by rw [HN.out, HC.out]; exact rf_drewN (rf_n HS.out _) _, (off_n2 ho _).drewN _⟩
end Go.Proofs.Ytaelaikfpehciaa
