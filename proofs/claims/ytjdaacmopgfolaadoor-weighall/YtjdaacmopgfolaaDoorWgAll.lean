/-
  Package weigh: contracts of All and First. Conditions: slices have at most a thousand elements.
-/
import Derived.Test.YtjdaacmopgfolaaDoorWgRest
namespace Go.Proofs.YtjdaacmopgfolaaDoor
open Go.RowKit Go.Deep

theorem Tryd.infoE : (Tryd.prog.info? 24).map (fun i => (i.zero, i.size, i.bytes)) = some (some .nilIface, 1, 16) := by kernel_rfl

theorem FaultIs.out {F : Nat → Prop} {w w' : World} {v : Value} {n k m : Int} (h : FaultIs w v n k m) (o : Out F w w') (hF : ∀ b cs, w.heap[b]? = Option.some (.cells cs 51) → ¬ F b) : FaultIs w' v n k m := by
  rcases h with h | ⟨h0, b, h1, h2⟩
  · exact .inl h
  · exact .inr ⟨h0, b, h1, (o.block b (Array.getElem?_eq_some_iff.1 h2).1 (hF b _ h2)).trans h2⟩

/-- A slice of errors, each of what Admit tells of its place. -/
def AllIs (w : World) (p : Option Addr) (len : Nat) (ks ws : Nat → Int) (c : Int) : Prop :=
  ∃ B vs, p = some ⟨B, 0, none⟩ ∧ Vec w 24 1 (some ⟨B, 0, none⟩) len len vs ∧ ∀ j, j < len → FaultIs w (vs j) (adm (ws j) c) (ks j) (ws j)
theorem AllIs.grown {w w' : World} {p : Option Addr} {len : Nat} {ks ws : Nat → Int} {c : Int} (h : AllIs w p len ks ws c) (g : Grown w w') : AllIs w' p len ks ws c := by
  obtain ⟨B, vs, h1, h2, h3⟩ := h
  exact ⟨B, vs, h1, h2.grown g, fun j hj => (h3 j hj).grown g⟩
theorem AllIs.at {w : World} {p : Option Addr} {len : Nat} {ks ws : Nat → Int} {c : Int} (h : AllIs w p len ks ws c) {k : Nat} (hk : k < len) :
    ∃ B v, p = some ⟨B, 0, none⟩ ∧ w.cell? ⟨B, k, none⟩ = some v ∧ FaultIs w v (adm (ws k) c) (ks k) (ws k) := by
  obtain ⟨B, vs, h1, h2, h3⟩ := h
  obtain ⟨B', e, _, hc, _⟩ := h2.opens (by omega)
  cases e
  exact ⟨B, vs k, h1, hc k (by omega), h3 k hk⟩

/-- What Admit returns, by cases. -/
theorem admit_zero (k x c : Int) (w : World) (h : adm x c = 0) : Calls Tryd.prog 9 #[.int .i64 k, .int .i64 x, .int .i64 c] w fun e w' => e = .returned .nilIface ∧ FaultIs w' .nilIface (adm x c) k x ∧ Grown w w' :=
  (admit_c k x c w).mono fun e w' ⟨v, he, hv, hg⟩ => by
    have hv' := hv
    rw [h] at hv'
    obtain rfl := hv'.nil
    exact ⟨he, hv, hg⟩
theorem admit_some (k x c : Int) (w : World) (h : adm x c ≠ 0) : Calls Tryd.prog 9 #[.int .i64 k, .int .i64 x, .int .i64 c] w fun e w' => ∃ b, e = .returned (.iface 46 (.pointer (some ⟨b, 0, none⟩))) ∧ FaultIs w' (.iface 46 (.pointer (some ⟨b, 0, none⟩))) (adm x c) k x ∧ Grown w w' :=
  (admit_c k x c w).mono fun e w' ⟨v, he, hv, hg⟩ => by
    obtain ⟨b, rfl, _⟩ := hv.some h
    exact ⟨b, he, hv, hg⟩

/-- One more is told. -/
theorem told_more {w W : World} {B k len : Nat} {vs : Nat → Value} {ks ws : Nat → Int} {c : Int} {v : Value} (hB : w.heap.size ≤ B) (hv : Vec W 24 1 (some ⟨B, 0, none⟩) len len vs) (hj : ∀ j, j < k → FaultIs W (vs j) (adm (ws j) c) (ks j) (ws j)) (h : FaultIs W v (adm (ws k) c) (ks k) (ws k)) (g : Grown w W) :
    ∃ vs', Vec (W.setCell ⟨B, k, none⟩ v) 24 1 (some ⟨B, 0, none⟩) len len vs' ∧ (∀ j, j < k + 1 → FaultIs (W.setCell ⟨B, k, none⟩ v) (vs' j) (adm (ws j) c) (ks j) (ws j)) ∧ Grown w (W.setCell ⟨B, k, none⟩ v) := by
  have o : Out (fun i => i = B) W (W.setCell ⟨B, k, none⟩ v) := (Out.refl (fun i => i = B) W).setCell (a := ⟨B, k, none⟩) (show B = B from rfl) v
  have hF : ∀ b cs, W.heap[b]? = some (.cells cs 51) → ¬ b = B := by
    rintro b cs hb rfl
    rcases hv with ⟨h1, _⟩ | ⟨B', cur, h1, h2, _⟩
    · cases h1
    · cases h1
      rw [hb] at h2
      cases h2
  refine ⟨_, hv.set k v, fun j hj' => ?_, o.grown g (fun i hi => by rw [hi]; exact hB)⟩
  by_cases e : j = k
  · subst e
    simp only [if_pos]
    exact h.out o hF
  · simp only [if_neg e]
    exact (hj j (by omega)).out o hF

theorem made_one (z : Value) (n j : Nat) (h : j < n) : (madeCells #[z] n)[j]? = some z := by
  simp [madeCells, Nat.mod_one, h]
set_option maxHeartbeats 2000000 in
theorem all_c (p q : Option Addr) (len cp lw cq : Nat) (ks zw : Nat → Int) (c : Int) (w : World) (hk : Sl w p len ks) (hw : Sl w q lw zw) (hlen : len ≤ 1000) :
    Calls Tryd.prog 16 #[.slice p len cp, .slice q lw cq, .int .i64 c] w fun e w' => ∃ r, e = .returned (.slice r len len) ∧ AllIs w' r len ks (wat zw lw) c ∧ Grown w w' := by
  have hmk := run_make_row' (P := Tryd.prog) 39 24 .nilIface 16 Tryd.underlying39 Tryd.infoE rfl .i64 .i64 len (by omega) (by omega)
  go_enter Tryd.func16, Tryd.ntmps16
  go_wp2
  go_loopw [15] (fun i wr => ∃ (k : Nat) (vs : Nat → Value), k ≤ len ∧ i = .int .i64 k ∧ Vec wr 24 1 (some ⟨w.heap.size, 0, none⟩) len len vs ∧ (∀ j, j < k → FaultIs wr (vs j) (adm (wat zw lw j) c) (ks j) (wat zw lw j)) ∧ Grown w wr) (fun i _ => len - (intOf i).toNat)
  case atStart => exact ⟨0, fun _ => .nilIface, by omega, rfl, Vec.made _ _ _ _ _ (by simp only [maxLen]; omega) _ (fun j hj => made_one _ _ _ (by omega)) (by simp [madeCells]), fun j hj => absurd hj (Nat.not_lt_zero j), (Grown.refl _).alloc _ _⟩
  case round =>
    clear hmk
    obtain ⟨k, vs, hkl, rfl, hv, hj, hg⟩ := hrel
    by_cases hlt : k < len
    · obtain ⟨b, off, rfl, c1⟩ := (hk.grown hg).at hlt
      have c2 := weightAt_c q lw cq k zw wr (hw.grown hg)
      obtain ⟨X, hX⟩ : ∃ X, X = wat zw lw k := ⟨_, rfl⟩
      obtain ⟨Y, hY⟩ : ∃ Y, Y = ks k := ⟨_, rfl⟩
      rw [← hX] at c2
      rw [← hY] at c1
      have HX : Hid (X = wat zw lw k) := hX
      have HY : Hid (Y = ks k) := hY
      clear hX hY
      by_cases hn : adm X c = 0
      · go_wp2_with (first
          | (go_at_call 25; refine c2.mono ?_; rintro e w' ⟨rfl, rfl⟩)
          | (go_at_call 9; refine (admit_zero Y X c _ hn).mono ?_; rintro e w2 ⟨rfl, hf2, hg2⟩
             have hv2 := hv.grown hg2
             obtain ⟨B', eB, hB, hc3, hz3, _⟩ := hv2.opens (by omega)
             cases eB
             have c3 := hc3 k (by omega)
             have z3 := hz3 k))
        go_roundw
        case rel =>
          obtain ⟨vs', g1, g2, g3⟩ := told_more (c := c) (ks := ks) (ws := wat zw lw) (v := .nilIface) (Nat.le_refl _) hv2 (fun j h => (hj j h).grown hg2) (by rw [← HX.out, ← HY.out]; exact hf2) (grownTrans hg hg2)
          exact ⟨k + 1, vs', by omega, by go_num, g1, g2, g3⟩
        case measure => simp [intOf]; omega
      · go_wp2_with (first
          | (go_at_call 25; refine c2.mono ?_; rintro e w' ⟨rfl, rfl⟩)
          | (go_at_call 9; refine (admit_some Y X c _ hn).mono ?_; rintro e w2 ⟨b2, rfl, hf2, hg2⟩
             have hv2 := hv.grown hg2
             obtain ⟨B', eB, hB, hc3, hz3, _⟩ := hv2.opens (by omega)
             cases eB
             have c3 := hc3 k (by omega)
             have z3 := hz3 k))
        go_roundw
        case rel =>
          obtain ⟨vs', g1, g2, g3⟩ := told_more (c := c) (ks := ks) (ws := wat zw lw) (v := .iface 46 (.pointer (some ⟨b2, 0, none⟩))) (Nat.le_refl _) hv2 (fun j h => (hj j h).grown hg2) (by rw [← HX.out, ← HY.out]; exact hf2) (grownTrans hg hg2)
          exact ⟨k + 1, vs', by omega, by go_num, g1, g2, g3⟩
        case measure => simp [intOf]; omega
    · obtain rfl : k = len := by omega
      go_wp2
      go_ret
      exact ⟨_, rfl, ⟨_, vs, rfl, hv, hj⟩, hg⟩

/-- The first of them that is no nil: its number, key and weight. -/
def FirstIs (len : Nat) (ks ws : Nat → Int) (c n k m : Int) : Prop :=
  ((∀ j, j < len → adm (ws j) c = 0) ∧ n = 0 ∧ k = 0 ∧ m = 0) ∨ ∃ i, i < len ∧ (∀ j, j < i → adm (ws j) c = 0) ∧ adm (ws i) c ≠ 0 ∧ n = adm (ws i) c ∧ k = ks i ∧ m = ws i
theorem first_c (r : Option Addr) (len cap : Nat) (ks ws : Nat → Int) (c : Int) (w : World) (h : AllIs w r len ks ws c) (hlen : len ≤ 1000) :
    Calls Tryd.prog 17 #[.slice r len cap] w fun e w' => ∃ v n k m, e = .returned v ∧ FaultIs w' v n k m ∧ FirstIs len ks ws c n k m ∧ Grown w w' := by
  go_enter Tryd.func17, Tryd.ntmps17
  go_wp2
  go_loopw [7] (fun i wr => ∃ k : Nat, k ≤ len ∧ i = .int .i64 k ∧ (∀ j, j < k → adm (ws j) c = 0) ∧ wr = w) (fun i _ => len - (intOf i).toNat)
  case atStart => exact ⟨0, by omega, rfl, fun j hj => absurd hj (Nat.not_lt_zero j), rfl⟩
  case round =>
    obtain ⟨k, hkl, rfl, hz, rfl⟩ := hrel
    have HZ : Hid (∀ j, j < k → adm (ws j) c = 0) := hz
    clear hz
    by_cases hlt : k < len
    · obtain ⟨B, v, rfl, c1, hf⟩ := h.at hlt
      obtain ⟨N, hN⟩ : ∃ N, N = adm (ws k) c := ⟨_, rfl⟩
      rw [← hN] at hf
      have HN : Hid (N = adm (ws k) c) := hN
      clear hN
      by_cases hn : N = 0
      · subst hn
        obtain rfl := hf.nil
        clear hf
        go_wp2
        go_roundw
        case rel => exact ⟨k + 1, by omega, by go_num, fun j hj => by
          by_cases e : j = k
          · subst e; exact HN.out.symm
          · exact HZ.out j (by omega), by first | rfl | trivial⟩
        case measure => simp [intOf]; omega
      · obtain ⟨b, rfl, hb, hh⟩ := hf.some hn
        unfold ptr at c1 hf
        have HF : Hid (FaultIs wr (.iface 46 (.pointer (some ⟨b, 0, none⟩))) N (ks k) (ws k)) := hf
        clear hf hh
        go_wp2
        go_ret
        exact ⟨_, N, ks k, ws k, rfl, HF.out, .inr ⟨k, hlt, HZ.out, by rw [← HN.out]; exact hn, HN.out, rfl, rfl⟩, Grown.refl _⟩
    · obtain rfl : k = len := by omega
      go_wp2
      go_ret
      exact ⟨_, 0, 0, 0, rfl, .inl ⟨rfl, rfl⟩, .inl ⟨HZ.out, rfl, rfl, rfl⟩, Grown.refl _⟩
end Go.Proofs.YtjdaacmopgfolaaDoor
