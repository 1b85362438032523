/-
  What the document's own answers for layer 3 do when they are called.
-/
import Derived.Test.YtaelaikfpehciaaSkKeys
namespace Go.Proofs.Ytaelaikfpehciaa
open Go.RowKit Go.Deep

variable {w : World} {b m : Nat} {seed n : Int} {c : Nat → Nat → Int}

theorem refAt_any (h : Rf w b seed n (16 * m) c) (h1 : 1 ≤ m) (hm : m ≤ 4096) (key : Int) (i : Nat) :
    Calls Try.prog 40 #[ptr b, .int .i64 key, .int .i64 i] w fun e w' => e = .returned (.int .i64 (P (mixB seed key) i m)) ∧ ∃ d, w' = w.drewN d := by
  have e := P_eq (mixB seed key) i m h1
  have c0 : w.cell? ⟨b, 0, none⟩ = some (.int .i64 (16 * (m : Int))) := by
    have := Tb.cellH h (k := 0) rfl
    exact this.trans (by show some (Value.int .i64 ((16 * m : Nat) : Int)) = _; rw [Int.natCast_mul]; rfl)
  have c1 : w.cell? ⟨b, 1, none⟩ = some (.int .i64 seed) := Tb.cellH h (k := 1) rfl
  obtain ⟨x, hx⟩ : ∃ x, x = mixB seed key := ⟨_, rfl⟩
  have mx := fun w => refMix_any seed key w
  rw [← hx] at mx e ⊢
  have ix := fun w => refIndex_any x i (16 * (m : Int)) w (by omega)
  rw [e] at ix
  clear hx h e
  unfold ptr
  go_enter Try.func40, Try.ntmps40
  go_wp2
  go_quiet (first | (go_at_call 53; exact Calls.quiet_of_same (mx _)) | (go_at_call 52; exact Calls.quiet_of_same (ix _)))
  go_wp2
  go_ret
  exact ⟨rfl, _, rfl⟩

def leastR (g : Nat → Int) : Nat → Int
  | 0 => 15
  | k + 1 => if g k < leastR g k then g k else leastR g k
theorem leastR_eq (g : Nat → Int) (h : g 0 ≤ 15) : leastR g 4 = leastK g 4 := by
  have e : ∀ k, 1 ≤ k → leastR g k = leastK g k := by
    intro k hk
    induction k with
    | zero => omega
    | succ k ih =>
      by_cases h0 : k = 0
      · subst h0
        have e1 : leastR g 1 = if g 0 < 15 then g 0 else 15 := rfl
        have e2 : leastK g 1 = if g 0 < g 0 then g 0 else g 0 := rfl
        rw [e1, e2]; split <;> split <;> omega
      · rw [leastR, leastK, ih (by omega)]
  exact e 4 (by omega)
theorem rf_drewN (h : Rf w b seed n m c) (d : Nat) : Rf (w.drewN d) b seed n m c := Tb.drewN h d

theorem refCount_any (h : Rf w b seed n (16 * m) c) (h1 : 1 ≤ m) (hm : m ≤ 4096) (key : Int) :
    Calls Try.prog 27 #[ptr b, .int .i64 key] w fun e w' => e = .returned (.int .i64 (leastR (kc c (mixB seed key) m) 4)) ∧ ∃ d, w' = w.drewN d := by
  obtain ⟨x, hx⟩ : ∃ x, x = mixB seed key := ⟨_, rfl⟩
  have at_ := fun d i => refAt_any (rf_drewN h d) h1 hm key i
  rw [← hx]
  simp only [← hx] at at_
  clear hx
  unfold ptr at *
  go_enter Try.func27, Try.ntmps27
  go_wp2
  go_loopw [5, 6] (fun l i wr => ∃ k d : Nat, k ≤ 4 ∧ i = .int .i64 k ∧ l = .int .i64 (leastR (kc c x m) k) ∧ wr = w.drewN d) (fun _ i _ => 4 - (intOf i).toNat)
  case atStart => exact ⟨0, 0, by omega, rfl, rfl, rfl⟩
  case round =>
    obtain ⟨k, d, hk, rfl, rfl, rfl⟩ := hrel
    by_cases hlt : k < 4
    · have hp := P_lt x k m h1
      have c1 : w.cell? ⟨b, 3 + k, none⟩ = some (.slice (some ⟨b + 1 + k, 0, none⟩) (16 * m) (16 * m)) := Tb.cellR h hlt
      have c2 : w.cell? ⟨b + 1 + k, P x k m, none⟩ = some (.int .i64 (kc c x m k)) := Tb.cellV h hlt hp
      obtain ⟨p, hpe⟩ : ∃ p, p = P x k m := ⟨_, rfl⟩
      have ak := fun n => at_ (d + n) k
      simp only [← hpe] at ak
      rw [← hpe] at hp c2
      clear at_ hpe
      go_wp2
      go_quiet (first | (go_at_call 40; exact quiet_at (ak _)))
      go_wp2
      go_roundw
      case rel => exact ⟨k + 1, _, by omega, by go_num, rfl, rfl⟩
      case measure => simp [intOf]; omega
    · obtain rfl : k = 4 := by omega
      go_wp2
      go_ret
      exact ⟨rfl, _, rfl⟩

/-- The counters behind the halves of k rows and of j counters of the next. -/
def hcK (c : Nat → Nat → Int) (k j i q : Nat) : Int := if i < k ∨ (i = k ∧ q < j) then c i q / 2 else c i q
theorem hcK_here (c : Nat → Nat → Int) (k j : Nat) : hcK c k j k j = c k j := by unfold hcK; rw [if_neg (by omega)]
theorem hc_step {k j : Nat} (h : Rf w b seed n m (hcK c k j)) (hk : k < 4) :
    Rf (w.setCell ⟨b + 1 + k, j, none⟩ (.int .i64 (c k j / 2))) b seed n m (hcK c k (j + 1)) := by
  refine (Tb.setV h hk _).congr fun i hi l hl => ?_
  show (if i = k ∧ l = j then _ else _) = _
  by_cases e : i = k ∧ l = j
  · obtain ⟨rfl, rfl⟩ := e
    rw [if_pos ⟨rfl, rfl⟩]
    unfold hcK; rw [if_pos (by omega)]
  · rw [if_neg e]
    unfold hcK
    by_cases e2 : i < k ∨ (i = k ∧ l < j)
    · rw [if_pos e2, if_pos (by omega)]
    · rw [if_neg e2, if_neg (by omega)]
theorem hc_off {w w1 : World} {b k : Nat} (h : Off b 5 w w1) (hk : k < 4) (j : Nat) (u : Value) : Off b 5 w (w1.setCell ⟨b + 1 + k, j, none⟩ u) :=
  h.setCell (a := ⟨b + 1 + k, j, none⟩) (by show b ≤ b + 1 + k; omega) (by show b + 1 + k < b + 5; omega) u
theorem hc_row {k : Nat} (h : Rf w b seed n m (hcK c k m)) : Rf w b seed n m (hcK c (k + 1) 0) := by
  refine Tb.congr h fun i hi l hl => ?_
  have e : hcK c k m i l = hcK c (k + 1) 0 i l := by
    unfold hcK
    by_cases e : i < k ∨ (i = k ∧ l < m)
    · rw [if_pos e, if_pos (by omega)]
    · rw [if_neg e, if_neg (by omega)]
  rw [e]
theorem rf_n (h : Rf w b seed n m c) (n' : Int) : Rf (w.setCell ⟨b, 2, none⟩ (.int .i64 n')) b seed n' m c := Tb.setH h (k := 2) (by show 2 < 3; omega) (.int .i64 n')
theorem off_n2 {w w1 : World} {b : Nat} (h : Off b 5 w w1) (u : Value) : Off b 5 w (w1.setCell ⟨b, 2, none⟩ u) := h.setCell (a := ⟨b, 2, none⟩) (Nat.le_refl _) (by show b < b + 5; omega) _
theorem hc_end (h : Rf w b seed n m (hcK c 4 0)) : Rf w b seed n m (fun i j => c i j / 2) := by
  refine Tb.congr h fun i hi l hl => ?_
  have e : hcK c 4 0 i l = c i l / 2 := by unfold hcK; rw [if_pos (by omega)]
  rw [e]

theorem refHalve_any (h : Rf w b seed n m c) (hm : m ≤ 65536) (hn : 0 ≤ n) (hn' : n ≤ 9223372036854775807) (hb : ∀ i, i < 4 → ∀ j, j < m → 0 ≤ c i j ∧ c i j ≤ 15) :
    Calls Try.prog 41 #[ptr b] w fun e w' => e = .returned (.tuple #[]) ∧ Rf w' b seed (n / 2) m (fun i j => c i j / 2) ∧ Off b 5 w w' := by
  unfold ptr
  go_enter Try.func41, Try.ntmps41
  go_wp2
  go_loopw [2] (fun i wr => ∃ k : Nat, k ≤ 4 ∧ i = .int .i64 k ∧ Rf wr b seed n m (hcK c k 0) ∧ Off b 5 w wr) (fun i _ => 4 - (intOf i).toNat)
  case atStart => exact ⟨0, by omega, rfl, Tb.congr h (fun i _ q _ => by unfold hcK; rw [if_neg (by omega)]), Off.refl _ _ _⟩
  case round =>
    obtain ⟨k, hk, rfl, hs, ho⟩ := hrel
    by_cases hlt : k < 4
    · have hd : decide ((k : Int) < 4) = true := by rw [decide_eq_true_eq]; omega
      go_wp2
      go_loopw [3] (fun i wi => ∃ j : Nat, j ≤ m ∧ i = .int .i64 j ∧ Rf wi b seed n m (hcK c k j) ∧ Off b 5 w wi) (fun i _ => m - (intOf i).toNat)
      case atStart => exact ⟨0, by omega, rfl, hs, ho⟩
      case round =>
        clear hs ho
        obtain ⟨j, hj, rfl, hs, ho⟩ := hrel
        have c0 : wr.cell? ⟨b, 0, none⟩ = some (.int .i64 (m : Int)) := Tb.cellH hs (k := 0) rfl
        by_cases hjl : j < m
        · have c1 : wr.cell? ⟨b, 3 + k, none⟩ = some (.slice (some ⟨b + 1 + k, 0, none⟩) m m) := Tb.cellR hs hlt
          have c2 : wr.cell? ⟨b + 1 + k, j, none⟩ = some (.int .i64 (c k j)) := by rw [← hcK_here c k j]; exact Tb.cellV hs hlt hjl
          have c3 : wr.frozen? ⟨b + 1 + k, j, none⟩ = false := Tb.frozenV hs hlt _
          have hbb := hb k hlt j hjl
          obtain ⟨hb0, hb1⟩ := hbb
          have HS : Hid (Rf wr b seed n m (hcK c k j)) := hs
          clear hs
          go_wp2
          go_region
          all_goals go_wp2
          all_goals go_roundw
          case rel => exact ⟨j + 1, by omega, by go_num, rf_drewN (hc_step HS.out hlt) 1, (hc_off ho hlt _ _).drew⟩
          case measure => simp [intOf]; omega
        · obtain rfl : j = m := by omega
          go_wp2
          go_roundw
          case rel => exact ⟨k + 1, by omega, by go_num, hc_row hs, ho⟩
          case measure => simp [intOf]; omega
    · obtain rfl : k = 4 := by omega
      have c1 : wr.cell? ⟨b, 2, none⟩ = some (.int .i64 n) := Tb.cellH hs (k := 2) rfl
      have c2 := Tb.frozenH hs 2
      go_wp2
      go_end0
      exact ⟨rfl, rf_n (hc_end hs) _, off_n2 ho _⟩
end Go.Proofs.Ytaelaikfpehciaa
