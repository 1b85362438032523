/-
  What Halve and Add of package sketch do when they are called.
-/
import Derived.Test.YtaelaikfpehciaaSkCount
namespace Go.Proofs.Ytaelaikfpehciaa
open Go.RowKit Go.Deep

/-- The rows behind the halves of k rows and of j words of the next. -/
def hvK (f : Nat → Nat → BitVec 64) (k j i q : Nat) : BitVec 64 := if i < k ∨ (i = k ∧ q < j) then halveB (f i q) else f i q
theorem hvK_here (f : Nat → Nat → BitVec 64) (k j : Nat) : hvK f k j k j = f k j := by unfold hvK; rw [if_neg (by omega)]
theorem hv_step {w w2 : World} {b : Nat} {seed n : Int} {m : Nat} {f : Nat → Nat → BitVec 64} {k j : Nat} (h : Sk w b seed n m (hvK f k j)) (hg : Grown w w2) (hk : k < 4) :
    Sk (w2.setCell ⟨b + 1 + k, j, none⟩ (.int .u64 (U (halveB (f k j))))) b seed n m (hvK f k (j + 1)) := by
  refine ((Tb.grown h hg).setV hk _).congr fun i hi l hl => ?_
  show (if i = k ∧ l = j then _ else _) = _
  by_cases e : i = k ∧ l = j
  · obtain ⟨rfl, rfl⟩ := e
    rw [if_pos ⟨rfl, rfl⟩]
    unfold hvK; rw [if_pos (by omega)]
  · rw [if_neg e]
    unfold hvK
    by_cases e2 : i < k ∨ (i = k ∧ l < j)
    · rw [if_pos e2, if_pos (by omega)]
    · rw [if_neg e2, if_neg (by omega)]
theorem hv_off {w w1 w2 : World} {b k : Nat} (h : Off b 5 w w1) (hg : Grown w1 w2) (hk : k < 4) (j : Nat) (u : Value) : Off b 5 w (w2.setCell ⟨b + 1 + k, j, none⟩ u) :=
  (h.more hg).setCell (a := ⟨b + 1 + k, j, none⟩) (by show b ≤ b + 1 + k; omega) (by show b + 1 + k < b + 5; omega) u
theorem hv_row {w : World} {b : Nat} {seed n : Int} {m : Nat} {f : Nat → Nat → BitVec 64} {k : Nat} (h : Sk w b seed n m (hvK f k m)) : Sk w b seed n m (hvK f (k + 1) 0) := by
  refine Tb.congr h fun i hi l hl => ?_
  have e : hvK f k m i l = hvK f (k + 1) 0 i l := by
    unfold hvK
    by_cases e : i < k ∨ (i = k ∧ l < m)
    · rw [if_pos e, if_pos (by omega)]
    · rw [if_neg e, if_neg (by omega)]
  rw [e]
theorem hv_end {w : World} {b : Nat} {seed n : Int} {m : Nat} {f : Nat → Nat → BitVec 64} (h : Sk w b seed n m (hvK f 4 0)) (n' : Int) : Sk (w.setCell ⟨b, 1, none⟩ (.int .i64 n')) b seed n' m (fun i q => halveB (f i q)) := by
  have := Tb.setH h (k := 1) (by show 1 < 2; omega) (.int .i64 n')
  refine Tb.congr this fun i hi l hl => ?_
  have e : hvK f 4 0 i l = halveB (f i l) := by unfold hvK; rw [if_pos (by omega)]
  rw [e]

theorem skHalve_any {w : World} {b : Nat} {seed n : Int} {m : Nat} {f : Nat → Nat → BitVec 64} (h : Sk w b seed n m f) (hm : m ≤ 4096) (hn : 0 ≤ n) (hn' : n ≤ 9223372036854775807) :
    Calls Try.prog 37 #[ptr b] w fun e w' => e = .returned (.tuple #[]) ∧ Sk w' b seed (n / 2) m (fun i q => halveB (f i q)) ∧ Off b 5 w w' := by
  unfold ptr
  go_enter Try.func37, Try.ntmps37
  go_wp2
  go_loopw [5] (fun i wr => ∃ k : Nat, k ≤ 4 ∧ i = .int .i64 k ∧ Sk wr b seed n m (hvK f k 0) ∧ Off b 5 w wr) (fun i _ => 4 - (intOf i).toNat)
  case atStart => exact ⟨0, by omega, rfl, Tb.congr h (fun i _ q _ => by unfold hvK; rw [if_neg (by omega)]), Off.refl _ _ _⟩
  case round =>
    obtain ⟨k, hk, rfl, hs, ho⟩ := hrel
    by_cases hlt : k < 4
    · have c1 : wr.cell? ⟨b, 2 + k, none⟩ = some (.slice (some ⟨b + 1 + k, 0, none⟩) m m) := Tb.cellR hs hlt
      have hd : decide ((k : Int) < 4) = true := by rw [decide_eq_true_eq]; omega
      go_wp2
      go_loopw [16] (fun i wi => ∃ j : Nat, j ≤ m ∧ i = .int .i64 j ∧ Sk wi b seed n m (hvK f k j) ∧ Off b 5 w wi) (fun i _ => m - (intOf i).toNat)
      case atStart => exact ⟨0, by omega, rfl, hs, ho⟩
      case round =>
        clear hs ho c1
        obtain ⟨j, hj, rfl, hs, ho⟩ := hrel
        by_cases hjl : j < m
        · have c2 : wr.cell? ⟨b + 1 + k, j, none⟩ = some (.int .u64 (U (f k j))) := by rw [← hvK_here f k j]; exact Tb.cellV hs hlt hjl
          have HS : Hid (Sk wr b seed n m (hvK f k j)) := hs
          clear hs
          go_wp2_with (go_at_call 51; refine (halve_any _ _).mono ?_; rintro e w2 ⟨rfl, hg2⟩; have c3 := Tb.frozenV (Tb.grown HS.out hg2) hlt j; have c4 := Tb.cellV (Tb.grown HS.out hg2) hlt hjl)
          go_roundw
          case rel => exact ⟨j + 1, by omega, by go_num, hv_step HS.out (by assumption) hlt, hv_off ho (by assumption) hlt _ _⟩
          case measure => simp [intOf]; omega
        · obtain rfl : j = m := by omega
          go_wp2
          go_roundw
          case rel => exact ⟨k + 1, by omega, by go_num, hv_row hs, ho⟩
          case measure => simp [intOf]; omega
    · obtain rfl : k = 4 := by omega
      have c1 := Tb.cellH hs (k := 1) rfl
      have c2 := Tb.frozenH hs 1
      go_wp2
      go_end0
      exact ⟨rfl, hv_end hs _, ho.setCell (a := ⟨b, 1, none⟩) (Nat.le_refl _) (by show b < b + 5; omega) _⟩

def agedB (f : Nat → Nat → BitVec 64) (x : BitVec 64) (m : Nat) (n : Int) : Bool := okK f x m 4 && decide (160 * (m : Int) ≤ n + 1)
def nB (f : Nat → Nat → BitVec 64) (x : BitVec 64) (m : Nat) (n : Int) : Int := if agedB f x m n = true then (n + 1) / 2 else if okK f x m 4 = true then n + 1 else n
def fB (f : Nat → Nat → BitVec 64) (x : BitVec 64) (m : Nat) (n : Int) (i q : Nat) : BitVec 64 := if agedB f x m n = true then halveB (incK f x m 4 i q) else incK f x m 4 i q

theorem add_n {w : World} {b : Nat} {seed n : Int} {m : Nat} {f : Nat → Nat → BitVec 64} (h : Sk w b seed n m f) (n' : Int) : Sk (w.setCell ⟨b, 1, none⟩ (.int .i64 n')) b seed n' m f := Tb.setH h (k := 1) (by show 1 < 2; omega) (.int .i64 n')
theorem off_n {w w1 : World} {b : Nat} (h : Off b 5 w w1) (u : Value) : Off b 5 w (w1.setCell ⟨b, 1, none⟩ u) := h.setCell (a := ⟨b, 1, none⟩) (Nat.le_refl _) (by show b < b + 5; omega) _
theorem sk_drewN {w : World} {b : Nat} {seed n : Int} {m : Nat} {f : Nat → Nat → BitVec 64} (h : Sk w b seed n m f) (k : Nat) : Sk (w.drewN k) b seed n m f := Tb.drewN h k

theorem add_any {w : World} {b : Nat} {seed n : Int} {m : Nat} {f : Nat → Nat → BitVec 64} (h : Sk w b seed n m f) (h1 : 1 ≤ m) (hm : m ≤ 4096) (hn : 0 ≤ n) (hn' : n ≤ 4611686018427387903) (key : Int) :
    Calls Try.prog 22 #[ptr b, .int .i64 key] w fun e w' => e = .returned (.tuple #[.bool (okK f (mixB seed key) m 4), .bool (agedB f (mixB seed key) m n)]) ∧ Sk w' b seed (nB f (mixB seed key) m n) m (fB f (mixB seed key) m n) ∧ Off b 5 w w' := by
  obtain ⟨x, hx⟩ : ∃ x, x = mixB seed key := ⟨_, rfl⟩
  have ra := raise_any h h1 hm key
  rw [← hx] at ra ⊢
  clear hx
  cases hok : okK f x m 4 with
  | false =>
    have ha : agedB f x m n = false := by unfold agedB; rw [hok]; rfl
    have hnB : nB f x m n = n := by unfold nB; rw [ha, hok]; rfl
    have hfB : fB f x m n = incK f x m 4 := by funext i q; unfold fB; rw [ha]; rfl
    rw [hok] at ra
    rw [ha, hnB, hfB]
    clear ha hnB hfB
    unfold ptr at *
    go_enter Try.func22, Try.ntmps22
    go_wp2_with (go_at_call 36; refine ra.mono ?_; rintro e w1 ⟨rfl, hs1, ho1⟩)
    go_ret2
    exact ⟨rfl, by assumption, by assumption⟩
  | true =>
    rw [hok] at ra
    by_cases hag : 160 * (m : Int) ≤ n + 1
    · have ha : agedB f x m n = true := by unfold agedB; rw [hok, decide_eq_true hag]; rfl
      have hnB : nB f x m n = (n + 1) / 2 := by unfold nB; rw [ha]; rfl
      have hfB : fB f x m n = fun i q => halveB (incK f x m 4 i q) := by funext i q; unfold fB; rw [ha]; rfl
      rw [ha, hnB, hfB]
      clear ha hnB hfB
      have hd : decide (10 * (16 * (m : Int)) ≤ n + 1) = true := by rw [decide_eq_true_eq]; omega
      unfold ptr at *
      go_enter Try.func22, Try.ntmps22
      go_wp2_with (go_at_call 36; refine ra.mono ?_; rintro e w1 ⟨rfl, hs1, ho1⟩; have c1 := Tb.cellH hs1 (k := 1) rfl; have c2 := Tb.frozenH hs1 1)
      go_quiet (first | (go_at_call 18; exact Calls.quiet_of_same (width_any (sk_drewN (add_n (by assumption) _) _) hm)))
      go_wp2_with (go_at_call 37; refine (skHalve_any (sk_drewN (add_n (by assumption) _) _) hm (by omega) (by omega)).mono ?_; rintro e w2 ⟨rfl, hs2, ho2⟩)
      go_ret2
      exact ⟨rfl, by assumption, ((off_n (by assumption) _).drewN _).trans (by assumption)⟩
    · have ha : agedB f x m n = false := by unfold agedB; rw [hok, decide_eq_false hag]; rfl
      have hnB : nB f x m n = n + 1 := by unfold nB; rw [ha, hok]; rfl
      have hfB : fB f x m n = incK f x m 4 := by funext i q; unfold fB; rw [ha]; rfl
      rw [ha, hnB, hfB]
      clear ha hnB hfB
      have hd : decide (10 * (16 * (m : Int)) ≤ n + 1) = false := by rw [decide_eq_false_iff_not]; omega
      unfold ptr at *
      go_enter Try.func22, Try.ntmps22
      go_wp2_with (go_at_call 36; refine ra.mono ?_; rintro e w1 ⟨rfl, hs1, ho1⟩; have c1 := Tb.cellH hs1 (k := 1) rfl; have c2 := Tb.frozenH hs1 1)
      go_quiet (first | (go_at_call 18; exact Calls.quiet_of_same (width_any (sk_drewN (add_n (by assumption) _) _) hm)))
      go_wp2
      go_ret2
      exact ⟨rfl, sk_drewN (add_n (by assumption) _) _, (off_n (by assumption) _).drewN _⟩
end Go.Proofs.Ytaelaikfpehciaa
