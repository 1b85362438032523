/-
  What place, counter, Count and raise of package sketch do when they are called.
-/
import Derived.Test.YtaelaikfpehciaaSkNew
namespace Go.Proofs.Ytaelaikfpehciaa
open Go.RowKit Go.Deep

/-- A key's place in a row. -/
def P (x : BitVec 64) (i m : Nat) : Nat := (indexI x i (16 * (m : Int))).toNat
theorem P_eq (x : BitVec 64) (i m : Nat) (h : 1 ≤ m) : indexI x i (16 * (m : Int)) = (P x i m : Int) := by
  have := index_bd x i (16 * (m : Int)) (by omega)
  unfold P; omega
theorem P_lt (x : BitVec 64) (i m : Nat) (h : 1 ≤ m) : P x i m < 16 * m := by
  have := index_bd x i (16 * (m : Int)) (by omega)
  unfold P; omega

theorem place_any {w : World} {b : Nat} {seed n : Int} {m : Nat} {f : Nat → Nat → BitVec 64} (h : Sk w b seed n m f) (h1 : 1 ≤ m) (hm : m ≤ 4096) (x : BitVec 64) (i : Nat) :
    Calls Try.prog 49 #[ptr b, .int .u64 (U x), .int .i64 i] w fun e w' => e = .returned (.tuple #[.int .i64 ((P x i m / 16 : Nat) : Int), .int .i64 ((P x i m % 16 : Nat) : Int)]) ∧ w' = w := by
  have e := P_eq x i m h1
  have hl := P_lt x i m h1
  unfold ptr
  go_enter Try.func49, Try.ntmps49
  go_wp2_with (first | (go_at_call 18; refine (width_any h hm).mono ?_; rintro e w' ⟨rfl, rfl⟩) | (go_at_call 46; refine (index_any _ _ _ _ (by omega)).mono ?_; rintro e w' ⟨rfl, rfl⟩))
  go_ret2
  exact ⟨rfl, rfl⟩

theorem counter_any {w : World} {b : Nat} {seed n : Int} {m : Nat} {f : Nat → Nat → BitVec 64} (h : Sk w b seed n m f) (h1 : 1 ≤ m) (hm : m ≤ 4096) (x : BitVec 64) (i : Nat) (hi : i < 4) :
    Calls Try.prog 43 #[ptr b, .int .u64 (U x), .int .i64 i] w fun e w' => e = .returned (.int .i64 (gI (f i (P x i m / 16)) (P x i m % 16))) ∧ w' = w := by
  have hl := P_lt x i m h1
  have hq : P x i m / 16 < m := by omega
  have hr : P x i m % 16 < 16 := by omega
  have hg := gI_get (f i (P x i m / 16)) (P x i m % 16) hr
  have c1 : w.cell? ⟨b, 2 + i, none⟩ = some (.slice (some ⟨b + 1 + i, 0, none⟩) m m) := Tb.cellR h hi
  have c2 : w.cell? ⟨b + 1 + i, P x i m / 16, none⟩ = some (.int .u64 (U (f i (P x i m / 16)))) := Tb.cellV h hi hq
  obtain ⟨q, hqe⟩ : ∃ q, q = P x i m / 16 := ⟨_, rfl⟩
  obtain ⟨r, hre⟩ : ∃ r, r = P x i m % 16 := ⟨_, rfl⟩
  have pl := fun w h => @place_any w b seed n m f h h1 hm x i
  rw [← hqe, ← hre] at pl
  rw [← hqe] at hq c2 ⊢
  rw [← hre] at hr ⊢
  rw [← hqe, ← hre] at hg
  clear hqe hre hl
  unfold ptr at pl ⊢
  go_enter Try.func43, Try.ntmps43
  go_wp2_with (first | (go_at_call 49; refine (pl _ h).mono ?_; rintro e w' ⟨rfl, rfl⟩) | (go_at_call 56; refine (get_any _ _ _).mono ?_; rintro e w' ⟨rfl, rfl⟩))
  go_ret
  exact ⟨rfl, rfl⟩

/-- The least of g's first k numbers, and of its first. -/
def leastK (g : Nat → Int) : Nat → Int
  | 0 => g 0
  | k + 1 => if g k < leastK g k then g k else leastK g k
/-- The key's counters, row by row. -/
def cnt (f : Nat → Nat → BitVec 64) (x : BitVec 64) (m i : Nat) : Int := gI (f i (P x i m / 16)) (P x i m % 16)

theorem count_any {w : World} {b : Nat} {seed n : Int} {m : Nat} {f : Nat → Nat → BitVec 64} (h : Sk w b seed n m f) (h1 : 1 ≤ m) (hm : m ≤ 4096) (key : Int) :
    Calls Try.prog 29 #[ptr b, .int .i64 key] w fun e w' => e = .returned (.int .i64 (leastK (cnt f (mixB seed key) m) 4)) ∧ w' = w := by
  have c0 := Tb.cellH h (k := 0) rfl
  obtain ⟨x, hx⟩ : ∃ x, x = mixB seed key := ⟨_, rfl⟩
  have mx := mix_any seed key w
  have cn : ∀ i, i < 4 → _ := fun i hi => @counter_any w b seed n m f h h1 hm x i hi
  obtain ⟨g, hg⟩ : ∃ g, g = cnt f x m := ⟨_, rfl⟩
  have ce : ∀ i, gI (f i (P x i m / 16)) (P x i m % 16) = g i := fun i => by rw [hg]; rfl
  simp only [ce] at cn
  rw [← hx] at mx ⊢
  rw [← hg]
  have cz := cn 0 (by omega)
  clear hx hg ce
  unfold ptr at *
  go_enter Try.func29, Try.ntmps29
  go_wp2_with (first | (go_at_call 42; refine mx.mono ?_; rintro e w' ⟨rfl, hw⟩; have hw := hw.symm; subst hw) | (go_at_call 43; refine cz.mono ?_; rintro e w' ⟨rfl, hw⟩; have hw := hw.symm; subst hw))
  clear cz mx
  go_loopw [6, 17] (fun l i wr => ∃ k : Nat, k ≤ 4 ∧ i = .int .i64 k ∧ l = .int .i64 (leastK g k) ∧ wr = w) (fun _ i _ => 4 - (intOf i).toNat)
  case atStart => exact ⟨0, by omega, rfl, rfl, rfl⟩
  case round =>
    obtain ⟨k, hk, rfl, rfl, rfl⟩ := hrel
    by_cases hlt : k < 4
    · have ck := cn k hlt
      go_wp2_with (go_at_call 43; refine ck.mono ?_; rintro e w' ⟨rfl, hw⟩; have hw := hw.symm; subst hw)
      go_roundw
      case rel => exact ⟨k + 1, by omega, by go_num, rfl, by first | rfl | trivial⟩
      case measure => simp [intOf]; omega
    · obtain rfl : k = 4 := by omega
      go_wp2
      go_ret
      exact ⟨rfl, rfl⟩

/-- The rows behind as many rows' raises. -/
def incK (f : Nat → Nat → BitVec 64) (x : BitVec 64) (m k i q : Nat) : BitVec 64 := if i < k ∧ q = P x i m / 16 then incI (f i q) ((P x i m % 16 : Nat) : Int) else f i q
def okK (f : Nat → Nat → BitVec 64) (x : BitVec 64) (m : Nat) : Nat → Bool
  | 0 => false
  | k + 1 => okK f x m k || incOk (f k (P x k m / 16)) ((P x k m % 16 : Nat) : Int)
theorem incK_here (f : Nat → Nat → BitVec 64) (x : BitVec 64) (m k q : Nat) : incK f x m k k q = f k q := by unfold incK; rw [if_neg (by omega)]

theorem raise_step {wr : World} {b : Nat} {seed n : Int} {m : Nat} {f : Nat → Nat → BitVec 64} {x y : BitVec 64} {k q r : Nat} (h : Sk wr b seed n m (incK f x m k)) (hk : k < 4) (hq : q = P x k m / 16) (hr : r = P x k m % 16) (hy : y = f k q) (m' : Nat) :
    Sk ((wr.drewN m').setCell ⟨b + 1 + k, q, none⟩ (.int .u64 (U (incI y (r : Int))))) b seed n m (incK f x m (k + 1)) := by
  refine ((Tb.drewN h m').setV hk _).congr fun i hi l hl => ?_
  show (if i = k ∧ l = q then _ else _) = _
  by_cases e : i = k ∧ l = q
  · obtain ⟨rfl, rfl⟩ := e
    rw [if_pos ⟨rfl, rfl⟩, hy, hr]
    unfold incK; rw [if_pos ⟨by omega, hq⟩]
  · rw [if_neg e]
    unfold incK
    by_cases e2 : i < k ∧ l = P x i m / 16
    · rw [if_pos e2, if_pos ⟨by omega, e2.2⟩]
    · rw [if_neg e2, if_neg]
      intro e3
      by_cases e4 : i = k
      · subst e4; exact e ⟨rfl, by rw [hq]; exact e3.2⟩
      · exact e2 ⟨by omega, e3.2⟩
theorem raise_off {w wr : World} {b k : Nat} (h : Off b 5 w wr) (hk : k < 4) (q m' : Nat) (u : Value) : Off b 5 w ((wr.drewN m').setCell ⟨b + 1 + k, q, none⟩ u) :=
  (h.drewN m').setCell (a := ⟨b + 1 + k, q, none⟩) (by show b ≤ b + 1 + k; omega) (by show b + 1 + k < b + 5; omega) u
theorem raise_ok {m : Nat} {f : Nat → Nat → BitVec 64} {x y : BitVec 64} {k q r : Nat} (hq : q = P x k m / 16) (hr : r = P x k m % 16) (hy : y = f k q) : okK f x m (k + 1) = (okK f x m k || incOk y (r : Int)) := by
  rw [okK, hy, hr, hq]

theorem raise_any {w : World} {b : Nat} {seed n : Int} {m : Nat} {f : Nat → Nat → BitVec 64} (h : Sk w b seed n m f) (h1 : 1 ≤ m) (hm : m ≤ 4096) (key : Int) :
    Calls Try.prog 36 #[ptr b, .int .i64 key] w fun e w' => e = .returned (.bool (okK f (mixB seed key) m 4)) ∧ Sk w' b seed n m (incK f (mixB seed key) m 4) ∧ Off b 5 w w' := by
  have c0 := Tb.cellH h (k := 0) rfl
  obtain ⟨x, hx⟩ : ∃ x, x = mixB seed key := ⟨_, rfl⟩
  have mx := mix_any seed key w
  rw [← hx] at mx ⊢
  clear hx
  unfold ptr at *
  go_enter Try.func36, Try.ntmps36
  go_wp2_with (go_at_call 42; refine mx.mono ?_; rintro e w' ⟨rfl, hw⟩; have hw := hw.symm; subst hw)
  clear mx
  go_loopw [6, 18] (fun l i wr => ∃ k : Nat, k ≤ 4 ∧ i = .int .i64 k ∧ l = .bool (okK f x m k) ∧ Sk wr b seed n m (incK f x m k) ∧ Off b 5 w wr) (fun _ i _ => 4 - (intOf i).toNat)
  case atStart => exact ⟨0, by omega, rfl, rfl, Tb.congr h (fun i _ q _ => by unfold incK; rw [if_neg (by omega)]), Off.refl _ _ _⟩
  case round =>
    obtain ⟨k, hk, rfl, rfl, hs, ho⟩ := hrel
    by_cases hlt : k < 4
    · have hl := P_lt x k m h1
      have hq : P x k m / 16 < m := by omega
      have hr : P x k m % 16 < 16 := by omega
      have c1 : wr.cell? ⟨b, 2 + k, none⟩ = some (.slice (some ⟨b + 1 + k, 0, none⟩) m m) := Tb.cellR hs hlt
      have c2 : wr.cell? ⟨b + 1 + k, P x k m / 16, none⟩ = some (.int .u64 (U (f k (P x k m / 16)))) := by rw [← incK_here f x m k]; exact Tb.cellV hs hlt hq
      have c3 : wr.frozen? ⟨b + 1 + k, P x k m / 16, none⟩ = false := Tb.frozenV hs hlt _
      obtain ⟨q, hqe⟩ : ∃ q, q = P x k m / 16 := ⟨_, rfl⟩
      obtain ⟨r, hre⟩ : ∃ r, r = P x k m % 16 := ⟨_, rfl⟩
      have pl := fun w h => @place_any w b seed n m (incK f x m k) h h1 hm x k
      rw [← hqe, ← hre] at pl
      rw [← hqe] at hq c2 c3
      have HS : Hid (Sk wr b seed n m (incK f x m k)) := hs
      have HE : Hid (q = P x k m / 16 ∧ r = P x k m % 16) := ⟨hqe, hre⟩
      clear hqe hre hl hr
      unfold ptr at pl
      obtain ⟨y, hy⟩ : ∃ y, y = f k q := ⟨_, rfl⟩
      rw [← hy] at c2
      have HY : Hid (y = f k q) := hy
      clear hy
      go_wp2_with (first | (go_at_call 49; refine (pl _ hs).mono ?_; rintro e w' ⟨rfl, hw⟩; have hw := hw.symm; subst hw) | (go_at_call 50; refine (inc_any _ _ _).mono ?_; rintro e w' ⟨rfl, m', hw⟩; have hw := hw.symm; subst hw))
      all_goals have R := raise_step HS.out hlt HE.out.1 HE.out.2 HY.out m'
      all_goals have O := raise_off ho hlt q m' (.int .u64 (U (incI y (r : Int))))
      all_goals have K := raise_ok HE.out.1 HE.out.2 HY.out
      · rename_i hok
        go_roundw
        case rel => exact ⟨k + 1, by omega, by go_num, by rw [K, hok]; rfl, R, O⟩
        case measure => simp [intOf]; omega
      · rename_i hok
        go_roundw
        case rel => exact ⟨k + 1, by omega, by go_num, by rw [K, Bool.eq_false_iff.2 hok]; rfl, R, O⟩
        case measure => simp [intOf]; omega
    · obtain rfl : k = 4 := by omega
      go_wp2
      go_ret
      exact ⟨rfl, hs, ho⟩
end Go.Proofs.Ytaelaikfpehciaa
