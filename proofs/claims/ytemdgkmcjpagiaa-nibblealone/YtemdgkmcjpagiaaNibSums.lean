/-
  What Sum, Odd and Halve of package nibble, and the document's own answers, do when they are called: they return what is told here; memory has at most new blocks. No condition but that the numbers are of their Go types.
-/
import Derived.Test.YtemdgkmcjpagiaaNibRows
namespace Go.Proofs.Ytemdgkmcjpagiaa
open Go.RowKit

theorem grownTrans {a b c : World} (h : Grown a b) (k : Grown b c) : Grown a c :=
  ⟨World.keptBut_trans h.1 k.1, fun x => (k.2.1 x).trans (h.2.1 x), Nat.le_trans h.2.2 k.2.2⟩
theorem grownDrewN {a b : World} (h : Grown a b) (n : Nat) : Grown a (b.drewN n) := h

theorem all_grown (x : BitVec 64) (w : World) :
    Calls Try.prog 16 #[.int .u64 (U x)] w fun e w' => e = .returned (.agg (row (gI x))) ∧ Grown w w' :=
  (all_any x w).mono fun _ _ ⟨he, hw⟩ => ⟨he, by rw [hw]; exact ((Grown.refl _).alloc _ _).alloc _ _⟩
theorem refAll_grown (x : BitVec 64) (w : World) :
    Calls Try.prog 17 #[.int .u64 (U x)] w fun e w' => e = .returned (.agg (row (gI x))) ∧ Grown w w' :=
  (refAll_any x w).mono fun _ _ ⟨he, hw⟩ => ⟨he, by rw [hw]; exact ((Grown.refl _).alloc _ _).alloc _ _⟩

theorem sum_any (x : BitVec 64) (w : World) :
    Calls Try.prog 20 #[.int .u64 (U x)] w fun e w' => e = .returned (.int .i64 (sumI x)) ∧ Grown w w' := by
  go_enter Try.func20, Try.ntmps20
  go_wp2_with (first | (go_at_call 16; refine (all_grown _ _).mono ?_; rintro e w1 ⟨rfl, hg1⟩) | (refine wpList_store_row rfl 28 _ _ rfl w1.heap.size _ rfl rfl 28 _ (heap_alloc_last _ _) (infoRow _) rfl (rowOne _) ?_; rw [World.setRow_alloc_new]))
  go_loop [4, 8] (fun s i => ∃ k : Nat, k ≤ 16 ∧ i = .int .i64 k ∧ s = .int .i64 (sumF (gI x) k)) (fun _ i => 16 - (intOf i).toNat)
  case atStart => exact ⟨0, by omega, rfl, rfl⟩
  case round =>
    obtain ⟨k, hk, rfl, rfl⟩ := hrel
    have hb := sumK_bd x k
    have hv := gI_bd x k
    by_cases hlt : k < 16
    · have hg := row_get (gI x) k hlt
      go_wp2
      go_round
      case rel => exact ⟨k + 1, by omega, by go_num, rfl⟩
      case measure => simp [intOf]; omega
    · obtain rfl : k = 16 := by omega
      go_wp2
      go_ret
      exact ⟨rfl, hg1.alloc _ _⟩

theorem odd_any (x : BitVec 64) (w : World) :
    Calls Try.prog 22 #[.int .u64 (U x)] w fun e w' => e = .returned (.int .i64 (oddI x)) ∧ Grown w w' := by
  go_enter Try.func22, Try.ntmps22
  go_wp2_with (first | (go_at_call 16; refine (all_grown _ _).mono ?_; rintro e w1 ⟨rfl, hg1⟩) | (refine wpList_store_row rfl 28 _ _ rfl w1.heap.size _ rfl rfl 28 _ (heap_alloc_last _ _) (infoRow _) rfl (rowOne _) ?_; rw [World.setRow_alloc_new]))
  go_loop [4, 8] (fun s i => ∃ k : Nat, k ≤ 16 ∧ i = .int .i64 k ∧ s = .int .i64 (sumF (oddF x) k)) (fun _ i => 16 - (intOf i).toNat)
  case atStart => exact ⟨0, by omega, rfl, rfl⟩
  case round =>
    obtain ⟨k, hk, rfl, rfl⟩ := hrel
    have hb := oddK_bd x k
    have hv := gI_bd x k
    by_cases hlt : k < 16
    · have hg := row_get (gI x) k hlt
      go_wp2
      go_round
      case rel => exact ⟨k + 1, by omega, by go_num, rfl⟩
      case measure => simp [intOf]; omega
    · obtain rfl : k = 16 := by omega
      go_wp2
      go_ret
      exact ⟨rfl, hg1.alloc _ _⟩

theorem halve_any (x : BitVec 64) (w : World) :
    Calls Try.prog 18 #[.int .u64 (U x)] w fun e w' => e = .returned (.int .u64 (U (halveB x))) ∧ Grown w w' := by
  go_enter Try.func18, Try.ntmps18
  go_wp2_with (first | (go_at_call 16; refine (all_grown _ _).mono ?_; rintro e w1 ⟨rfl, hg1⟩) | (refine wpList_store_row rfl 28 _ _ rfl w1.heap.size _ rfl rfl 28 _ (heap_alloc_last _ _) (infoRow _) rfl (rowOne _) ?_; rw [World.setRow_alloc_new]))
  go_loopw [0, 7] (fun s i wr => ∃ k m : Nat, k ≤ 16 ∧ i = .int .i64 k ∧ s = .int .u64 (U (hvB x k)) ∧ wr = (w1.alloc (.cells (row (gI x)) 28)).drewN m) (fun _ i _ => 16 - (intOf i).toNat)
  case atStart => exact ⟨0, 0, by omega, rfl, rfl, rfl⟩
  case round =>
    obtain ⟨k, m, hk, rfl, rfl, rfl⟩ := hrel
    have hv := gI_bd x k
    by_cases hlt : k < 16
    · have hg := row_get (gI x) k hlt
      go_wp2_with (go_at_call 14; refine (set_any _ _ _ _).mono ?_; rintro e w' ⟨rfl, m', hw⟩; have hw := hw.symm; subst hw)
      go_roundw
      case rel => exact ⟨k + 1, m + m', by omega, by go_num, rfl, by simp⟩
      case measure => simp [intOf]; omega
    · obtain rfl : k = 16 := by omega
      go_wp2
      go_ret
      exact ⟨rfl, grownDrewN (hg1.alloc _ _) _⟩

theorem pack_step (l : Nat → Nat) (j : Nat) (hj : j < 16) : (packN l (15 - j) : Int) * 16 + (l j : Int) = (packN l (16 - j) : Int) := by
  have e : 16 - j = (15 - j) + 1 := by omega
  rw [e, packN, show 15 - (15 - j) = j by omega]; push_cast; rfl
theorem pack_bd (l : Nat → Nat) (hl : ∀ i, i < 16 → l i < 16) (j : Nat) : (packN l (15 - j) : Int) < 1152921504606846976 := by
  have h := packN_lt l hl (15 - j) (by omega)
  have h2 : 16 ^ (15 - j) ≤ 16 ^ 15 := Nat.pow_le_pow_right (by decide) (by omega)
  have h3 : (16 : Nat) ^ 15 = 1152921504606846976 := by decide
  omega
theorem pack_any (l : Nat → Nat) (hl : ∀ i, i < 16 → l i < 16) (w : World) :
    Calls Try.prog 26 #[.agg (row fun j => (l j : Int))] w fun e w' => e = .returned (.int .u64 (U (packB l))) ∧ Grown w w' := by
  rw [U_pack l hl]
  go_enter Try.func26, Try.ntmps26
  go_wp2
  go_loop [3, 4] (fun s i => ∃ m : Nat, m ≤ 16 ∧ i = .int .i64 (15 - (m : Int)) ∧ s = .int .u64 (packN l m)) (fun _ i => (1 + intOf i).toNat)
  case atStart => exact ⟨0, by omega, rfl, rfl⟩
  case round =>
    obtain ⟨m, hm, rfl, rfl⟩ := hrel
    by_cases hlt : m < 16
    · obtain ⟨j, hj⟩ : ∃ j : Nat, m = 15 - j ∧ j < 16 := ⟨15 - m, by omega, by omega⟩
      obtain ⟨rfl, hj⟩ := hj
      have e : (15 : Int) - ((15 - j : Nat) : Int) = (j : Int) := by omega
      rw [e]
      have hb := pack_bd l hl j
      have hv : (l j : Int) < 16 := by have := hl j hj; omega
      have hg := row_get (fun j => (l j : Int)) j hj
      have ST : Hid ((packN l (15 - j) : Int) * 16 + (l j : Int) = (packN l (16 - j) : Int)) := pack_step l j hj
      clear e hlt hm
      go_wp2
      go_round
      case rel => exact ⟨16 - j, by omega, by go_num, by rw [ST.out]⟩
      case measure => simp [intOf]; omega
    · obtain rfl : m = 16 := by omega
      go_wp2
      go_ret
      exact ⟨rfl, (Grown.refl _).alloc _ _⟩

theorem refSet_any (x : BitVec 64) (i n : Int) (w : World) :
    Calls Try.prog 15 #[.int .u64 (U x), .int .i64 i, .int .i64 n] w fun e w' => e = .returned (.int .u64 (U (setI x i n))) ∧ Grown w w' := by
  obtain ⟨l, hl⟩ : ∃ l : Nat → Nat, ∀ j : Nat, (l j : Int) = if (j : Int) = i then clampI n else gI x j :=
    ⟨fun j => if (j : Int) = i then (clampI n).toNat else G x j, fun j => by
      have := clamp_bd n
      show ((if (j : Int) = i then (clampI n).toNat else G x j : Nat) : Int) = _
      split
      · omega
      · rfl⟩
  have hb : ∀ j, j < 16 → l j < 16 := fun j _ => by
    have := hl j; have c := clamp_bd n; have g := gI_bd x j
    split at this <;> omega
  rw [← pack_set x i n l (fun j _ => hl j)]
  by_cases hc : 0 ≤ i ∧ i < 16
  · obtain ⟨k, rfl⟩ : ∃ k : Nat, i = k := ⟨i.toNat, by omega⟩
    have hk : k < 16 := by omega
    have hk' : (k : Int) ≤ 15 := by omega
    have hg := row_get (gI x) k hk
    have hs := row_set (gI x) (fun j => (l j : Int)) k (clampI n) hk (fun j _ => by
      show (l j : Int) = _; rw [hl j]
      by_cases e : j = k
      · rw [if_pos (by omega), if_pos e]
      · rw [if_neg (by omega), if_neg e])
    clear hc hl
    have hn : n < 0 ∨ (0 ≤ n ∧ n ≤ 15) ∨ (0 ≤ n ∧ 15 < n) := by omega
    rcases hn with h | ⟨h, h'⟩ | ⟨h, h'⟩
    · rw [show clampI n = 0 by unfold clampI; omega] at hs
      go_enter Try.func15, Try.ntmps15
      go_wp2_with (first | (go_at_call 17; refine (refAll_grown _ _).mono ?_; rintro e w1 ⟨rfl, hg1⟩) | (go_at_call 26; refine (pack_any l hb _).mono ?_; rintro e w2 ⟨rfl, hg2⟩) | (refine wpList_store_row rfl 28 _ _ rfl w1.heap.size _ rfl rfl 28 _ (heap_alloc_last _ _) (infoRow _) rfl (rowOne _) ?_; rw [World.setRow_alloc_new]) | (refine wpList_load_row rfl 28 _ rfl w1.heap.size rfl 28 _ (0, 0) _ (heap_alloc_last _ _) Try.underlying28 rfl (infoRow _) ?_))
      go_ret
      exact ⟨rfl, grownTrans (hg1.alloc _ _) hg2⟩
    · rw [clamp_in n h h'] at hs
      go_enter Try.func15, Try.ntmps15
      go_wp2_with (first | (go_at_call 17; refine (refAll_grown _ _).mono ?_; rintro e w1 ⟨rfl, hg1⟩) | (go_at_call 26; refine (pack_any l hb _).mono ?_; rintro e w2 ⟨rfl, hg2⟩) | (refine wpList_store_row rfl 28 _ _ rfl w1.heap.size _ rfl rfl 28 _ (heap_alloc_last _ _) (infoRow _) rfl (rowOne _) ?_; rw [World.setRow_alloc_new]) | (refine wpList_load_row rfl 28 _ rfl w1.heap.size rfl 28 _ (0, 0) _ (heap_alloc_last _ _) Try.underlying28 rfl (infoRow _) ?_))
      go_ret
      exact ⟨rfl, grownTrans (hg1.alloc _ _) hg2⟩
    · rw [show clampI n = 15 by unfold clampI; omega] at hs
      go_enter Try.func15, Try.ntmps15
      go_wp2_with (first | (go_at_call 17; refine (refAll_grown _ _).mono ?_; rintro e w1 ⟨rfl, hg1⟩) | (go_at_call 26; refine (pack_any l hb _).mono ?_; rintro e w2 ⟨rfl, hg2⟩) | (refine wpList_store_row rfl 28 _ _ rfl w1.heap.size _ rfl rfl 28 _ (heap_alloc_last _ _) (infoRow _) rfl (rowOne _) ?_; rw [World.setRow_alloc_new]) | (refine wpList_load_row rfl 28 _ rfl w1.heap.size rfl 28 _ (0, 0) _ (heap_alloc_last _ _) Try.underlying28 rfl (infoRow _) ?_))
      go_ret
      exact ⟨rfl, grownTrans (hg1.alloc _ _) hg2⟩
  · have er : row (gI x) = row (fun j => (l j : Int)) := row_congr fun j hj => by
      rw [hl j, if_neg (by omega)]
    have R := fun w => refAll_grown x w
    rw [er] at R
    clear er hl
    have hi : i < 0 ∨ (0 ≤ i ∧ 15 < i) := by omega
    clear hc
    rcases hi with h | ⟨h, h'⟩
    all_goals
      go_enter Try.func15, Try.ntmps15
      go_wp2_with (first | (go_at_call 17; refine (R _).mono ?_; rintro e w1 ⟨rfl, hg1⟩) | (go_at_call 26; refine (pack_any l hb _).mono ?_; rintro e w2 ⟨rfl, hg2⟩) | (refine wpList_store_row rfl 28 _ _ rfl w1.heap.size _ rfl rfl 28 _ (heap_alloc_last _ _) (infoRow _) rfl (rowOne _) ?_; rw [World.setRow_alloc_new]) | (refine wpList_load_row rfl 28 _ rfl w1.heap.size rfl 28 _ (0, 0) _ (heap_alloc_last _ _) Try.underlying28 rfl (infoRow _) ?_))
      go_ret
      exact ⟨rfl, grownTrans (hg1.alloc _ _) hg2⟩

theorem refInc_any (x : BitVec 64) (i : Int) (w : World) :
    Calls Try.prog 11 #[.int .u64 (U x), .int .i64 i] w fun e w' => e = .returned (.tuple #[.int .u64 (U (incI x i)), .bool (incOk x i)]) ∧ Grown w w' := by
  have hb := getI_bd x i
  cases hc : inC i with
  | false =>
    have h1 : incOk x i = false := by unfold incOk; rw [hc]; rfl
    have h2 : incI x i = x := by unfold incI; rw [h1]; rfl
    have hi : i < 0 ∨ (0 ≤ i ∧ 15 < i) := by
      have : ¬ (0 ≤ i ∧ i < 16) := fun h => by rw [inC_mk h.1 h.2] at hc; cases hc
      omega
    rw [h1, h2]; clear h1 h2 hc
    rcases hi with h | ⟨h, h'⟩
    all_goals
      go_enter Try.func11, Try.ntmps11
      go_wp2_with (go_at_call 13; refine (refGet_any _ _ _).mono ?_; rintro e w' ⟨rfl, rfl⟩)
      go_ret2
      exact ⟨rfl, Grown.refl _⟩
  | true =>
    have hi := inC_true hc
    have hi2 : i ≤ 15 := by omega
    by_cases hl : getI x i < 15
    · have h1 : incOk x i = true := by unfold incOk; rw [hc, decide_eq_true hl]; rfl
      have h2 : incI x i = setI x i (getI x i + 1) := by unfold incI; rw [h1]; rfl
      have h3 : (getI x i == 15) = false := by simp; omega
      rw [h1, h2]; clear h1 h2 hc
      obtain ⟨hi0, hi1⟩ := hi
      go_enter Try.func11, Try.ntmps11
      go_wp2_with (first | (go_at_call 13; refine (refGet_any _ _ _).mono ?_; rintro e w' ⟨rfl, rfl⟩) | (go_at_call 15; refine (refSet_any _ _ _ _).mono ?_; rintro e w' ⟨rfl, hg⟩))
      go_ret2
      exact ⟨rfl, hg⟩
    · have h1 : incOk x i = false := by unfold incOk; rw [hc, decide_eq_false hl]; rfl
      have h2 : incI x i = x := by unfold incI; rw [h1]; rfl
      have h3 : (getI x i == 15) = true := by simp; omega
      rw [h1, h2]; clear h1 h2 hc
      obtain ⟨hi0, hi1⟩ := hi
      go_enter Try.func11, Try.ntmps11
      go_wp2_with (go_at_call 13; refine (refGet_any _ _ _).mono ?_; rintro e w' ⟨rfl, rfl⟩)
      go_ret2
      exact ⟨rfl, Grown.refl _⟩

theorem hK_step (x : BitVec 64) (k j : Nat) : hK x (k + 1) j = if j = k then gI x k / 2 else hK x k j := by
  unfold hK
  by_cases e : j = k
  · subst e; rw [if_pos (by omega), if_pos rfl]
  · rw [if_neg e]
    by_cases h : j < k
    · rw [if_pos h, if_pos (by omega)]
    · rw [if_neg h, if_neg (by omega)]
theorem hK_here (x : BitVec 64) (k : Nat) : hK x k k = gI x k := by unfold hK; rw [if_neg (by omega)]

theorem refHalve_any (x : BitVec 64) (w : World) :
    Calls Try.prog 19 #[.int .u64 (U x)] w fun e w' => e = .returned (.int .u64 (U (halveB x))) ∧ Grown w w' := by
  obtain ⟨l, hl⟩ : ∃ l : Nat → Nat, ∀ j : Nat, (l j : Int) = gI x j / 2 := ⟨fun j => G x j / 2, fun j => by unfold gI; show ((G x j / 2 : Nat) : Int) = _; omega⟩
  have hb : ∀ j, j < 16 → l j < 16 := fun j _ => by have := hl j; have g := gI_bd x j; omega
  rw [← pack_halve x l (fun j _ => hl j)]
  have ef : row (hK x 16) = row (fun j => (l j : Int)) := row_congr fun j hj => by rw [hl j]; unfold hK; rw [if_pos hj]
  have EF : Hid (row (hK x 16) = row (fun j => (l j : Int))) := ef
  clear ef hl
  go_enter Try.func19, Try.ntmps19
  go_wp2_with (first | (go_at_call 17; refine (refAll_grown _ _).mono ?_; rintro e w1 ⟨rfl, hg1⟩) | (refine wpList_store_row rfl 28 _ _ rfl w1.heap.size _ rfl rfl 28 _ (heap_alloc_last _ _) (infoRow _) rfl (rowOne _) ?_; rw [World.setRow_alloc_new]))
  go_loopw [4] (fun i wr => ∃ k : Nat, k ≤ 16 ∧ i = .int .i64 k ∧ wr = w1.alloc (.cells (row (hK x k)) 28)) (fun i _ => 16 - (intOf i).toNat)
  case atStart => exact ⟨0, by omega, rfl, by rw [row_congr (f := gI x) (g := hK x 0) fun j _ => by unfold hK; rw [if_neg (by omega)]]⟩
  case round =>
    obtain ⟨k, hk, rfl, rfl⟩ := hrel
    have hv := gI_bd x k
    by_cases hlt : k < 16
    · have hg := row_get (hK x k) k hlt
      rw [hK_here] at hg
      have hs := row_set (hK x k) (hK x (k + 1)) k (gI x k / 2) hlt (fun j _ => hK_step x k j)
      go_wp2
      go_roundw
      case rel => exact ⟨k + 1, by omega, by go_num, rfl⟩
      case measure => simp [intOf]; omega
    · obtain rfl : k = 16 := by omega
      rw [EF.out]
      go_wp2_with (first | (go_at_call 26; refine (pack_any l hb _).mono ?_; rintro e w2 ⟨rfl, hg2⟩) | (refine wpList_load_row rfl 28 _ rfl w1.heap.size rfl 28 _ (0, 0) _ (heap_alloc_last _ _) Try.underlying28 rfl (infoRow _) ?_))
      go_ret
      exact ⟨rfl, grownTrans (hg1.alloc _ _) hg2⟩

theorem refSum_any (x : BitVec 64) (w : World) :
    Calls Try.prog 21 #[.int .u64 (U x)] w fun e w' => e = .returned (.int .i64 (sumI x)) ∧ w' = w := by
  go_enter Try.func21, Try.ntmps21
  go_wp2
  go_loop [3, 4] (fun s i => ∃ k : Nat, k ≤ 16 ∧ i = .int .i64 k ∧ s = .int .i64 (sumF (gI x) k)) (fun _ i => 16 - (intOf i).toNat)
  case atStart => exact ⟨0, by omega, rfl, rfl⟩
  case round =>
    obtain ⟨k, hk, rfl, rfl⟩ := hrel
    have hb := sumK_bd x k
    have hv := gI_bd x k
    by_cases hlt : k < 16
    · have hg := gI_get x k hlt
      go_wp2_with (go_at_call 13; refine (refGet_any _ _ _).mono ?_; rintro e w' ⟨rfl, hw⟩; have hw := hw.symm; subst hw)
      go_round
      case rel => exact ⟨k + 1, by omega, by go_num, rfl⟩
      case measure => simp [intOf]; omega
    · obtain rfl : k = 16 := by omega
      go_wp2
      go_ret
      exact ⟨rfl, rfl⟩

theorem refOdd_any (x : BitVec 64) (w : World) :
    Calls Try.prog 23 #[.int .u64 (U x)] w fun e w' => e = .returned (.int .i64 (oddI x)) ∧ w' = w := by
  go_enter Try.func23, Try.ntmps23
  go_wp2
  go_loop [3, 4] (fun s i => ∃ k : Nat, k ≤ 16 ∧ i = .int .i64 k ∧ s = .int .i64 (sumF (oddF x) k)) (fun _ i => 16 - (intOf i).toNat)
  case atStart => exact ⟨0, by omega, rfl, rfl⟩
  case round =>
    obtain ⟨k, hk, rfl, rfl⟩ := hrel
    have hb := oddK_bd x k
    have hv := gI_bd x k
    by_cases hlt : k < 16
    · have hg := gI_get x k hlt
      go_wp2_with (go_at_call 13; refine (refGet_any _ _ _).mono ?_; rintro e w' ⟨rfl, hw⟩; have hw := hw.symm; subst hw)
      go_round
      case rel => exact ⟨k + 1, by omega, by go_num, rfl⟩
      case measure => simp [intOf]; omega
    · obtain rfl : k = 16 := by omega
      go_wp2
      go_ret
      exact ⟨rfl, rfl⟩
end Go.Proofs.Ytemdgkmcjpagiaa
