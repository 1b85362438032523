/-
  What Len, Lost and Lens of package stripes do when they are called. No condition but those told at each sentence.
-/
import Derived.Test.YtbboomhgigaobaaSpMem
namespace Go.Proofs.Ytbboomhgigaobaa.Rn
open Go.RowKit Go.Deep
variable {W w w' : World} {l : List Ob} {i j : Nat} {X : Sp} {st : St} {q q' : List Int} {L L' : Int}

theorem m_len (a : Addr) (w : World) : (method 184 43 (.pointer (some a)) "Len").run Try.prog w = .ok (61, .pointer (some a)) w := by kernel_rfl
theorem m_lost (a : Addr) (w : World) : (method 184 43 (.pointer (some a)) "Lost").run Try.prog w = .ok (62, .pointer (some a)) w := by kernel_rfl
/-- What the numbers of the first n rings come to. -/
def sumN (f : List Int × Int → Int) (st : St) (n : Nat) : Int := ((st.take n).map f).sum
def lenO (s : List Int × Int) : Int := (s.1.length : Int)
def lostO (s : List Int × Int) : Int := s.2
theorem sumN_zero (f : List Int × Int → Int) (st : St) : sumN f st 0 = 0 := by simp [sumN]
theorem sumN_succ (f : List Int × Int → Int) {s : List Int × Int} {n : Nat} (h : st[n]? = some s) : sumN f st (n + 1) = sumN f st n + f s := by
  simp [sumN, List.take_add_one, h]
theorem sumN_all (f : List Int × Int → Int) {n : Nat} (h : st.length = n) : sumN f st n = (st.map f).sum := by simp [sumN, ← h]
theorem sumN_bd (f : List Int × Int → Int) {B : Int} (hB : 0 ≤ B) (hf : ∀ s ∈ st, 0 ≤ f s ∧ f s ≤ B) : ∀ n : Nat, 0 ≤ sumN f st n ∧ sumN f st n ≤ n * B
  | 0 => by simp [sumN_zero]
  | n + 1 => by
    have ih := sumN_bd f hB hf n
    by_cases h : n < st.length
    · rw [sumN_succ f (List.getElem?_eq_getElem h)]
      have := hf _ (List.getElem_mem h)
      have e : ((n + 1 : Nat) : Int) * B = n * B + B := by rw [Int.natCast_add, Int.add_mul]; simp
      omega
    · have e : sumN f st (n + 1) = sumN f st n := by simp [sumN, List.take_of_length_le (show st.length ≤ n by omega), List.take_of_length_le (show st.length ≤ n + 1 by omega)]
      have e2 : ((n + 1 : Nat) : Int) * B = n * B + B := by rw [Int.natCast_add, Int.add_mul]; simp
      omega
theorem sum_len (h : Apt W w l) (hi : l[i]? = some (obSp X st)) : Calls Try.prog 36 #[ptr X.S, .func (.methodOf 46 "Len") #[] #[]] w fun e w' => e = .returned (.int .i64 (st.map lenO).sum) ∧ w' = w := by
  obtain ⟨hk, k1, k2, c0, _, cR, lS, lR⟩ := sp_head h hi
  have hb : ∀ n : Nat, n ≤ 64 → 0 ≤ sumN lenO st n ∧ sumN lenO st n ≤ 1000000 := fun n hn => by
    have := sumN_bd (st := st) lenO (B := 4096) (by omega) (fun s hs => by
      obtain ⟨j, hj⟩ := List.mem_iff_getElem?.1 hs
      have := sp_room h hi (q := s.1) (L := s.2) hj
      unfold lenO
      omega) n
    omega
  have ask := fun j q L (hj : st[j]? = some (q, L)) => len_r h hi hj
  have hs : ∀ j, j < X.k → ∃ q L, st[j]? = some (q, L) := fun j hj => ⟨_, _, List.getElem?_eq_getElem (by omega)⟩
  rw [← sumN_all lenO hk]
  have hst : Hid (∀ j q L, st[j]? = some (q, L) → sumN lenO st (j + 1) = sumN lenO st j + (q.length : Int)) := fun j q L hj => sumN_succ lenO hj
  have ml := m_len
  clear h hi
  unfold spV at cR
  unfold ptr at *
  go_enter Try.func36, Try.ntmps36
  go_wp2
  go_loopw [5, 7, 13] (fun a _ i wr => ∃ k : Nat, k ≤ X.k ∧ i = .int .i64 (k : Int) ∧ a = .int .i64 (sumN lenO st k) ∧ wr = w) (fun _ _ i _ => X.k - (intOf i).toNat)
  case atStart => exact ⟨0, by omega, rfl, by rw [sumN_zero], rfl⟩
  case round =>
    obtain ⟨k, hk, rfl, rfl, rfl⟩ := hrel
    by_cases hlt : k < X.k
    · obtain ⟨q, L, hq⟩ := hs k hlt
      have ck := cR k hlt
      have a1 := ask k q L hq
      have hst := hst.out k q L hq
      have b1 := hb k (by omega)
      have b2 := hb (k + 1) (by omega)
      rw [hst] at b2
      have hd : decide ((k : Int) < (X.k : Int)) = true := by rw [decide_eq_true_eq]; omega
      have hst : Hid (sumN lenO st (k + 1) = sumN lenO st k + (q.length : Int)) := hst
      clear ask hs cR hb hq
      go_wp2_with (go_at_call 61; refine a1.mono ?_; rintro e w' ⟨rfl, rfl⟩)
      go_roundw
      case rel => exact ⟨k + 1, by omega, by go_num, by rw [hst.out], trivial⟩
      case measure => simp [intOf]; omega
    · obtain rfl : k = X.k := by omega
      have hd : decide ((X.k : Int) < (X.k : Int)) = false := by rw [decide_eq_false_iff_not]; omega
      go_wp2
      go_ret
      exact ⟨rfl, rfl⟩
theorem sum_lost (h : Apt W w l) (hi : l[i]? = some (obSp X st)) (hL : ∀ s ∈ st, 0 ≤ s.2 ∧ s.2 ≤ 10000) : Calls Try.prog 36 #[ptr X.S, .func (.methodOf 46 "Lost") #[] #[]] w fun e w' => e = .returned (.int .i64 (st.map lostO).sum) ∧ w' = w := by
  obtain ⟨hk, k1, k2, c0, _, cR, lS, lR⟩ := sp_head h hi
  have hb : ∀ n : Nat, n ≤ 64 → 0 ≤ sumN lostO st n ∧ sumN lostO st n ≤ 1000000 := fun n hn => by
    have := sumN_bd (st := st) lostO (B := 10000) (by omega) hL n
    omega
  have ask := fun j q L (hj : st[j]? = some (q, L)) => lost_r h hi hj
  have hs : ∀ j, j < X.k → ∃ q L, st[j]? = some (q, L) := fun j hj => ⟨_, _, List.getElem?_eq_getElem (by omega)⟩
  rw [← sumN_all lostO hk]
  have hst : Hid (∀ j q L, st[j]? = some (q, L) → sumN lostO st (j + 1) = sumN lostO st j + L) := fun j q L hj => sumN_succ lostO hj
  have ml := m_lost
  clear h hi
  unfold spV at cR
  unfold ptr at *
  go_enter Try.func36, Try.ntmps36
  go_wp2
  go_loopw [5, 7, 13] (fun a _ i wr => ∃ k : Nat, k ≤ X.k ∧ i = .int .i64 (k : Int) ∧ a = .int .i64 (sumN lostO st k) ∧ wr = w) (fun _ _ i _ => X.k - (intOf i).toNat)
  case atStart => exact ⟨0, by omega, rfl, by rw [sumN_zero], rfl⟩
  case round =>
    obtain ⟨k, hk, rfl, rfl, rfl⟩ := hrel
    by_cases hlt : k < X.k
    · obtain ⟨q, L, hq⟩ := hs k hlt
      have ck := cR k hlt
      have a1 := ask k q L hq
      have hst := hst.out k q L hq
      have b1 := hb k (by omega)
      have b2 := hb (k + 1) (by omega)
      rw [hst] at b2
      have hd : decide ((k : Int) < (X.k : Int)) = true := by rw [decide_eq_true_eq]; omega
      have hst : Hid (sumN lostO st (k + 1) = sumN lostO st k + L) := hst
      clear ask hs cR hb hq
      go_wp2_with (go_at_call 62; refine a1.mono ?_; rintro e w' ⟨rfl, rfl⟩)
      go_roundw
      case rel => exact ⟨k + 1, by omega, by go_num, by rw [hst.out], trivial⟩
      case measure => simp [intOf]; omega
    · obtain rfl : k = X.k := by omega
      have hd : decide ((X.k : Int) < (X.k : Int)) = false := by rw [decide_eq_false_iff_not]; omega
      go_wp2
      go_ret
      exact ⟨rfl, rfl⟩
theorem len_p (h : Apt W w l) (hi : l[i]? = some (obSp X st)) : Calls Try.prog 19 #[ptr X.S] w fun e w' => e = .returned (.int .i64 (st.map lenO).sum) ∧ w' = w := by
  have c := sum_len h hi
  clear h hi
  unfold ptr at *
  go_enter Try.func19, Try.ntmps19
  go_wp2_with (go_at_call 36; refine c.mono ?_; rintro e w' ⟨rfl, rfl⟩)
  go_ret
  exact ⟨rfl, rfl⟩
theorem lost_p (h : Apt W w l) (hi : l[i]? = some (obSp X st)) (hL : ∀ s ∈ st, 0 ≤ s.2 ∧ s.2 ≤ 10000) : Calls Try.prog 21 #[ptr X.S] w fun e w' => e = .returned (.int .i64 (st.map lostO).sum) ∧ w' = w := by
  have c := sum_lost h hi hL
  clear h hi
  unfold ptr at *
  go_enter Try.func21, Try.ntmps21
  go_wp2_with (go_at_call 36; refine c.mono ?_; rintro e w' ⟨rfl, rfl⟩)
  go_ret
  exact ⟨rfl, rfl⟩
end Go.Proofs.Ytbboomhgigaobaa.Rn
