/-
  Stripes of which one ring alone is offered numbers. No condition but those told at each sentence.
-/
import Derived.Test.YtbboomhgigaobaaSpSmall
namespace Go.Proofs.Ytbboomhgigaobaa.Rn
open Go.RowKit Go.Deep
variable {W w w' w2 : World} {l : List Ob} {i j k m y N : Nat} {X : Sp} {st : St} {seed : Int} {q q' : List Int} {L L' : Int} {p p' : Option Addr} {c c' n' : Nat}

def Is (X : Sp) (k N : Nat) (seed : Int) : Prop := X.k = k ∧ X.N = N ∧ X.seed = seed
theorem sum_zero (f : List Int × Int → Int) (z : List Int × Int) (hz : f z = 0) : ∀ k : Nat, ((List.replicate k z).map f).sum = 0
  | 0 => rfl
  | k + 1 => by simp [List.replicate_succ, hz]
theorem sum_one (f : List Int × Int → Int) (z s : List Int × Int) (hz : f z = 0) : ∀ {k y : Nat}, y < k → (((List.replicate k z).set y s).map f).sum = f s
  | k + 1, 0, _ => by
    have := sum_zero f z hz k
    simp at this
    simp [List.replicate_succ, this]
  | k + 1, y + 1, h => by
    have := sum_one f z s hz (k := k) (y := y) (by omega)
    rw [List.replicate_succ, List.set_cons_succ, List.map_cons, List.sum_cons, this, hz, Int.zero_add]
/-- What is held behind m offers of one thread, whose ring is the one at y. -/
def losS (k y N m : Nat) : St := (freshN k).set y (upto (min m N), ((m - N : Nat) : Int))
theorem losS_zero (hy : y < k) : losS k y N 0 = freshN k := by
  unfold losS
  rw [show upto (min 0 N) = [] by simp [upto], show ((0 - N : Nat) : Int) = 0 by simp]
  exact set_same (by simp [freshN, hy])
theorem losS_at (hy : y < k) : (losS k y N m)[y]? = some (upto (min m N), ((m - N : Nat) : Int)) := by
  unfold losS
  rw [List.getElem?_set_self (by simpa [freshN] using hy)]
theorem losS_next : (losS k y N m).set y (offQ N (upto (min m N)) (m : Int), offL N (upto (min m N)) ((m - N : Nat) : Int)) = losS k y N (m + 1) := by
  unfold losS offQ offL
  rw [List.set_set, upto_len]
  by_cases h : m < N
  · rw [if_pos (by omega), if_pos (by omega), show min m N = m by omega, show min (m + 1) N = m + 1 by omega, ← upto_succ, show m - N = 0 by omega, show m + 1 - N = 0 by omega]
  · rw [if_neg (by omega), if_neg (by omega), show min m N = N by omega, show min (m + 1) N = N by omega, show m + 1 - N = m - N + 1 by omega]
    rfl
theorem los_offer (h : Apt W w l) (hi : l[i]? = some (obSp X (losS k y N m))) (hX : Is X k N seed) (t : Int) (hy : y = ofT seed k t) (hk : y < k) (hm : m ≤ 1000) :
    Calls Try.prog 15 #[ptr X.S, .int .i64 t, .int .i64 (m : Int)] w fun e w' => e = .returned (.bool (decide ((m : Int) < (N : Int)))) ∧ Apt W w' (l.set i (obSp X (losS k y N (m + 1)))) := by
  obtain ⟨rfl, rfl, rfl⟩ := hX
  have h1 := offer_p h hi t (m : Int) (q := upto (min m X.N)) (L := ((m - X.N : Nat) : Int)) (by rw [← hy]; exact losS_at hk) (by omega)
  rw [← hy, losS_next, upto_len] at h1
  refine h1.mono ?_
  rintro e w' ⟨rfl, h2⟩
  refine ⟨?_, h2⟩
  congr 2
  rw [decide_eq_decide]
  omega
theorem los_len (hk : y < k) : ((losS k y N m).map lenO).sum = ((min m N : Nat) : Int) := by
  unfold losS freshN
  rw [sum_one lenO _ _ rfl hk]
  simp [lenO, upto_len]
theorem los_lost (hk : y < k) : ((losS k y N m).map lostO).sum = ((m - N : Nat) : Int) := by
  unfold losS freshN
  rw [sum_one lostO _ _ rfl hk]
  rfl
theorem los_lens (hk : y < k) : ivL ((losS k y N m).map lenO) y = .int .i64 ((min m N : Nat) : Int) := by
  have e : ((losS k y N m).map lenO)[y]? = some ((min m N : Nat) : Int) := by
    rw [List.getElem?_map, losS_at hk]
    simp [lenO, upto_len]
  unfold ivL
  rw [List.getD_eq_getElem?_getD, e]
  rfl
theorem los_bd (hm : m ≤ 1000) : ∀ s ∈ losS k y N m, 0 ≤ s.2 ∧ s.2 ≤ 10000 := fun s hs => by
  unfold losS at hs
  rcases List.mem_or_eq_of_mem_set hs with h | h
  · have : s = ([], 0) := List.eq_of_mem_replicate h
    rw [this]
    decide
  · rw [h]
    exact ⟨Int.natCast_nonneg _, by show ((m - N : Nat) : Int) ≤ 10000; omega⟩
theorem new_x (h : Apt W w l) (n size seed : Int) (hk1 : 1 ≤ k) (hk2 : k ≤ 64) (ek : ceilI n 1 64 = (k : Int)) (hN : 1 ≤ N) (hm : N ≤ 4096) (e : ceilI size 1 4096 = (N : Int)) :
    Calls Try.prog 8 #[.int .i64 n, .int .i64 size, .int .i64 seed] w fun e w' => ∃ X : Sp, e = .returned (ptr X.S) ∧ Is X k N seed ∧ Apt W w' (l ++ [obSp X (freshN k)]) := by
  refine (new_p h n size seed hk1 hk2 ek hN hm e).mono ?_
  rintro e w' ⟨X, rfl, h1, h2, h3, h4⟩
  exact ⟨X, rfl, ⟨h1, h2, h3⟩, h4⟩
theorem place_x (h : Apt W w l) (hi : l[i]? = some (obSp X st)) (hX : Is X k N seed) (t : Int) : Calls Try.prog 17 #[ptr X.S, .int .i64 t] w fun e w' => e = .returned (.int .i64 (ofT seed k t : Int)) ∧ Apt W w' l := by
  obtain ⟨rfl, rfl, rfl⟩ := hX
  refine (place_s h hi t).mono ?_
  rintro e w' ⟨rfl, m, rfl⟩
  exact ⟨rfl, h.drewN m⟩
theorem lens_x (h : Apt W w l) (hi : l[i]? = some (obSp X st)) (hX : Is X k N seed) : Calls Try.prog 23 #[ptr X.S] w fun e w' => ∃ p c, e = .returned (.slice p k c) ∧ (st.map lenO).length = k ∧ Apt W w' (l ++ [obV p c (st.map lenO)]) := by
  obtain ⟨rfl, rfl, rfl⟩ := hX
  exact lens_p h hi
end Go.Proofs.Ytbboomhgigaobaa.Rn
