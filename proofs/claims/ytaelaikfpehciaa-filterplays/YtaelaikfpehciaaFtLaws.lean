/-
  Laws over a filter's keys: a key that comes alone; keys that came since the last age; the small case.
-/
import Derived.Test.YtaelaikfpehciaaFtWalks
namespace Go.Proofs.Ytaelaikfpehciaa
open Go.RowKit Go.Deep

/-! ### a key alone -/
theorem putS_again (s : Nat → Bool) (x : BitVec 64) (m : Nat) : putS (putS s x m) x m = putS s x m := by
  funext j
  unfold putS
  cases s j <;> cases decide (j = Q x 0 m) <;> cases decide (j = Q x 1 m) <;> rfl
theorem cC_al (x : BitVec 64) (m : Nat) (k : Int) (e2 : agedC (al x m k) x m k = false) : cC (al x m k) x m k = al x m (up k) := by
  funext i j
  unfold cC incC; rw [e2, if_neg (by decide)]
  unfold al up
  by_cases e : j = P x i m
  · rw [if_pos e, if_pos e]; by_cases h : k < 15
    · rw [if_pos ⟨e, h⟩, if_pos h]
    · rw [if_neg (fun x => h x.2), if_neg h]
  · rw [if_neg e, if_neg e, if_neg (fun x => e x.1)]
theorem al0 (x : BitVec 64) (m : Nat) : (fun _ _ => 0) = al x m 0 := by funext i j; unfold al; split <;> rfl
/-- The filter when the key has come k + 1 times, alone. -/
def one (x : BitVec 64) (m k : Nat) : Fs := ⟨min k 15, al x m (min k 15), putS noS x (2 * m), 0⟩
theorem come_zero (x : BitVec 64) (m : Nat) : Fs.zero.come x m = one x m 0 := by
  rw [Fs.come_new (by rfl)]
  unfold Fs.zero one
  rw [al0 x m]; rfl
theorem come_one (x : BitVec 64) (m k : Nat) (h1 : 1 ≤ m) : (one x m k).come x m = one x m (k + 1) := by
  obtain ⟨K, hK⟩ : ∃ K : Int, K = min (k : Int) 15 := ⟨_, rfl⟩
  have hu : up K = min ((k + 1 : Nat) : Int) 15 := by rw [hK]; unfold up; split <;> omega
  have e1 := ok_al x m K
  have e2 : agedC (al x m K) x m K = false := by unfold agedC; rw [decide_eq_false (by omega)]; exact Bool.and_false _
  have e3 : nC (al x m K) x m K = up K := by
    unfold nC up; rw [e2, e1, if_neg (by decide)]; simp only [decide_eq_true_eq]
  have e4 := cC_al x m K e2
  unfold one
  rw [← hK, ← hu, Fs.come_old (t := ⟨K, al x m K, putS noS x (2 * m), 0⟩) (putS_self noS x (2 * m)) e2]
  show Fs.mk (nC (al x m K) x m K) (cC (al x m K) x m K) _ _ = _
  rw [e3, e4, putS_again]
theorem oft_zero (x : BitVec 64) (m : Nat) : Fs.zero.oft x m = 0 := by
  unfold Fs.oft Fs.zero
  simp only [hasS_no]
  rw [al0 x m, least_al]; rfl
theorem oft_one (x : BitVec 64) (m k : Nat) : (one x m k).oft x m = min ((k : Int) + 1) 16 := by
  unfold Fs.oft one
  simp only [putS_self, least_al]
  simp only [if_true]
  omega

theorem fSmall_any (w : World) : Calls Try.prog 7 #[] w fun e w' => e = .returned (.bool true) ∧ Grown w w' := by
  have nw := new_f 10 1 w 1 (by omega) (by omega) (by decide)
  obtain ⟨B, hB⟩ : ∃ B, B = w.heap.size := ⟨_, rfl⟩
  have HB : Hid (w.heap.size ≤ B) := by rw [hB]; exact Nat.le_refl _
  rw [← hB] at nw
  obtain ⟨x, hx⟩ : ∃ x, x = mixB 1 5 := ⟨_, rfl⟩
  have r0 := fun (W : World) F (h : Fl W B F 1 1 Fs.zero) => record_f h (Int.le_refl _) (by decide) 5
  have r1 := fun (W : World) F (h : Fl W B F 1 1 (one x 1 0)) => record_f h (Int.le_refl _) (by show (0 : Int) ≤ _; decide) 5
  have r2 := fun (W : World) F (h : Fl W B F 1 1 (one x 1 1)) => record_f h (Int.le_refl _) (by show (0 : Int) ≤ _; decide) 5
  have o0 := fun (W : World) F (h : Fl W B F 1 1 Fs.zero) => often_f h 5
  have o1 := fun (W : World) F (h : Fl W B F 1 1 (one x 1 0)) => often_f h 5
  have o3 := fun (W : World) F (h : Fl W B F 1 1 (one x 1 2)) => often_f h 5
  have b3 := fun (W : World) F (h : Fl W B F 1 1 (one x 1 2)) => better_f h 5 5
  have a3 := fun (W : World) F (h : Fl W B F 1 1 (one x 1 2)) => ages_f h
  simp only [← hx, come_zero, come_one x 1 _ (by omega : 1 ≤ 1), oft_zero, oft_one, Int.lt_irrefl, decide_false, show min (((0 : Nat) : Int) + 1) 16 = 1 from rfl, show min (((2 : Nat) : Int) + 1) 16 = 3 from rfl, show (one x 1 2).a = 0 from rfl, Nat.zero_add, Nat.reduceAdd] at r0 r1 r2 o0 o1 o3 b3 a3
  clear hx hB
  have T1 : Hid True := trivial
  have T2 : Hid True := trivial
  have S1 : Hid True := trivial
  have S2 : Hid True := trivial
  unfold ptr at *
  go_enter Try.func7, Try.ntmps7
  go_wp2_with (first | (go_at_call 8; refine nw.mono ?_; rintro e w1 ⟨F, rfl, hs1, hg1⟩) | (go_at_call 13; clear T1; refine (o0 _ _ hs1).mono ?_; rintro e w2 ⟨rfl, hg2⟩) | (go_at_call 10; clear S1; refine (r0 _ _ (hs1.grown hg2)).mono ?_; rintro e w3 ⟨rfl, hs3, ho3⟩) | (go_at_call 13; clear T2; refine (o1 _ _ hs3).mono ?_; rintro e w4 ⟨rfl, hg4⟩) | (go_at_call 10; clear S2; refine (r1 _ _ (hs3.grown hg4)).mono ?_; rintro e w5 ⟨rfl, hs5, ho5⟩) | (go_at_call 10; refine (r2 _ _ hs5).mono ?_; rintro e w6 ⟨rfl, hs6, ho6⟩) | (go_at_call 13; refine (o3 _ _ hs6).mono ?_; rintro e w7 ⟨rfl, hg7⟩) | (go_at_call 15; refine (b3 _ _ (hs6.grown hg7)).mono ?_; rintro e w8 ⟨rfl, hg8⟩) | (go_at_call 14; refine (a3 _ _ ((hs6.grown hg7).grown hg8)).mono ?_; rintro e w' ⟨rfl, hw⟩; have hw := hw.symm; subst hw))
  go_ret
  exact ⟨rfl, grownTrans (grownTrans (ho6.grown (ho5.grown (grownTrans (ho3.grown (grownTrans hg1 hg2) HB.out) hg4) HB.out) HB.out) hg7) hg8⟩

/-! ### keys since the last age -/
/-- Each key that came since the f-th counts no less than it came: one time is the door's. -/
def Came (z : List Int) (seed : Int) (m : Nat) (t : Fs) (f k : Nat) : Prop := ∀ key, 1 ≤ occ z key k - occ z key f → hasS t.s (mixB seed key) (2 * m) = true ∧ min (occ z key k - occ z key f - 1) 15 ≤ leastK (kc t.c (mixB seed key) m) 4
theorem came_none (z : List Int) (seed : Int) (m : Nat) (t : Fs) (k : Nat) : Came z seed m t k k := fun key h => by omega
theorem Came.oft {w : World} {S F m : Nat} {seed : Int} {t : Fs} {z : List Int} {f k : Nat} (h : Came z seed m t f k) (hs : Fl w S F seed m t) (key : Int) : min (occ z key k - occ z key f) 16 ≤ t.oft (mixB seed key) m := by
  have b := hs.oft_bd (mixB seed key)
  by_cases h1 : 1 ≤ occ z key k - occ z key f
  · obtain ⟨g1, g2⟩ := h key h1
    unfold Fs.oft
    rw [g1, if_pos rfl]
    omega
  · omega
theorem cC_young {c : Nat → Nat → Int} {x : BitVec 64} {m : Nat} {n : Int} (h : agedC c x m n = false) : cC c x m n = incC c x m := by
  funext i j; unfold cC; rw [h]; rfl
theorem Came.next {w : World} {S F m : Nat} {seed : Int} {t : Fs} {z : List Int} {f k : Nat} (h : Came z seed m t f k) (hs : Fl w S F seed m t) (hy : t.ages (mixB seed (z.getD k 0)) m = false) : Came z seed m (t.come (mixB seed (z.getD k 0)) m) f (k + 1) := by
  intro key hN
  have hoc : occ z key (k + 1) = occ z key k + if z.getD k 0 = key then 1 else 0 := rfl
  have b := hs.bd (mixB seed key)
  cases hh : hasS t.s (mixB seed (z.getD k 0)) (2 * m) with
  | false =>
    rw [Fs.come_new hh]
    show hasS (putS t.s _ _) _ _ = true ∧ _ ≤ leastK (kc t.c _ _) 4
    by_cases e : z.getD k 0 = key
    · rw [if_pos e] at hoc
      rw [e] at hh ⊢
      refine ⟨putS_self _ _ _, ?_⟩
      have : ¬ 1 ≤ occ z key k - occ z key f := fun hc => by rw [(h key hc).1] at hh; cases hh
      omega
    · rw [if_neg e] at hoc
      obtain ⟨g1, g2⟩ := h key (by omega)
      exact ⟨putS_keep _ _ _ _ g1, by omega⟩
  | true =>
    have hg : agedC t.c (mixB seed (z.getD k 0)) m t.n = false := by unfold Fs.ages at hy; rw [hh] at hy; exact hy
    rw [Fs.come_old hh hg]
    show hasS (putS t.s _ _) _ _ = true ∧ _ ≤ leastK (kc (cC t.c _ _ _) _ _) 4
    rw [cC_young hg]
    by_cases e : z.getD k 0 = key
    · rw [if_pos e] at hoc
      rw [e]
      refine ⟨putS_self _ _ _, ?_⟩
      rw [least_self]
      by_cases h1 : 1 ≤ occ z key k - occ z key f
      · have g2 := (h key h1).2
        unfold up; split <;> omega
      · unfold up; split <;> omega
    · rw [if_neg e] at hoc
      obtain ⟨g1, g2⟩ := h key (by omega)
      have := least_le t.c (mixB seed (z.getD k 0)) (mixB seed key) m
      exact ⟨putS_keep _ _ _ _ g1, by omega⟩
theorem occ_mono (z : List Int) (key : Int) (f k : Nat) (h : f ≤ k) : occ z key f ≤ occ z key k ∧ occ z key k ≤ occ z key f + ((k : Int) - f) := by
  induction k with
  | zero => obtain rfl : f = 0 := by omega
            exact ⟨Int.le_refl _, by omega⟩
  | succ k ih =>
    by_cases e : f = k + 1
    · subst e; exact ⟨Int.le_refl _, by omega⟩
    · have := ih (by omega)
      rw [occ]; split <;> omega
end Go.Proofs.Ytaelaikfpehciaa
