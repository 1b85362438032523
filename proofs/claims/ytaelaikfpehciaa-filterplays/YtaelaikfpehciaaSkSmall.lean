/-
  A key that comes alone, and the small case of the laws of layer 3.
-/
import Derived.Test.YtaelaikfpehciaaSkAbs
namespace Go.Proofs.Ytaelaikfpehciaa
open Go.RowKit Go.Deep

/-- One key's counters are k, all others 0. -/
def al (x : BitVec 64) (m : Nat) (k : Int) (i j : Nat) : Int := if j = P x i m then k else 0
def up (k : Int) : Int := if k < 15 then k + 1 else k
theorem kc_al (x : BitVec 64) (m : Nat) (k : Int) : kc (al x m k) x m = fun _ => k := by funext i; unfold kc al; rw [if_pos rfl]
theorem least_al (x : BitVec 64) (m : Nat) (k : Int) : leastK (kc (al x m k) x m) 4 = k := by rw [kc_al]; simp [leastK]
theorem ok_al (x : BitVec 64) (m : Nat) (k : Int) : okG (kc (al x m k) x m) 4 = decide (k < 15) := by rw [kc_al]; simp [okG]
variable {w : World} {b m : Nat} {seed n : Int} {c : Nat → Nat → Int}
theorem al_zero (h : Skc w b seed n m (fun _ _ => 0)) (x : BitVec 64) : Skc w b seed n m (al x m 0) := h.congr fun i _ j _ => by unfold al; split <;> rfl
theorem add_al {key k : Int} (h : Skc w b seed k m (al (mixB seed key) m k)) (h1 : 1 ≤ m) (hm : m ≤ 4096) (hk : 0 ≤ k) (hk' : k ≤ 15) :
    Calls Try.prog 22 #[ptr b, .int .i64 key] w fun e w' => e = .returned (.tuple #[.bool (decide (k < 15)), .bool false]) ∧ Skc w' b seed (up k) m (al (mixB seed key) m (up k)) ∧ Off b 5 w w' := by
  obtain ⟨x, hx⟩ : ∃ x, x = mixB seed key := ⟨_, rfl⟩
  have e1 := ok_al x m k
  have e2 : agedC (al x m k) x m k = false := by unfold agedC; rw [decide_eq_false (by omega)]; exact Bool.and_false _
  have e3 : nC (al x m k) x m k = up k := by
    unfold nC up; rw [e2, e1, if_neg (by decide)]; simp only [decide_eq_true_eq]
  have A := add_c h h1 hm hk (by omega) key
  rw [← hx] at A ⊢
  rw [e1, e2, e3] at A
  refine A.mono ?_
  rintro e w' ⟨rfl, hs, ho⟩
  refine ⟨rfl, hs.congr fun i _ j _ => ?_, ho⟩
  unfold cC incC; rw [e2, if_neg (by decide)]
  unfold al up
  by_cases e : j = P x i m
  · rw [if_pos e, if_pos e]; by_cases h : k < 15
    · rw [if_pos ⟨e, h⟩, if_pos h]
    · rw [if_neg (fun x => h x.2), if_neg h]
  · rw [if_neg e, if_neg e, if_neg (fun x => e x.1)]
theorem count_al {key k n : Int} (h : Skc w b seed n m (al (mixB seed key) m k)) (h1 : 1 ≤ m) (hm : m ≤ 4096) :
    Calls Try.prog 29 #[ptr b, .int .i64 key] w fun e w' => e = .returned (.int .i64 k) ∧ w' = w := by
  have A := count_c h h1 hm key
  rw [least_al] at A
  exact A
theorem halve_al {key k k' : Int} (h : Skc w b seed k m (al (mixB seed key) m k)) (hm : m ≤ 4096) (hk : 0 ≤ k) (hk' : k ≤ 15) (e : k / 2 = k') :
    Calls Try.prog 37 #[ptr b] w fun e w' => e = .returned (.tuple #[]) ∧ Skc w' b seed k' m (al (mixB seed key) m k') ∧ Off b 5 w w' := by
  subst e
  refine (halve_c h hm hk (by omega)).mono ?_
  rintro e w' ⟨rfl, hs, ho⟩
  exact ⟨rfl, hs.congr fun i _ j _ => by unfold al; split <;> rfl, ho⟩
theorem sum_al (x : BitVec 64) (m : Nat) (k : Int) (i : Nat) (h1 : 1 ≤ m) : sumF (al x m k i) (16 * m) = k := by
  have hz : ∀ t, sumF (fun _ => (0 : Int)) t = 0 := by
    intro t; induction t with
    | zero => rfl
    | succ t ih => rw [sumF, ih]; rfl
  rw [sumF_one (fun _ => 0) (al x m k i) (P x i m) k (16 * m) (fun j _ => by unfold al; by_cases e : j = P x i m
                                                                             · rw [if_pos e, if_pos e]; omega
                                                                             · rw [if_neg e, if_neg e]), hz, if_pos (P_lt x i m h1)]
  omega
theorem alone_k (k : Nat) (h : k ≤ 15) : Hid ((k : Int) = if k + 1 ≤ 15 then ((k + 1 : Nat) : Int) - 1 else 15) := by
  show (k : Int) = _
  split <;> omega
theorem alone_15 (k : Nat) (h : ¬ k ≤ 15) : Hid ((15 : Int) = if k + 1 ≤ 15 then ((k + 1 : Nat) : Int) - 1 else 15) := by
  show (15 : Int) = _
  rw [if_neg (by omega)]
end Go.Proofs.Ytaelaikfpehciaa
