/-
  Laws over keys: a slice of numbers that came in and is not written; how often a key came; counts behind an Add.
-/
import Derived.Test.YtaelaikfpehciaaSkSmall
import Derived.Carry
import Derived.OpenShut
namespace Go.Proofs.Ytaelaikfpehciaa
open Go.RowKit Go.Deep

/-! ### counts -/
theorem up_bd (k : Int) (h0 : 0 ≤ k) (h1 : k ≤ 15) : 0 ≤ up k ∧ up k ≤ 15 ∧ k ≤ up k := by unfold up; split <;> omega
theorem up_mono (a b : Int) (h : a ≤ b) (_hb : b ≤ 15) : up a ≤ up b := by unfold up; split <;> split <;> omega
theorem leastK_le {g h : Nat → Int} (k : Nat) (h0 : g 0 ≤ h 0) (e : ∀ i, i < k → g i ≤ h i) : leastK g k ≤ leastK h k := by
  induction k with
  | zero => exact h0
  | succ k ih =>
    have h1 := ih (fun i hi => e i (by omega))
    have h2 := e k (by omega)
    rw [leastK, leastK]; split <;> split <;> omega
theorem leastK_bd {g : Nat → Int} (k : Nat) (e : ∀ i, i < 4 → 0 ≤ g i ∧ g i ≤ 15) (hk : k ≤ 4) : 0 ≤ leastK g k ∧ leastK g k ≤ 15 := by
  induction k with
  | zero => exact e 0 (by omega)
  | succ k ih =>
    have h1 := ih (by omega)
    have h2 := e k (by omega)
    rw [leastK]; split <;> omega
theorem leastK_up {g : Nat → Int} (k : Nat) (hk : k ≤ 4) : leastK (fun i => up (g i)) k = up (leastK g k) := by
  induction k with
  | zero => rfl
  | succ k ih =>
    rw [leastK, leastK, ih (by omega)]
    unfold up
    split <;> split <;> split <;> (try split) <;> omega
theorem kc_inc_self (c : Nat → Nat → Int) (x : BitVec 64) (m : Nat) : kc (incC c x m) x m = fun i => up (kc c x m i) := by
  funext i
  unfold kc incC up
  by_cases h : c i (P x i m) < 15
  · rw [if_pos ⟨rfl, h⟩, if_pos h]
  · rw [if_neg (fun x => h x.2), if_neg h]
theorem kc_inc_le (c : Nat → Nat → Int) (x y : BitVec 64) (m i : Nat) : kc c y m i ≤ kc (incC c x m) y m i := by
  unfold kc incC; split <;> omega
theorem least_self (c : Nat → Nat → Int) (x : BitVec 64) (m : Nat) : leastK (kc (incC c x m) x m) 4 = up (leastK (kc c x m) 4) := by
  rw [kc_inc_self]; exact leastK_up 4 (by omega)
theorem least_le (c : Nat → Nat → Int) (x y : BitVec 64) (m : Nat) : leastK (kc c y m) 4 ≤ leastK (kc (incC c x m) y m) 4 :=
  leastK_le 4 (kc_inc_le c x y m 0) fun i _ => kc_inc_le c x y m i
theorem Skc.count_bd {w : World} {b m : Nat} {seed n : Int} {c : Nat → Nat → Int} (h : Skc w b seed n m c) (h1 : 1 ≤ m) (x : BitVec 64) : 0 ≤ leastK (kc c x m) 4 ∧ leastK (kc c x m) 4 ≤ 15 :=
  leastK_bd 4 (fun i hi => h.bd hi (P_lt x i m h1)) (by omega)

/-- How often a key is among the first k. -/
def occ (z : List Int) (key : Int) : Nat → Int
  | 0 => 0
  | k + 1 => occ z key k + if z.getD k 0 = key then 1 else 0
theorem occ_bd (z : List Int) (key : Int) (k : Nat) : 0 ≤ occ z key k ∧ occ z key k ≤ k := by
  induction k with
  | zero => simp [occ]
  | succ k ih => rw [occ]; split <;> omega
/-- Each key counts no less than it came. -/
def Told (z : List Int) (seed : Int) (m : Nat) (c : Nat → Nat → Int) (k : Nat) : Prop := ∀ key, min (occ z key k) 15 ≤ leastK (kc c (mixB seed key) m) 4
theorem told_zero (z : List Int) (seed : Int) (m : Nat) : Told z seed m (fun _ _ => 0) 0 := by
  intro key
  have e : leastK (kc (fun _ _ => 0) (mixB seed key) m) 4 = 0 := by
    have : kc (fun _ _ => 0) (mixB seed key) m = fun _ => (0 : Int) := rfl
    rw [this]; simp [leastK]
  rw [e, occ]; decide
theorem Told.next {w : World} {b m : Nat} {seed n : Int} {c : Nat → Nat → Int} {z : List Int} {k : Nat} (h : Told z seed m c k) (hs : Skc w b seed n m c) (h1 : 1 ≤ m) : Told z seed m (incC c (mixB seed (z.getD k 0)) m) (k + 1) := by
  intro key
  have h2 := h key
  rw [occ]
  by_cases e : z.getD k 0 = key
  · rw [if_pos e, e, least_self]
    have := hs.count_bd h1 (mixB seed key)
    unfold up; split <;> omega
  · rw [if_neg e]
    have := least_le c (mixB seed (z.getD k 0)) (mixB seed key) m
    omega

/-- An Add behind which there are not yet as many samples that it is halved. -/
theorem add_few {w : World} {b m : Nat} {seed n : Int} {c : Nat → Nat → Int} (h : Skc w b seed n m c) (h1 : 1 ≤ m) (hm : m ≤ 4096) (hn : 0 ≤ n) (hn' : n + 1 < 160 * (m : Int)) (key : Int) :
    Calls Try.prog 22 #[ptr b, .int .i64 key] w fun e w' => ∃ (ok : Bool) (n' : Int), e = .returned (.tuple #[.bool ok, .bool false]) ∧ Skc w' b seed n' m (incC c (mixB seed key) m) ∧ Off b 5 w w' ∧ 0 ≤ n' ∧ n' ≤ n + 1 := by
  have e2 : agedC c (mixB seed key) m n = false := by unfold agedC; rw [decide_eq_false (by omega)]; exact Bool.and_false _
  refine (add_c h h1 hm hn (by omega) key).mono ?_
  rintro e w' ⟨rfl, hs, ho⟩
  refine ⟨_, _, by rw [e2], hs.congr fun i _ j _ => by unfold cC; rw [e2]; rfl, ho, ?_⟩
  unfold nC; rw [e2, if_neg (by decide)]; split <;> omega
end Go.Proofs.Ytaelaikfpehciaa
