/-
  A sketch by its counters: what its methods do to them when they are called.
-/
import Derived.Test.YtaelaikfpehciaaSkRow
namespace Go.Proofs.Ytaelaikfpehciaa
open Go.RowKit Go.Deep

/-- The counter j of a row of words. -/
def ct (f : Nat → Nat → BitVec 64) (i j : Nat) : Int := gI (f i (j / 16)) (j % 16)
/-- A sketch at block b whose counters are c. -/
def Skc (w : World) (b : Nat) (seed n : Int) (m : Nat) (c : Nat → Nat → Int) : Prop := ∃ f, Sk w b seed n m f ∧ ∀ i, i < 4 → ∀ j, j < 16 * m → ct f i j = c i j

def okG (g : Nat → Int) : Nat → Bool
  | 0 => false
  | k + 1 => okG g k || decide (g k < 15)
/-- The key's counters. -/
def kc (c : Nat → Nat → Int) (x : BitVec 64) (m i : Nat) : Int := c i (P x i m)
def incC (c : Nat → Nat → Int) (x : BitVec 64) (m i j : Nat) : Int := if j = P x i m ∧ c i j < 15 then c i j + 1 else c i j
def agedC (c : Nat → Nat → Int) (x : BitVec 64) (m : Nat) (n : Int) : Bool := okG (kc c x m) 4 && decide (160 * (m : Int) ≤ n + 1)
def nC (c : Nat → Nat → Int) (x : BitVec 64) (m : Nat) (n : Int) : Int := if agedC c x m n = true then (n + 1) / 2 else if okG (kc c x m) 4 = true then n + 1 else n
def cC (c : Nat → Nat → Int) (x : BitVec 64) (m : Nat) (n : Int) (i j : Nat) : Int := if agedC c x m n = true then incC c x m i j / 2 else incC c x m i j

theorem leastK_congr {g h : Nat → Int} (k : Nat) (h0 : g 0 = h 0) (e : ∀ i, i < k → g i = h i) : leastK g k = leastK h k := by
  induction k with
  | zero => exact h0
  | succ k ih => rw [leastK, leastK, ih (fun i hi => e i (by omega)), e k (by omega)]
theorem okG_congr {g h : Nat → Int} (k : Nat) (e : ∀ i, i < k → g i = h i) : okG g k = okG h k := by
  induction k with
  | zero => rfl
  | succ k ih => rw [okG, okG, ih (fun i hi => e i (by omega)), e k (by omega)]

theorem incOk_ct (y : BitVec 64) (r : Nat) (hr : r < 16) : incOk y (r : Int) = decide (gI y r < 15) := by
  unfold incOk; rw [inC_nat r hr, Bool.true_and, gI_get y r hr]
theorem incI_ct (y : BitVec 64) (r : Nat) (hr : r < 16) (t : Nat) (ht : t < 16) : gI (incI y (r : Int)) t = if t = r ∧ gI y t < 15 then gI y t + 1 else gI y t := by
  have b := gI_bd y r
  unfold incI
  rw [incOk_ct y r hr]
  by_cases h : gI y r < 15
  · rw [decide_eq_true h, if_pos rfl, ← gI_get _ t ht, getI_set _ _ _ _ (inC_nat t ht), gI_get y r hr, gI_get y t ht]
    by_cases e : t = r
    · subst e; rw [if_pos rfl, if_pos ⟨rfl, h⟩, clamp_in _ (by omega) (by omega)]
    · rw [if_neg (by omega), if_neg (fun x => e x.1)]
  · rw [decide_eq_false h]
    rw [if_neg (by decide), if_neg]
    rintro ⟨rfl, h2⟩; exact h h2
theorem okK_ct (f : Nat → Nat → BitVec 64) (x : BitVec 64) (m k : Nat) : okK f x m k = okG (fun i => ct f i (P x i m)) k := by
  induction k with
  | zero => rfl
  | succ k ih => rw [okK, okG, ih, incOk_ct _ _ (Nat.mod_lt _ (by decide))]; rfl
theorem incK_ct (f : Nat → Nat → BitVec 64) (x : BitVec 64) (m i j : Nat) (hi : i < 4) : ct (incK f x m 4) i j = if j = P x i m ∧ ct f i j < 15 then ct f i j + 1 else ct f i j := by
  unfold ct incK
  by_cases e : j / 16 = P x i m / 16
  · rw [if_pos ⟨hi, e⟩, incI_ct _ _ (Nat.mod_lt _ (by decide)) _ (Nat.mod_lt _ (by decide))]
    by_cases e2 : j = P x i m
    · have e3 : j % 16 = P x i m % 16 := by rw [e2]
      by_cases e4 : gI (f i (j / 16)) (j % 16) < 15
      · rw [if_pos ⟨e3, e4⟩, if_pos ⟨e2, e4⟩]
      · rw [if_neg (fun x => e4 x.2), if_neg (fun x => e4 x.2)]
    · rw [if_neg (fun x => e2 (by have := x.1; omega)), if_neg (fun x => e2 x.1)]
  · rw [if_neg (fun x => e x.2), if_neg (fun x => e (by rw [x.1]))]
theorem halve_ct (f : Nat → Nat → BitVec 64) (i j : Nat) : ct (fun i q => halveB (f i q)) i j = ct f i j / 2 := halve_get _ _ (Nat.mod_lt _ (by decide))

namespace Skc
variable {w w' : World} {b m : Nat} {seed n : Int} {c : Nat → Nat → Int}
theorem bd (h : Skc w b seed n m c) {i j : Nat} (hi : i < 4) (hj : j < 16 * m) : 0 ≤ c i j ∧ c i j ≤ 15 := by
  obtain ⟨f, _, he⟩ := h
  rw [← he i hi j hj]; exact gI_bd _ _
theorem congr {c' : Nat → Nat → Int} (h : Skc w b seed n m c) (e : ∀ i, i < 4 → ∀ j, j < 16 * m → c i j = c' i j) : Skc w b seed n m c' := by
  obtain ⟨f, hs, he⟩ := h
  exact ⟨f, hs, fun i hi j hj => (he i hi j hj).trans (e i hi j hj)⟩
theorem off {b' k : Nat} (h : Skc w b seed n m c) (g : Off b' k w w') (hd : b + 5 ≤ b' ∨ b' + k ≤ b) : Skc w' b seed n m c := by
  obtain ⟨f, hs, he⟩ := h
  exact ⟨f, Tb.off hs g hd, he⟩
theorem grown (h : Skc w b seed n m c) (g : Grown w w') : Skc w' b seed n m c := h.off (Off.of_grown g 0 0) (by omega)
theorem last (h : Skc w b seed n m c) : b + 4 < w.heap.size := by
  obtain ⟨f, hs, he⟩ := h
  exact Tb.last hs
end Skc

variable {w : World} {b m : Nat} {seed n : Int} {c : Nat → Nat → Int}
theorem width_c (h : Skc w b seed n m c) (hm : m ≤ 4096) : Calls Try.prog 18 #[ptr b] w fun e w' => e = .returned (.int .i64 (16 * (m : Int))) ∧ w' = w := by
  obtain ⟨f, hs, he⟩ := h
  exact width_any hs hm
theorem new_c (cap seed : Int) (w : World) (m : Nat) (h1 : m ≤ 4096) (hm : ceilI cap 16 65536 = 16 * (m : Int)) :
    Calls Try.prog 16 #[.int .i64 cap, .int .i64 seed] w fun e w' => e = .returned (ptr w.heap.size) ∧ Skc w' w.heap.size seed 0 m (fun _ _ => 0) ∧ Grown w w' := by
  refine (new_any cap seed w m h1 hm).mono ?_
  rintro e w' ⟨rfl, hs, hg⟩
  exact ⟨rfl, ⟨_, hs, fun i _ j _ => by unfold ct gI G; simp⟩, hg⟩
theorem count_c (h : Skc w b seed n m c) (h1 : 1 ≤ m) (hm : m ≤ 4096) (key : Int) :
    Calls Try.prog 29 #[ptr b, .int .i64 key] w fun e w' => e = .returned (.int .i64 (leastK (kc c (mixB seed key) m) 4)) ∧ w' = w := by
  obtain ⟨f, hs, he⟩ := h
  have e : leastK (kc c (mixB seed key) m) 4 = leastK (cnt f (mixB seed key) m) 4 :=
    leastK_congr 4 (he 0 (by omega) _ (P_lt _ _ _ h1)).symm (fun i hi => (he i hi _ (P_lt _ _ _ h1)).symm)
  rw [e]
  exact count_any hs h1 hm key
theorem halve_c (h : Skc w b seed n m c) (hm : m ≤ 4096) (hn : 0 ≤ n) (hn' : n ≤ 9223372036854775807) :
    Calls Try.prog 37 #[ptr b] w fun e w' => e = .returned (.tuple #[]) ∧ Skc w' b seed (n / 2) m (fun i j => c i j / 2) ∧ Off b 5 w w' := by
  obtain ⟨f, hs, he⟩ := h
  refine (skHalve_any hs hm hn hn').mono ?_
  rintro e w' ⟨rfl, hs, ho⟩
  exact ⟨rfl, ⟨_, hs, fun i hi j hj => by rw [halve_ct, he i hi j hj]⟩, ho⟩
theorem add_c (h : Skc w b seed n m c) (h1 : 1 ≤ m) (hm : m ≤ 4096) (hn : 0 ≤ n) (hn' : n ≤ 4611686018427387903) (key : Int) :
    Calls Try.prog 22 #[ptr b, .int .i64 key] w fun e w' => e = .returned (.tuple #[.bool (okG (kc c (mixB seed key) m) 4), .bool (agedC c (mixB seed key) m n)]) ∧ Skc w' b seed (nC c (mixB seed key) m n) m (cC c (mixB seed key) m n) ∧ Off b 5 w w' := by
  obtain ⟨f, hs, he⟩ := h
  have e : okG (kc c (mixB seed key) m) 4 = okK f (mixB seed key) m 4 := by
    rw [okK_ct]; exact okG_congr 4 fun i hi => (he i hi _ (P_lt _ _ _ h1)).symm
  have e2 : agedC c (mixB seed key) m n = agedB f (mixB seed key) m n := by unfold agedC agedB; rw [e]
  have e3 : nC c (mixB seed key) m n = nB f (mixB seed key) m n := by unfold nC nB; rw [e2, e]
  rw [e, e2, e3]
  refine (add_any hs h1 hm hn hn' key).mono ?_
  rintro e w' ⟨rfl, hs, ho⟩
  refine ⟨rfl, ⟨_, hs, fun i hi j hj => ?_⟩, ho⟩
  have hinc : ct (incK f (mixB seed key) m 4) i j = incC c (mixB seed key) m i j := by
    rw [incK_ct _ _ _ _ _ hi, he i hi j hj]; rfl
  unfold cC
  rw [e2]
  cases ha : agedB f (mixB seed key) m n with
  | true =>
    rw [if_pos rfl, ← hinc, ← halve_ct]
    unfold ct fB; rw [ha]; rfl
  | false =>
    rw [if_neg (by decide), ← hinc]
    unfold ct fB; rw [ha]; rfl
end Go.Proofs.Ytaelaikfpehciaa
