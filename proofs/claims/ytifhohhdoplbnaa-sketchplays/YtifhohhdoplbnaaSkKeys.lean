/-
  Laws over keys: a slice of numbers that came in and is not written; how often a key came; counts behind an Add.
-/
import Derived.Test.YtifhohhdoplbnaaSkSmall
import Derived.Carry
import Derived.OpenShut
namespace Go.Proofs.Ytifhohhdoplbnaa
open Go.RowKit Go.Deep

theorem grown_same {W w' : World} (h : Grown W w') {p : MemPlace} (hp : p.block < W.heap.size) : W.sameAt w' p := by
  cases p with
  | cell b o => exact World.cell?_of_block (w := W) (grown_block h hp)
  | map b => exact grown_block h hp
/-- An argument reads as it did. -/
theorem grown_trod {H : Type} {enc : TypeId × Value → H} {P : Program} {t : TypeId} (hl : laidOutB P = true) (hr : P.readableRec t = true) (hrow : t < P.types.size) {W W' : World} {v : Value} {d : DataW H} {ps : List MemPlace}
    (h : DataW.Trod enc P W 0 (fun _ => true) true t v d ps) (hb : Grown W W') (hlt : ∀ x ∈ ps, x.block < W.heap.size) :
    DataW.Trod enc P W' 0 (fun b => decide (b < W.heap.size)) true t v d ps :=
  WideElems.Trod_stays hl hr hrow h (fun x hx => grown_same hb (hlt x hx)) (fun x hx => by simpa using hlt x hx)
/-- A slice of numbers that came in: it has none, or they lie in a block that was there. -/
theorem keys_open {w : World} {a : Option Addr} {len cap : Nat} {zs : List Int}
    (h : (a = none ∧ len = 0 ∧ cap = 0 ∧ zs = []) ∨ ∃ x, a = some x ∧ len ≤ cap ∧ cap ≤ maxLen ∧ zs.length = cap ∧ (∀ i, i < zs.length → w.cell? (x.add i) = some (.int .i64 (zs.getD i 0))) ∧ ∀ n ∈ zs, (Lit.int .i64 n).wf = true) :
    len = 0 ∨ ∃ b off, a = some ⟨b, off, none⟩ ∧ b < w.heap.size ∧ ∀ i, i < len → w.cell? ⟨b, off + i, none⟩ = some (.int .i64 (zs.getD i 0)) := by
  rcases h with ⟨_, h, _, _⟩ | ⟨x, rfl, hl, _, hz, hc, _⟩
  · exact Or.inl h
  · by_cases h0 : len = 0
    · exact Or.inl h0
    · obtain ⟨b, off, rfl, hc'⟩ := ints_at hc (by omega)
      refine Or.inr ⟨b, off, rfl, ?_, fun i hi => hc' i (by omega)⟩
      have := hc' 0 (by omega)
      apply Decidable.byContradiction; intro hb
      rw [World.cell?, Array.getElem?_eq_none (by show w.heap.size ≤ b; omega)] at this
      cases this
theorem keys_cell {w w' : World} {b off k : Nat} {u : Value} (h : w.cell? ⟨b, off + k, none⟩ = some u) (hb : b < w.heap.size) (g : Grown w w') : w'.cell? ⟨b, off + k, none⟩ = some u :=
  (World.cell?_of_block (w := w) (grown_block g hb)).trans h

/-! ### counts -/
theorem up_bd (k : Int) (h0 : 0 ≤ k) (h1 : k ≤ 15) : 0 ≤ up k ∧ up k ≤ 15 ∧ k ≤ up k := by unfold up; split <;> omega
theorem up_mono (a b : Int) (h : a ≤ b) (_hb : b ≤ 15) : up a ≤ up b := by unfold up; split <;> split <;> omega
theorem leastK_le {g h : Nat → Int} (k : Nat) (h0 : g 0 ≤ h 0) (e : ∀ i, i < k → g i ≤ h i) : leastK g k ≤ leastK h k := by
  induction k with
  | zero => exact h0
  | succ k ih =>
    have h1 := ih (fun i hi => e i (by omega))
    have h2 := e k (by omega)
    rw [leastK, leastK]; split <;> split <;> omega
theorem leastK_bd {g : Nat → Int} (k : Nat) (e : ∀ i, i < 4 → 0 ≤ g i ∧ g i ≤ 15) (hk : k ≤ 4) : 0 ≤ leastK g k ∧ leastK g k ≤ 15 := by
  induction k with
  | zero => exact e 0 (by omega)
  | succ k ih =>
    have h1 := ih (by omega)
    have h2 := e k (by omega)
    rw [leastK]; split <;> omega
theorem leastK_up {g : Nat → Int} (k : Nat) (hk : k ≤ 4) : leastK (fun i => up (g i)) k = up (leastK g k) := by
  induction k with
  | zero => rfl
  | succ k ih =>
    rw [leastK, leastK, ih (by omega)]
    unfold up
    split <;> split <;> split <;> (try split) <;> omega
theorem kc_inc_self (c : Nat → Nat → Int) (x : BitVec 64) (m : Nat) : kc (incC c x m) x m = fun i => up (kc c x m i) := by
  funext i
  unfold kc incC up
  by_cases h : c i (P x i m) < 15
  · rw [if_pos ⟨rfl, h⟩, if_pos h]
  · rw [if_neg (fun x => h x.2), if_neg h]
theorem kc_inc_le (c : Nat → Nat → Int) (x y : BitVec 64) (m i : Nat) : kc c y m i ≤ kc (incC c x m) y m i := by
  unfold kc incC; split <;> omega
theorem least_self (c : Nat → Nat → Int) (x : BitVec 64) (m : Nat) : leastK (kc (incC c x m) x m) 4 = up (leastK (kc c x m) 4) := by
  rw [kc_inc_self]; exact leastK_up 4 (by omega)
theorem least_le (c : Nat → Nat → Int) (x y : BitVec 64) (m : Nat) : leastK (kc c y m) 4 ≤ leastK (kc (incC c x m) y m) 4 :=
  leastK_le 4 (kc_inc_le c x y m 0) fun i _ => kc_inc_le c x y m i
theorem Skc.count_bd {w : World} {b m : Nat} {seed n : Int} {c : Nat → Nat → Int} (h : Skc w b seed n m c) (h1 : 1 ≤ m) (x : BitVec 64) : 0 ≤ leastK (kc c x m) 4 ∧ leastK (kc c x m) 4 ≤ 15 :=
  leastK_bd 4 (fun i hi => h.bd hi (P_lt x i m h1)) (by omega)

/-- How often a key is among the first k. -/
def occ (z : List Int) (key : Int) : Nat → Int
  | 0 => 0
  | k + 1 => occ z key k + if z.getD k 0 = key then 1 else 0
theorem occ_bd (z : List Int) (key : Int) (k : Nat) : 0 ≤ occ z key k ∧ occ z key k ≤ k := by
  induction k with
  | zero => simp [occ]
  | succ k ih => rw [occ]; split <;> omega
/-- Each key counts no less than it came. -/
def Told (z : List Int) (seed : Int) (m : Nat) (c : Nat → Nat → Int) (k : Nat) : Prop := ∀ key, min (occ z key k) 15 ≤ leastK (kc c (mixB seed key) m) 4
theorem told_zero (z : List Int) (seed : Int) (m : Nat) : Told z seed m (fun _ _ => 0) 0 := by
  intro key
  have e : leastK (kc (fun _ _ => 0) (mixB seed key) m) 4 = 0 := by
    have : kc (fun _ _ => 0) (mixB seed key) m = fun _ => (0 : Int) := rfl
    rw [this]; simp [leastK]
  rw [e, occ]; decide
theorem Told.next {w : World} {b m : Nat} {seed n : Int} {c : Nat → Nat → Int} {z : List Int} {k : Nat} (h : Told z seed m c k) (hs : Skc w b seed n m c) (h1 : 1 ≤ m) : Told z seed m (incC c (mixB seed (z.getD k 0)) m) (k + 1) := by
  intro key
  have h2 := h key
  rw [occ]
  by_cases e : z.getD k 0 = key
  · rw [if_pos e, e, least_self]
    have := hs.count_bd h1 (mixB seed key)
    unfold up; split <;> omega
  · rw [if_neg e]
    have := least_le c (mixB seed (z.getD k 0)) (mixB seed key) m
    omega

/-- An Add behind which there are not yet as many samples that it is halved. -/
theorem add_few {w : World} {b m : Nat} {seed n : Int} {c : Nat → Nat → Int} (h : Skc w b seed n m c) (h1 : 1 ≤ m) (hm : m ≤ 4096) (hn : 0 ≤ n) (hn' : n + 1 < 160 * (m : Int)) (key : Int) :
    Calls Try.prog 12 #[ptr b, .int .i64 key] w fun e w' => ∃ (ok : Bool) (n' : Int), e = .returned (.tuple #[.bool ok, .bool false]) ∧ Skc w' b seed n' m (incC c (mixB seed key) m) ∧ Off b 5 w w' ∧ 0 ≤ n' ∧ n' ≤ n + 1 := by
  have e2 : agedC c (mixB seed key) m n = false := by unfold agedC; rw [decide_eq_false (by omega)]; exact Bool.and_false _
  refine (add_c h h1 hm hn (by omega) key).mono ?_
  rintro e w' ⟨rfl, hs, ho⟩
  refine ⟨_, _, by rw [e2], hs.congr fun i _ j _ => by unfold cC; rw [e2]; rfl, ho, ?_⟩
  unfold nC; rw [e2, if_neg (by decide)]; split <;> omega
end Go.Proofs.Ytifhohhdoplbnaa
