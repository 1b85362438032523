/-
  Memory that holds a struct of two pointers and a number; what stores, new blocks and calls that touch other blocks leave of it. A filter's state apart from memory: its samples, counters, bits and ages; what Record and Often make of it. No condition but those told at each sentence.
-/
import Derived.Test.YtaelaikfpehciaaSkKeys
import Derived.Test.YtaelaikfpehciaaSkPlay
import Derived.Test.YtaelaikfpehciaaDrLaws
namespace Go.Proofs.Ytaelaikfpehciaa
open Go.RowKit Go.Deep

theorem Off.wide {b n b' n' : Nat} {w w' : World} (h : Off b n w w') (h1 : b' ≤ b) (h2 : b + n ≤ b' + n') : Off b' n' w w' :=
  ⟨h.os, h.output, h.froz, h.size, fun k hk hb => h.block k hk (by omega)⟩

/-- A struct at block F: pointers to S and D + 1, and a number. -/
structure Hd3 (w : World) (F : Nat) (t : TypeId) (S D : Nat) (a : Int) : Prop where
  head : w.heap[F]? = some (.cells #[ptr S, ptr (D + 1), .int .i64 a] t (0, 0))
namespace Hd3
variable {w w' : World} {F S D : Nat} {t : TypeId} {a : Int}
theorem last (h : Hd3 w F t S D a) : F < w.heap.size := by
  apply Decidable.byContradiction; intro hc
  have := h.head
  rw [Array.getElem?_eq_none (by omega)] at this
  cases this
theorem cell0 (h : Hd3 w F t S D a) : w.cell? ⟨F, 0, none⟩ = some (.pointer (some ⟨S, 0, none⟩)) := by simp only [World.cell?, h.head]; rfl
theorem cell1 (h : Hd3 w F t S D a) : w.cell? ⟨F, 1, none⟩ = some (.pointer (some ⟨D + 1, 0, none⟩)) := by simp only [World.cell?, h.head]; rfl
theorem cell2 (h : Hd3 w F t S D a) : w.cell? ⟨F, 2, none⟩ = some (.int .i64 a) := by simp only [World.cell?, h.head]; rfl
theorem frozen (h : Hd3 w F t S D a) (k : Nat) : w.frozen? ⟨F, k, none⟩ = false := by simp [World.frozen?, h.head]
theorem set2 (h : Hd3 w F t S D a) (a' : Int) : Hd3 (w.setCell ⟨F, 2, none⟩ (.int .i64 a')) F t S D a' := by
  constructor
  simp [World.setCell, Array.getElem?_modify, h.head]
theorem off {b n : Nat} (h : Hd3 w F t S D a) (g : Off b n w w') (hd : F < b ∨ b + n ≤ F) : Hd3 w' F t S D a := ⟨(g.block F h.last hd).trans h.head⟩
theorem grown (h : Hd3 w F t S D a) (g : Grown w w') : Hd3 w' F t S D a := h.off (Off.of_grown g 0 0) (by omega)
end Hd3

/-- A filter's state: samples, counters, bits, ages. -/
structure Fs where
  n : Int
  c : Nat → Nat → Int
  s : Nat → Bool
  a : Int
namespace Fs
def zero : Fs := ⟨0, fun _ _ => 0, noS, 0⟩
/-- Is the key's Record one that halves? -/
def ages (t : Fs) (x : BitVec 64) (m : Nat) : Bool := hasS t.s x (2 * m) && agedC t.c x m t.n
def come (t : Fs) (x : BitVec 64) (m : Nat) : Fs :=
  ⟨if hasS t.s x (2 * m) then nC t.c x m t.n else t.n, if hasS t.s x (2 * m) then cC t.c x m t.n else t.c, if t.ages x m then noS else putS t.s x (2 * m), if t.ages x m then t.a + 1 else t.a⟩
def oft (t : Fs) (x : BitVec 64) (m : Nat) : Int := if hasS t.s x (2 * m) then leastK (kc t.c x m) 4 + 1 else leastK (kc t.c x m) 4
variable {t : Fs} {x : BitVec 64} {m : Nat}
theorem come_new (h : hasS t.s x (2 * m) = false) : t.come x m = ⟨t.n, t.c, putS t.s x (2 * m), t.a⟩ := by unfold come ages; rw [h]; rfl
theorem come_old (h : hasS t.s x (2 * m) = true) (g : agedC t.c x m t.n = false) : t.come x m = ⟨nC t.c x m t.n, cC t.c x m t.n, putS t.s x (2 * m), t.a⟩ := by unfold come ages; rw [h, g]; rfl
theorem come_age (h : hasS t.s x (2 * m) = true) (g : agedC t.c x m t.n = true) : t.come x m = ⟨nC t.c x m t.n, cC t.c x m t.n, noS, t.a + 1⟩ := by unfold come ages; rw [h, g]; rfl
theorem come_a (t : Fs) (x : BitVec 64) (m : Nat) : (t.come x m).a = if t.ages x m then t.a + 1 else t.a := rfl
theorem come_abd (t : Fs) (x : BitVec 64) (m : Nat) : t.a ≤ (t.come x m).a ∧ (t.come x m).a ≤ t.a + 1 := by rw [come_a]; split <;> omega
end Fs

/-- Widths that are one already stay. -/
theorem ceil_again (cap : Int) (m : Nat) (hm : ceilI cap 16 65536 = 16 * (m : Int)) : ceilI (16 * (m : Int)) 16 65536 = 16 * (m : Int) := by
  obtain ⟨h1, h2, h3, _, _⟩ := Up.props 62 16 (Up.start (n := cap) (l := 16) (m := 65536) (by decide) (by decide) (by decide) (by decide))
  rw [hm] at h1 h2 h3
  obtain ⟨g1, g2, g3, g4, g5⟩ := Up.props 62 16 (Up.start (n := 16 * (m : Int)) (l := 16) (m := 65536) (by decide) (by decide) (by decide) (by decide))
  obtain ⟨r, hr⟩ : ∃ r, r = ceilI (16 * (m : Int)) 16 65536 := ⟨_, rfl⟩
  obtain ⟨q, hq⟩ : ∃ q, q = 16 * (m : Int) := ⟨_, rfl⟩
  rw [← hr] at g1 g2 g3 g4 g5 ⊢
  rw [← hq] at h1 h2 h3 g4 g5 ⊢
  clear hr hq hm
  obtain ⟨a, ha⟩ := isP_pow _ g1
  obtain ⟨b, hb⟩ := isP_pow _ h1
  have hle : q ≤ r := by omega
  rcases g4 with g4 | g4
  · omega
  · by_cases hab : b < a
    · have e : (2 : Int) ^ a = 2 * 2 ^ (a - 1) := by
        have : a = (a - 1) + 1 := by omega
        rw [this, Int.pow_succ, show a - 1 + 1 - 1 = a - 1 by omega]; omega
      have : (2 : Int) ^ b ≤ 2 ^ (a - 1) := by
        by_cases h : b = a - 1
        · rw [h]; exact Int.le_refl _
        · exact Int.le_of_lt (Int.pow_lt_pow_of_lt (by decide) (by omega))
      omega
    · by_cases h : a = b
      · subst h; omega
      · have : (2 : Int) ^ a < 2 ^ b := Int.pow_lt_pow_of_lt (by decide) (by omega)
        omega
end Go.Proofs.Ytaelaikfpehciaa
