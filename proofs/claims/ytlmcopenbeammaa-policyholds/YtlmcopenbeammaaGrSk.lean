/-
  Memory that holds a struct with four rows behind it, block by block: the struct's block and its rows' blocks lie one behind the other; what stores, new blocks and calls that touch other blocks leave of it. No condition but those told at each sentence.
-/
import Derived.Test.YtlmcopenbeammaaGrNib
import Derived.Test.YtlmcopenbeammaaGrMix
import Derived.Deep.OwnRows
import Derived.Deep.RegionWith
import Derived.Carry
import Derived.OpenShut
namespace Go.Proofs.Ytlmcopenbeammaa
open Go.RowKit Go.Deep

/-- A struct at block b whose last field is an array of four slices, all of the blocks behind it. -/
structure Tb (w : World) (b : Nat) (t e : TypeId) (hd : Array Value) (m : Nat) (v : Nat → Nat → Value) : Prop where
  head : w.heap[b]? = some (.cells (hd ++ #[sl (b + 1) m, sl (b + 2) m, sl (b + 3) m, sl (b + 4) m]) t (0, 0))
  row : ∀ i, i < 4 → w.rowIs (b + 1 + i) e m (v i)

namespace Tb
variable {w w' : World} {b m : Nat} {t e : TypeId} {hd : Array Value} {v : Nat → Nat → Value}
theorem last (h : Tb w b t e hd m v) : b + 4 < w.heap.size := by have := (h.row 3 (by omega)).lt; omega
theorem cellH (h : Tb w b t e hd m v) {k : Nat} {u : Value} (hk : hd[k]? = some u) : w.cell? ⟨b, k, none⟩ = some u := by
  obtain ⟨hlt, _⟩ := Array.getElem?_eq_some_iff.1 hk
  simp only [World.cell?, h.head]
  simp only [Option.isSome_none, Bool.false_eq_true, if_false]
  rw [Array.getElem?_append_left hlt]; exact hk
theorem cellR (h : Tb w b t e hd m v) {i : Nat} (hi : i < 4) : w.cell? ⟨b, hd.size + i, none⟩ = some (sl (b + 1 + i) m) := by
  simp only [World.cell?, h.head]
  simp only [Option.isSome_none, Bool.false_eq_true, if_false]
  rw [Array.getElem?_append_right (by omega), Nat.add_sub_cancel_left]
  have hk : i = 0 ∨ i = 1 ∨ i = 2 ∨ i = 3 := by omega
  rcases hk with rfl | rfl | rfl | rfl <;> rfl
theorem frozenH (h : Tb w b t e hd m v) (k : Nat) : w.frozen? ⟨b, k, none⟩ = false := by simp [World.frozen?, h.head]
theorem frozenV (h : Tb w b t e hd m v) {i : Nat} (hi : i < 4) (k : Nat) : w.frozen? ⟨b + 1 + i, k, none⟩ = false := (h.row i hi).frozen k
theorem cellV (h : Tb w b t e hd m v) {i k : Nat} (hi : i < 4) (hk : k < m) : w.cell? ⟨b + 1 + i, k, none⟩ = some (v i k) := (h.row i hi).cell hk
theorem setH (h : Tb w b t e hd m v) {k : Nat} (hk : k < hd.size) (u : Value) : Tb (w.setCell ⟨b, k, none⟩ u) b t e (hd.setIfInBounds k u) m v := by
  refine ⟨?_, fun i hi => (h.row i hi).setOther (by show b + 1 + i ≠ b; omega) u⟩
  simp [World.setCell, Array.getElem?_modify, h.head]
  rw [Array.setIfInBounds_append_left hk]
theorem setV (h : Tb w b t e hd m v) {i k : Nat} (_hi : i < 4) (u : Value) : Tb (w.setCell ⟨b + 1 + i, k, none⟩ u) b t e hd m (fun j l => if j = i ∧ l = k then u else v j l) := by
  refine ⟨(blk_setCell_other _ _ _ _ (by show b ≠ b + 1 + i; omega)).trans h.head, fun j hj => ?_⟩
  by_cases e : j = i
  · subst e
    exact ((h.row j hj).set k u).congr fun l _ => by simp
  · exact ((h.row j hj).setOther (by show b + 1 + j ≠ b + 1 + i; omega) u).congr fun l _ => by simp [e]
theorem congr {v' : Nat → Nat → Value} (h : Tb w b t e hd m v) (g : ∀ i, i < 4 → ∀ k, k < m → v i k = v' i k) : Tb w b t e hd m v' := ⟨h.head, fun i hi => (h.row i hi).congr (g i hi)⟩
theorem off {b' n : Nat} (h : Tb w b t e hd m v) (g : Off b' n w w') (hd' : b + 5 ≤ b' ∨ b' + n ≤ b) : Tb w' b t e hd m v :=
  ⟨(g.block b (by have := h.last; omega) (by omega)).trans h.head, fun i hi => (h.row i hi).of_block (g.block _ (by have := h.last; omega) (by omega))⟩
theorem grown (h : Tb w b t e hd m v) (g : Grown w w') : Tb w' b t e hd m v := h.off (Off.of_grown g 0 0) (by omega)
theorem drewN (h : Tb w b t e hd m v) (n : Nat) : Tb (w.drewN n) b t e hd m v := h.grown (grownDrewN (Grown.refl _) n)
end Tb

/-- The slices of the array's first k places; the others are nil. -/
def slK (b m k i : Nat) : Value := if i < k then sl (b + 1 + i) m else .slice none 0 0
/-- A struct as above that is being made: k of its rows are there. -/
structure TbK (w : World) (b : Nat) (t e : TypeId) (hd : Array Value) (m : Nat) (z : Value) (k : Nat) : Prop where
  head : w.heap[b]? = some (.cells (hd ++ #[slK b m k 0, slK b m k 1, slK b m k 2, slK b m k 3]) t (0, 0))
  row : ∀ i, i < k → w.rowIs (b + 1 + i) e m (fun _ => z)
  size : w.heap.size = b + 1 + k
namespace TbK
variable {w : World} {b m k : Nat} {t e : TypeId} {hd : Array Value} {z : Value}
theorem start (w : World) (t e : TypeId) (hd : Array Value) (m : Nat) (z : Value) :
    TbK (w.alloc (.cells (hd ++ #[.slice none 0 0, .slice none 0 0, .slice none 0 0, .slice none 0 0]) t)) w.heap.size t e hd m z 0 :=
  ⟨blk_alloc_new _ _, fun i hi => by omega, nblk_alloc _ _⟩
theorem frozen (h : TbK w b t e hd m z k) (j : Nat) (o : Obj) : (w.alloc o).frozen? ⟨b, j, none⟩ = false := by
  have : (w.alloc o).heap[b]? = w.heap[b]? := blk_alloc_lt _ _ _ (by have := h.size; omega)
  simp [World.frozen?, this, h.head]
theorem cell (h : TbK w b t e hd m z k) (hk : k < 4) (o : Obj) : (w.alloc o).cell? ⟨b, hd.size + k, none⟩ = some (.slice none 0 0) := by
  have : (w.alloc o).heap[b]? = w.heap[b]? := blk_alloc_lt _ _ _ (by have := h.size; omega)
  simp only [World.cell?, this, h.head]
  simp only [Option.isSome_none, Bool.false_eq_true, if_false]
  rw [Array.getElem?_append_right (by omega), Nat.add_sub_cancel_left]
  have hk : k = 0 ∨ k = 1 ∨ k = 2 ∨ k = 3 := by omega
  rcases hk with rfl | rfl | rfl | rfl <;> rfl
theorem next (h : TbK w b t e hd m z k) (hk : k < 4) : TbK ((w.alloc (.cells (madeCells #[z] m) e)).setCell ⟨b, hd.size + k, none⟩ (sl w.heap.size m)) b t e hd m z (k + 1) := by
  have hs := h.size
  refine ⟨?_, fun i hi => ?_, by rw [nblk_setCell, nblk_alloc]; omega⟩
  · have : (w.alloc (.cells (madeCells #[z] m) e)).heap[b]? = w.heap[b]? := blk_alloc_lt _ _ _ (by omega)
    simp [World.setCell, Array.getElem?_modify, this, h.head]
    rw [hs]
    have hk : k = 0 ∨ k = 1 ∨ k = 2 ∨ k = 3 := by omega
    rcases hk with rfl | rfl | rfl | rfl <;> rfl
  · by_cases e' : i = k
    · subst e'
      have := World.rowIs_made w z m e
      rw [hs] at this
      exact this.setOther (by show b + 1 + i ≠ b; omega) _
    · exact ((h.row i (by omega)).alloc _).setOther (by show b + 1 + i ≠ b; omega) _
theorem full (h : TbK w b t e hd m z 4) : Tb w b t e hd m (fun _ _ => z) := ⟨h.head, fun i hi => h.row i hi⟩
theorem draw (h : TbK w b t e hd m z k) : TbK w.drew b t e hd m z k := ⟨h.head, h.row, h.size⟩
end TbK
end Go.Proofs.Ytlmcopenbeammaa

/-
  What Width, Samples and New of package sketch do when they are called.
-/
namespace Go.Proofs.Ytlmcopenbeammaa
open Go.RowKit Go.Deep

/-- A sketch at block b: its seed, its samples, its rows of m words. -/
def Sk (w : World) (b : Nat) (seed n : Int) (m : Nat) (f : Nat → Nat → BitVec 64) : Prop :=
  Tb w b 99 114 #[.int .i64 seed, .int .i64 n] m (fun i k => .int .u64 (U (f i k)))
theorem width_any {w : World} {b : Nat} {seed n : Int} {m : Nat} {f : Nat → Nat → BitVec 64} (h : Sk w b seed n m f) (hm : m ≤ 4096) :
    Calls Try.prog 33 #[ptr b] w fun e w' => e = .returned (.int .i64 (16 * (m : Int))) ∧ w' = w := by
  have c1 : w.cell? ⟨b, 2, none⟩ = some (.slice (some ⟨b + 1, 0, none⟩) m m) := Tb.cellR h (i := 0) (by omega)
  unfold ptr
  go_enter Try.func33, Try.ntmps33
  go_wp2
  go_ret
  exact ⟨rfl, rfl⟩
theorem Try.infoU : (Try.prog.info? 114).map (fun i => (i.zero, i.size, i.bytes)) = some (some (.int .u64 0), 1, 8) := by kernel_rfl
theorem new_any (cap seed : Int) (w : World) (m : Nat) (h1 : m ≤ 4096) (hm : ceilI cap 16 65536 = 16 * (m : Int)) :
    Calls Try.prog 31 #[.int .i64 cap, .int .i64 seed] w fun e w' => e = .returned (ptr w.heap.size) ∧ Sk w' w.heap.size seed 0 m (fun _ _ => 0#64) ∧ Grown w w' := by
  have hdiv : ceilI cap 16 65536 / 16 = (m : Int) := by omega
  go_enter Try.func31, Try.ntmps31
  go_wp2_with (go_at_call 58; refine (ceil_any _ _ _ _ (by decide) (by decide)).mono ?_; rintro e w' ⟨rfl, rfl⟩)
  go_loopw [14] (fun i wr => ∃ k : Nat, k ≤ 4 ∧ i = .int .i64 k ∧ TbK wr w'.heap.size 99 114 #[.int .i64 seed, .int .i64 0] m (.int .u64 0) k ∧ Grown w' wr) (fun i _ => 4 - (intOf i).toNat)
  case atStart => exact ⟨0, by omega, rfl, TbK.start w' _ _ #[.int .i64 seed, .int .i64 0] m (.int .u64 0), (Grown.refl _).alloc _ _⟩
  case round =>
    obtain ⟨k, hk, rfl, ht, hg⟩ := hrel
    by_cases hlt : k < 4
    · have hfa := ht.frozen (2 + k)
      have hca : ∀ o, (wr.alloc o).cell? ⟨w'.heap.size, 2 + k, none⟩ = some (.slice none 0 0) := fun o => ht.cell hlt o
      have hmk := run_make_row' (P := Try.prog) 96 114 (.int .u64 0) 8 Try.underlying96 Try.infoU rfl .i64 .i64 m (by omega) (by omega)
      go_wp2
      go_region
      all_goals (try go_wp2)
      all_goals go_roundw
      case rel => exact ⟨k + 1, by omega, by go_num, (ht.next hlt).draw, ((hg.alloc _ _).setCell (Nat.le_refl _) _).drew⟩
      case measure => simp [intOf]; omega
    · obtain rfl : k = 4 := by omega
      go_wp2
      go_ret
      exact ⟨rfl, ht.full, hg⟩

theorem Try.infoI : (Try.prog.info? 3).map (fun i => (i.zero, i.size, i.bytes)) = some (some (.int .i64 0), 1, 8) := by kernel_rfl
end Go.Proofs.Ytlmcopenbeammaa

/-
  What place, counter, Count and raise of package sketch do when they are called.
-/
namespace Go.Proofs.Ytlmcopenbeammaa
open Go.RowKit Go.Deep

/-- A key's place in a row. -/
def P (x : BitVec 64) (i m : Nat) : Nat := (indexI x i (16 * (m : Int))).toNat
theorem P_eq (x : BitVec 64) (i m : Nat) (h : 1 ≤ m) : indexI x i (16 * (m : Int)) = (P x i m : Int) := by
  have := index_bd x i (16 * (m : Int)) (by omega)
  unfold P; omega
theorem P_lt (x : BitVec 64) (i m : Nat) (h : 1 ≤ m) : P x i m < 16 * m := by
  have := index_bd x i (16 * (m : Int)) (by omega)
  unfold P; omega

theorem place_any {w : World} {b : Nat} {seed n : Int} {m : Nat} {f : Nat → Nat → BitVec 64} (h : Sk w b seed n m f) (h1 : 1 ≤ m) (hm : m ≤ 4096) (x : BitVec 64) (i : Nat) :
    Calls Try.prog 92 #[ptr b, .int .u64 (U x), .int .i64 i] w fun e w' => e = .returned (.tuple #[.int .i64 ((P x i m / 16 : Nat) : Int), .int .i64 ((P x i m % 16 : Nat) : Int)]) ∧ w' = w := by
  have e := P_eq x i m h1
  have hl := P_lt x i m h1
  unfold ptr
  go_enter Try.func92, Try.ntmps92
  go_wp2_with (first | (go_at_call 33; refine (width_any h hm).mono ?_; rintro e w' ⟨rfl, rfl⟩) | (go_at_call 94; refine (index_any _ _ _ _ (by omega)).mono ?_; rintro e w' ⟨rfl, rfl⟩))
  go_ret2
  exact ⟨rfl, rfl⟩

theorem counter_any {w : World} {b : Nat} {seed n : Int} {m : Nat} {f : Nat → Nat → BitVec 64} (h : Sk w b seed n m f) (h1 : 1 ≤ m) (hm : m ≤ 4096) (x : BitVec 64) (i : Nat) (hi : i < 4) :
    Calls Try.prog 78 #[ptr b, .int .u64 (U x), .int .i64 i] w fun e w' => e = .returned (.int .i64 (gI (f i (P x i m / 16)) (P x i m % 16))) ∧ w' = w := by
  have hl := P_lt x i m h1
  have hq : P x i m / 16 < m := by omega
  have hr : P x i m % 16 < 16 := by omega
  have hg := gI_get (f i (P x i m / 16)) (P x i m % 16) hr
  have c1 : w.cell? ⟨b, 2 + i, none⟩ = some (.slice (some ⟨b + 1 + i, 0, none⟩) m m) := Tb.cellR h hi
  have c2 : w.cell? ⟨b + 1 + i, P x i m / 16, none⟩ = some (.int .u64 (U (f i (P x i m / 16)))) := Tb.cellV h hi hq
  obtain ⟨q, hqe⟩ : ∃ q, q = P x i m / 16 := ⟨_, rfl⟩
  obtain ⟨r, hre⟩ : ∃ r, r = P x i m % 16 := ⟨_, rfl⟩
  have pl := fun w h => @place_any w b seed n m f h h1 hm x i
  rw [← hqe, ← hre] at pl
  rw [← hqe] at hq c2 ⊢
  rw [← hre] at hr ⊢
  rw [← hqe, ← hre] at hg
  clear hqe hre hl
  unfold ptr at pl ⊢
  go_enter Try.func78, Try.ntmps78
  go_wp2_with (first | (go_at_call 92; refine (pl _ h).mono ?_; rintro e w' ⟨rfl, rfl⟩) | (go_at_call 93; refine (get_any _ _ _).mono ?_; rintro e w' ⟨rfl, rfl⟩))
  go_ret
  exact ⟨rfl, rfl⟩

/-- The least of g's first k numbers, and of its first. -/
def leastK (g : Nat → Int) : Nat → Int
  | 0 => g 0
  | k + 1 => if g k < leastK g k then g k else leastK g k
/-- The key's counters, row by row. -/
def cnt (f : Nat → Nat → BitVec 64) (x : BitVec 64) (m i : Nat) : Int := gI (f i (P x i m / 16)) (P x i m % 16)

theorem count_any {w : World} {b : Nat} {seed n : Int} {m : Nat} {f : Nat → Nat → BitVec 64} (h : Sk w b seed n m f) (h1 : 1 ≤ m) (hm : m ≤ 4096) (key : Int) :
    Calls Try.prog 56 #[ptr b, .int .i64 key] w fun e w' => e = .returned (.int .i64 (leastK (cnt f (mixB seed key) m) 4)) ∧ w' = w := by
  have c0 := Tb.cellH h (k := 0) rfl
  obtain ⟨x, hx⟩ : ∃ x, x = mixB seed key := ⟨_, rfl⟩
  have mx := mix_any seed key w
  have cn : ∀ i, i < 4 → _ := fun i hi => @counter_any w b seed n m f h h1 hm x i hi
  obtain ⟨g, hg⟩ : ∃ g, g = cnt f x m := ⟨_, rfl⟩
  have ce : ∀ i, gI (f i (P x i m / 16)) (P x i m % 16) = g i := fun i => by rw [hg]; rfl
  simp only [ce] at cn
  rw [← hx] at mx ⊢
  rw [← hg]
  have cz := cn 0 (by omega)
  clear hx hg ce
  unfold ptr at *
  go_enter Try.func56, Try.ntmps56
  go_wp2_with (first | (go_at_call 77; refine mx.mono ?_; rintro e w' ⟨rfl, hw⟩; have hw := hw.symm; subst hw) | (go_at_call 78; refine cz.mono ?_; rintro e w' ⟨rfl, hw⟩; have hw := hw.symm; subst hw))
  clear cz mx
  go_loopw [6, 17] (fun l i wr => ∃ k : Nat, k ≤ 4 ∧ i = .int .i64 k ∧ l = .int .i64 (leastK g k) ∧ wr = w) (fun _ i _ => 4 - (intOf i).toNat)
  case atStart => exact ⟨0, by omega, rfl, rfl, rfl⟩
  case round =>
    obtain ⟨k, hk, rfl, rfl, rfl⟩ := hrel
    by_cases hlt : k < 4
    · have ck := cn k hlt
      go_wp2_with (go_at_call 78; refine ck.mono ?_; rintro e w' ⟨rfl, hw⟩; have hw := hw.symm; subst hw)
      go_roundw
      case rel => exact ⟨k + 1, by omega, by go_num, rfl, by first | rfl | trivial⟩
      case measure => simp [intOf]; omega
    · obtain rfl : k = 4 := by omega
      go_wp2
      go_ret
      exact ⟨rfl, rfl⟩

/-- The rows behind as many rows' raises. -/
def incK (f : Nat → Nat → BitVec 64) (x : BitVec 64) (m k i q : Nat) : BitVec 64 := if i < k ∧ q = P x i m / 16 then incI (f i q) ((P x i m % 16 : Nat) : Int) else f i q
def okK (f : Nat → Nat → BitVec 64) (x : BitVec 64) (m : Nat) : Nat → Bool
  | 0 => false
  | k + 1 => okK f x m k || incOk (f k (P x k m / 16)) ((P x k m % 16 : Nat) : Int)
theorem incK_here (f : Nat → Nat → BitVec 64) (x : BitVec 64) (m k q : Nat) : incK f x m k k q = f k q := by unfold incK; rw [if_neg (by omega)]

theorem raise_step {wr : World} {b : Nat} {seed n : Int} {m : Nat} {f : Nat → Nat → BitVec 64} {x y : BitVec 64} {k q r : Nat} (h : Sk wr b seed n m (incK f x m k)) (hk : k < 4) (hq : q = P x k m / 16) (hr : r = P x k m % 16) (hy : y = f k q) (m' : Nat) :
    Sk ((wr.drewN m').setCell ⟨b + 1 + k, q, none⟩ (.int .u64 (U (incI y (r : Int))))) b seed n m (incK f x m (k + 1)) := by
  refine ((Tb.drewN h m').setV hk _).congr fun i hi l hl => ?_
  show (if i = k ∧ l = q then _ else _) = _
  by_cases e : i = k ∧ l = q
  · obtain ⟨rfl, rfl⟩ := e
    rw [if_pos ⟨rfl, rfl⟩, hy, hr]
    unfold incK; rw [if_pos ⟨by omega, hq⟩]
  · rw [if_neg e]
    unfold incK
    by_cases e2 : i < k ∧ l = P x i m / 16
    · rw [if_pos e2, if_pos ⟨by omega, e2.2⟩]
    · rw [if_neg e2, if_neg]
      intro e3
      by_cases e4 : i = k
      · subst e4; exact e ⟨rfl, by rw [hq]; exact e3.2⟩
      · exact e2 ⟨by omega, e3.2⟩
theorem raise_off {w wr : World} {b k : Nat} (h : Off b 5 w wr) (hk : k < 4) (q m' : Nat) (u : Value) : Off b 5 w ((wr.drewN m').setCell ⟨b + 1 + k, q, none⟩ u) :=
  (h.drewN m').setCell (a := ⟨b + 1 + k, q, none⟩) (by show b ≤ b + 1 + k; omega) (by show b + 1 + k < b + 5; omega) u
theorem raise_ok {m : Nat} {f : Nat → Nat → BitVec 64} {x y : BitVec 64} {k q r : Nat} (hq : q = P x k m / 16) (hr : r = P x k m % 16) (hy : y = f k q) : okK f x m (k + 1) = (okK f x m k || incOk y (r : Int)) := by
  rw [okK, hy, hr, hq]

theorem raise_any {w : World} {b : Nat} {seed n : Int} {m : Nat} {f : Nat → Nat → BitVec 64} (h : Sk w b seed n m f) (h1 : 1 ≤ m) (hm : m ≤ 4096) (key : Int) :
    Calls Try.prog 84 #[ptr b, .int .i64 key] w fun e w' => e = .returned (.bool (okK f (mixB seed key) m 4)) ∧ Sk w' b seed n m (incK f (mixB seed key) m 4) ∧ Off b 5 w w' := by
  have c0 := Tb.cellH h (k := 0) rfl
  obtain ⟨x, hx⟩ : ∃ x, x = mixB seed key := ⟨_, rfl⟩
  have mx := mix_any seed key w
  rw [← hx] at mx ⊢
  clear hx
  unfold ptr at *
  go_enter Try.func84, Try.ntmps84
  go_wp2_with (go_at_call 77; refine mx.mono ?_; rintro e w' ⟨rfl, hw⟩; have hw := hw.symm; subst hw)
  clear mx
  go_loopw [6, 18] (fun l i wr => ∃ k : Nat, k ≤ 4 ∧ i = .int .i64 k ∧ l = .bool (okK f x m k) ∧ Sk wr b seed n m (incK f x m k) ∧ Off b 5 w wr) (fun _ i _ => 4 - (intOf i).toNat)
  case atStart => exact ⟨0, by omega, rfl, rfl, Tb.congr h (fun i _ q _ => by unfold incK; rw [if_neg (by omega)]), Off.refl _ _ _⟩
  case round =>
    obtain ⟨k, hk, rfl, rfl, hs, ho⟩ := hrel
    by_cases hlt : k < 4
    · have hl := P_lt x k m h1
      have hq : P x k m / 16 < m := by omega
      have hr : P x k m % 16 < 16 := by omega
      have c1 : wr.cell? ⟨b, 2 + k, none⟩ = some (.slice (some ⟨b + 1 + k, 0, none⟩) m m) := Tb.cellR hs hlt
      have c2 : wr.cell? ⟨b + 1 + k, P x k m / 16, none⟩ = some (.int .u64 (U (f k (P x k m / 16)))) := by rw [← incK_here f x m k]; exact Tb.cellV hs hlt hq
      have c3 : wr.frozen? ⟨b + 1 + k, P x k m / 16, none⟩ = false := Tb.frozenV hs hlt _
      obtain ⟨q, hqe⟩ : ∃ q, q = P x k m / 16 := ⟨_, rfl⟩
      obtain ⟨r, hre⟩ : ∃ r, r = P x k m % 16 := ⟨_, rfl⟩
      have pl := fun w h => @place_any w b seed n m (incK f x m k) h h1 hm x k
      rw [← hqe, ← hre] at pl
      rw [← hqe] at hq c2 c3
      have HS : Hid (Sk wr b seed n m (incK f x m k)) := hs
      have HE : Hid (q = P x k m / 16 ∧ r = P x k m % 16) := ⟨hqe, hre⟩
      clear hqe hre hl hr
      unfold ptr at pl
      obtain ⟨y, hy⟩ : ∃ y, y = f k q := ⟨_, rfl⟩
      rw [← hy] at c2
      have HY : Hid (y = f k q) := hy
      clear hy
      go_wp2_with (first | (go_at_call 92; refine (pl _ hs).mono ?_; rintro e w' ⟨rfl, hw⟩; have hw := hw.symm; subst hw) | (go_at_call 97; refine (inc_any _ _ _).mono ?_; rintro e w' ⟨rfl, m', hw⟩; have hw := hw.symm; subst hw))
      all_goals have R := raise_step HS.out hlt HE.out.1 HE.out.2 HY.out m'
      all_goals have O := raise_off ho hlt q m' (.int .u64 (U (incI y (r : Int))))
      all_goals have K := raise_ok HE.out.1 HE.out.2 HY.out
      · rename_i hok
        go_roundw
        case rel => exact ⟨k + 1, by omega, by go_num, by rw [K, hok]; rfl, R, O⟩
        case measure => simp [intOf]; omega
      · rename_i hok
        go_roundw
        case rel => exact ⟨k + 1, by omega, by go_num, by rw [K, Bool.eq_false_iff.2 hok]; rfl, R, O⟩
        case measure => simp [intOf]; omega
    · obtain rfl : k = 4 := by omega
      go_wp2
      go_ret
      exact ⟨rfl, hs, ho⟩
end Go.Proofs.Ytlmcopenbeammaa

/-
  What Halve and Add of package sketch do when they are called.
-/
namespace Go.Proofs.Ytlmcopenbeammaa
open Go.RowKit Go.Deep

/-- The rows behind the halves of k rows and of j words of the next. -/
def hvK (f : Nat → Nat → BitVec 64) (k j i q : Nat) : BitVec 64 := if i < k ∨ (i = k ∧ q < j) then halveB (f i q) else f i q
theorem hvK_here (f : Nat → Nat → BitVec 64) (k j : Nat) : hvK f k j k j = f k j := by unfold hvK; rw [if_neg (by omega)]
theorem hv_step {w w2 : World} {b : Nat} {seed n : Int} {m : Nat} {f : Nat → Nat → BitVec 64} {k j : Nat} (h : Sk w b seed n m (hvK f k j)) (hg : Grown w w2) (hk : k < 4) :
    Sk (w2.setCell ⟨b + 1 + k, j, none⟩ (.int .u64 (U (halveB (f k j))))) b seed n m (hvK f k (j + 1)) := by
  refine ((Tb.grown h hg).setV hk _).congr fun i hi l hl => ?_
  show (if i = k ∧ l = j then _ else _) = _
  by_cases e : i = k ∧ l = j
  · obtain ⟨rfl, rfl⟩ := e
    rw [if_pos ⟨rfl, rfl⟩]
    unfold hvK; rw [if_pos (by omega)]
  · rw [if_neg e]
    unfold hvK
    by_cases e2 : i < k ∨ (i = k ∧ l < j)
    · rw [if_pos e2, if_pos (by omega)]
    · rw [if_neg e2, if_neg (by omega)]
theorem hv_off {w w1 w2 : World} {b k : Nat} (h : Off b 5 w w1) (hg : Grown w1 w2) (hk : k < 4) (j : Nat) (u : Value) : Off b 5 w (w2.setCell ⟨b + 1 + k, j, none⟩ u) :=
  (h.more hg).setCell (a := ⟨b + 1 + k, j, none⟩) (by show b ≤ b + 1 + k; omega) (by show b + 1 + k < b + 5; omega) u
theorem hv_row {w : World} {b : Nat} {seed n : Int} {m : Nat} {f : Nat → Nat → BitVec 64} {k : Nat} (h : Sk w b seed n m (hvK f k m)) : Sk w b seed n m (hvK f (k + 1) 0) := by
  refine Tb.congr h fun i hi l hl => ?_
  have e : hvK f k m i l = hvK f (k + 1) 0 i l := by
    unfold hvK
    by_cases e : i < k ∨ (i = k ∧ l < m)
    · rw [if_pos e, if_pos (by omega)]
    · rw [if_neg e, if_neg (by omega)]
  rw [e]
theorem hv_end {w : World} {b : Nat} {seed n : Int} {m : Nat} {f : Nat → Nat → BitVec 64} (h : Sk w b seed n m (hvK f 4 0)) (n' : Int) : Sk (w.setCell ⟨b, 1, none⟩ (.int .i64 n')) b seed n' m (fun i q => halveB (f i q)) := by
  have := Tb.setH h (k := 1) (by show 1 < 2; omega) (.int .i64 n')
  refine Tb.congr this fun i hi l hl => ?_
  have e : hvK f 4 0 i l = halveB (f i l) := by unfold hvK; rw [if_pos (by omega)]
  rw [e]

theorem skHalve_any {w : World} {b : Nat} {seed n : Int} {m : Nat} {f : Nat → Nat → BitVec 64} (h : Sk w b seed n m f) (hm : m ≤ 4096) (hn : 0 ≤ n) (hn' : n ≤ 9223372036854775807) :
    Calls Try.prog 85 #[ptr b] w fun e w' => e = .returned (.tuple #[]) ∧ Sk w' b seed (n / 2) m (fun i q => halveB (f i q)) ∧ Off b 5 w w' := by
  unfold ptr
  go_enter Try.func85, Try.ntmps85
  go_wp2
  go_loopw [5] (fun i wr => ∃ k : Nat, k ≤ 4 ∧ i = .int .i64 k ∧ Sk wr b seed n m (hvK f k 0) ∧ Off b 5 w wr) (fun i _ => 4 - (intOf i).toNat)
  case atStart => exact ⟨0, by omega, rfl, Tb.congr h (fun i _ q _ => by unfold hvK; rw [if_neg (by omega)]), Off.refl _ _ _⟩
  case round =>
    obtain ⟨k, hk, rfl, hs, ho⟩ := hrel
    by_cases hlt : k < 4
    · have c1 : wr.cell? ⟨b, 2 + k, none⟩ = some (.slice (some ⟨b + 1 + k, 0, none⟩) m m) := Tb.cellR hs hlt
      have hd : decide ((k : Int) < 4) = true := by rw [decide_eq_true_eq]; omega
      go_wp2
      go_loopw [16] (fun i wi => ∃ j : Nat, j ≤ m ∧ i = .int .i64 j ∧ Sk wi b seed n m (hvK f k j) ∧ Off b 5 w wi) (fun i _ => m - (intOf i).toNat)
      case atStart => exact ⟨0, by omega, rfl, hs, ho⟩
      case round =>
        clear hs ho c1
        obtain ⟨j, hj, rfl, hs, ho⟩ := hrel
        by_cases hjl : j < m
        · have c2 : wr.cell? ⟨b + 1 + k, j, none⟩ = some (.int .u64 (U (f k j))) := by rw [← hvK_here f k j]; exact Tb.cellV hs hlt hjl
          have HS : Hid (Sk wr b seed n m (hvK f k j)) := hs
          clear hs
          go_wp2_with (go_at_call 98; refine (halve_any _ _).mono ?_; rintro e w2 ⟨rfl, hg2⟩; have c3 := Tb.frozenV (Tb.grown HS.out hg2) hlt j; have c4 := Tb.cellV (Tb.grown HS.out hg2) hlt hjl)
          go_roundw
          case rel => exact ⟨j + 1, by omega, by go_num, hv_step HS.out (by assumption) hlt, hv_off ho (by assumption) hlt _ _⟩
          case measure => simp [intOf]; omega
        · obtain rfl : j = m := by omega
          go_wp2
          go_roundw
          case rel => exact ⟨k + 1, by omega, by go_num, hv_row hs, ho⟩
          case measure => simp [intOf]; omega
    · obtain rfl : k = 4 := by omega
      have c1 := Tb.cellH hs (k := 1) rfl
      have c2 := Tb.frozenH hs 1
      go_wp2
      go_end0
      exact ⟨rfl, hv_end hs _, ho.setCell (a := ⟨b, 1, none⟩) (Nat.le_refl _) (by show b < b + 5; omega) _⟩

def agedB (f : Nat → Nat → BitVec 64) (x : BitVec 64) (m : Nat) (n : Int) : Bool := okK f x m 4 && decide (160 * (m : Int) ≤ n + 1)
def nB (f : Nat → Nat → BitVec 64) (x : BitVec 64) (m : Nat) (n : Int) : Int := if agedB f x m n = true then (n + 1) / 2 else if okK f x m 4 = true then n + 1 else n
def fB (f : Nat → Nat → BitVec 64) (x : BitVec 64) (m : Nat) (n : Int) (i q : Nat) : BitVec 64 := if agedB f x m n = true then halveB (incK f x m 4 i q) else incK f x m 4 i q

theorem add_n {w : World} {b : Nat} {seed n : Int} {m : Nat} {f : Nat → Nat → BitVec 64} (h : Sk w b seed n m f) (n' : Int) : Sk (w.setCell ⟨b, 1, none⟩ (.int .i64 n')) b seed n' m f := Tb.setH h (k := 1) (by show 1 < 2; omega) (.int .i64 n')
theorem off_n {w w1 : World} {b : Nat} (h : Off b 5 w w1) (u : Value) : Off b 5 w (w1.setCell ⟨b, 1, none⟩ u) := h.setCell (a := ⟨b, 1, none⟩) (Nat.le_refl _) (by show b < b + 5; omega) _
theorem sk_drewN {w : World} {b : Nat} {seed n : Int} {m : Nat} {f : Nat → Nat → BitVec 64} (h : Sk w b seed n m f) (k : Nat) : Sk (w.drewN k) b seed n m f := Tb.drewN h k

theorem add_any {w : World} {b : Nat} {seed n : Int} {m : Nat} {f : Nat → Nat → BitVec 64} (h : Sk w b seed n m f) (h1 : 1 ≤ m) (hm : m ≤ 4096) (hn : 0 ≤ n) (hn' : n ≤ 4611686018427387903) (key : Int) :
    Calls Try.prog 62 #[ptr b, .int .i64 key] w fun e w' => e = .returned (.tuple #[.bool (okK f (mixB seed key) m 4), .bool (agedB f (mixB seed key) m n)]) ∧ Sk w' b seed (nB f (mixB seed key) m n) m (fB f (mixB seed key) m n) ∧ Off b 5 w w' := by
  obtain ⟨x, hx⟩ : ∃ x, x = mixB seed key := ⟨_, rfl⟩
  have ra := raise_any h h1 hm key
  rw [← hx] at ra ⊢
  clear hx
  cases hok : okK f x m 4 with
  | false =>
    have ha : agedB f x m n = false := by unfold agedB; rw [hok]; rfl
    have hnB : nB f x m n = n := by unfold nB; rw [ha, hok]; rfl
    have hfB : fB f x m n = incK f x m 4 := by funext i q; unfold fB; rw [ha]; rfl
    rw [hok] at ra
    rw [ha, hnB, hfB]
    clear ha hnB hfB
    unfold ptr at *
    go_enter Try.func62, Try.ntmps62
    go_wp2_with (go_at_call 84; refine ra.mono ?_; rintro e w1 ⟨rfl, hs1, ho1⟩)
    go_ret2
    exact ⟨rfl, by assumption, by assumption⟩
  | true =>
    rw [hok] at ra
    by_cases hag : 160 * (m : Int) ≤ n + 1
    · have ha : agedB f x m n = true := by unfold agedB; rw [hok, decide_eq_true hag]; rfl
      have hnB : nB f x m n = (n + 1) / 2 := by unfold nB; rw [ha]; rfl
      have hfB : fB f x m n = fun i q => halveB (incK f x m 4 i q) := by funext i q; unfold fB; rw [ha]; rfl
      rw [ha, hnB, hfB]
      clear ha hnB hfB
      have hd : decide (10 * (16 * (m : Int)) ≤ n + 1) = true := by rw [decide_eq_true_eq]; omega
      unfold ptr at *
      go_enter Try.func62, Try.ntmps62
      go_wp2_with (go_at_call 84; refine ra.mono ?_; rintro e w1 ⟨rfl, hs1, ho1⟩; have c1 := Tb.cellH hs1 (k := 1) rfl; have c2 := Tb.frozenH hs1 1)
      go_quiet (first | (go_at_call 33; exact Calls.quiet_of_same (width_any (sk_drewN (add_n (by assumption) _) _) hm)))
      go_wp2_with (go_at_call 85; refine (skHalve_any (sk_drewN (add_n (by assumption) _) _) hm (by omega) (by omega)).mono ?_; rintro e w2 ⟨rfl, hs2, ho2⟩)
      go_ret2
      exact ⟨rfl, by assumption, ((off_n (by assumption) _).drewN _).trans (by assumption)⟩
    · have ha : agedB f x m n = false := by unfold agedB; rw [hok, decide_eq_false hag]; rfl
      have hnB : nB f x m n = n + 1 := by unfold nB; rw [ha, hok]; rfl
      have hfB : fB f x m n = incK f x m 4 := by funext i q; unfold fB; rw [ha]; rfl
      rw [ha, hnB, hfB]
      clear ha hnB hfB
      have hd : decide (10 * (16 * (m : Int)) ≤ n + 1) = false := by rw [decide_eq_false_iff_not]; omega
      unfold ptr at *
      go_enter Try.func62, Try.ntmps62
      go_wp2_with (go_at_call 84; refine ra.mono ?_; rintro e w1 ⟨rfl, hs1, ho1⟩; have c1 := Tb.cellH hs1 (k := 1) rfl; have c2 := Tb.frozenH hs1 1)
      go_quiet (first | (go_at_call 33; exact Calls.quiet_of_same (width_any (sk_drewN (add_n (by assumption) _) _) hm)))
      go_wp2
      go_ret2
      exact ⟨rfl, sk_drewN (add_n (by assumption) _) _, (off_n (by assumption) _).drewN _⟩
end Go.Proofs.Ytlmcopenbeammaa

/-
  What Row of package sketch does when it is called: a new row of the counters; and an append to a new row that has room.
-/
namespace Go.Proofs.Ytlmcopenbeammaa
open Go.RowKit Go.Deep

/-- append to a row of the call's own that has room. -/
theorem wpList_append_row {P : Program} (w : World) {ops : Array Oper} {rest : List Oper} {o : Oper} {a : Act} {Q : Exit → Act → World → Prop}
    (hg : o.guard = none) (s x : Operand) (t : TypeId) (hop : o.op = Op.call { callee := Callee.builtin Builtin.append, args := #[s, x], argTypes := #[t, t] })
    (e : TypeId) (z : Value) (bytes : Nat) (h1 : P.underlying t = some (.slice e)) (hinfo : (P.info? e).map (fun i => (i.zero, i.size, i.bytes)) = some (some z, 1, bytes))
    (g k cap : Nat) (f : Nat → Value) (hs : a.eval s = .slice (some ⟨g, 0, none⟩) k cap) (hrow : w.rowIs g e cap f)
    (ad : Addr) (m c : Nat) (nf : Nat → Value) (hx : a.eval x = .slice (some ad) m c)
    (hc : ∀ j, j < m → w.cell? (ad.add j) = some (nf j)) (h1c : ∀ j, j < m → (nf j).oneCell' = true) (b1 : k + m ≤ cap)
    (hK : ∀ w', w'.rowIs g e cap (fun j => if j < k then f j else if j < k + m then nf (j - k) else f j) → Off g 1 w w' → wpList P ops Q rest (a.put o.dst (.slice (some ⟨g, 0, none⟩) (k + m) cap)) w') :
    wpList P ops Q (o :: rest) a w := by
  refine wpList_plain hg fun K hK' => ?_
  obtain ⟨i, hi, hz, hsz, hb⟩ := info_parts hinfo
  obtain ⟨cur, hh, hcs, hcur⟩ := hrow
  have hl : ((List.range m).map nf).length = m * i.size := by rw [hsz]; simp
  have hrun := run_append_room (P := P) w t o.type e i h1 hi g k cap cur hh ad m c ((List.range m).map nf) hl (fun j u hj => by
      obtain ⟨hlt, he⟩ := List.getElem?_eq_some_iff.1 hj
      simp at hlt
      rw [hc j hlt, ← he]; simp) (fun u hu => by
      obtain ⟨j, hj, rfl⟩ := List.mem_map.1 hu
      exact h1c j (by simpa using hj)) b1 (by rw [hl, hsz, hcs]; omega)
  unfold Oper.wp
  simp [execOp, hop, resolve, invoke, builtin, hs, hx, hrun, Result.andThen]
  refine hK' _ _ (hK _ ⟨_, setRow_heap w g cur _ e _ hh, ?_, fun j hj => ?_⟩ (off_setRow hh))
  · simp [hsz]; omega
  · have hlen : ((cur.toList.take (k * i.size)).length) = k := by simp [hsz]; omega
    rw [hsz]
    simp only [List.getElem?_toArray]
    rw [hsz] at hlen
    by_cases e1 : j < k
    · rw [List.getElem?_append_left (by omega), List.getElem?_take, if_pos (by omega), if_pos e1, Array.getElem?_toList]
      exact hcur j hj
    · rw [List.getElem?_append_right (by omega), hlen, if_neg e1]
      by_cases e2 : j < k + m
      · rw [List.getElem?_append_left (by simp; omega), if_pos e2, List.getElem?_map, List.getElem?_range (by omega)]
        rfl
      · rw [List.getElem?_append_right (by simp; omega), if_neg e2, List.getElem?_drop, Array.getElem?_toList]
        simp only [List.length_map, List.length_range, Nat.mul_one]
        rw [show k + m + (j - k - m) = j by omega]
        exact hcur j hj

theorem run_make_cap (P : Program) (t e : TypeId) (z : Value) (bytes : Nat) (ht : P.underlying t = some (.slice e)) (hinfo : (P.info? e).map (fun i => (i.zero, i.size, i.bytes)) = some (some z, 1, bytes)) (hz1 : z.cells = #[z])
    (n : Nat) (hbytes : bytes * n ≤ 281474976710656) (h63 : n ≤ 9223372036854775807) (C : Int) (hC : C = (n : Int)) (w : World) :
    (Instr.makeSlice t (.int .i64 0) (.int .i64 C)).run P w = .ok (.slice (some ⟨w.heap.size, 0, none⟩) 0 n) (w.alloc (.cells (madeCells #[z] n) e)) := by
  obtain ⟨i, hi, hz, hs, hb⟩ := info_parts hinfo
  subst hC
  have hb' : (i.bytes : Int) * (n : Int) ≤ 281474976710656 := by
    have h : ((i.bytes * n : Nat) : Int) ≤ 281474976710656 := by rw [hb]; omega
    rwa [Int.natCast_mul] at h
  have hr := run_make (P := P) w t e i z ht hi hz .i64 .i64 0 n (by omega) (by omega) hb' (by omega)
  simp only [Int.toNat_natCast, hs, Nat.mul_one, hz1, Int.toNat_zero] at hr
  exact hr

/-- The first j words' counters; zeros behind. -/
def rowK (f : Nat → Nat → BitVec 64) (i j t : Nat) : Value := .int .i64 (if t < 16 * j then gI (f i (t / 16)) (t % 16) else 0)
theorem row_start (f : Nat → Nat → BitVec 64) (i m : Nat) (w : World) : (w.alloc (.cells (madeCells #[.int .i64 0] (16 * m)) 3)).drew.rowIs w.heap.size 3 (16 * m) (rowK f i 0) :=
  ((World.rowIs_made w (.int .i64 0) (16 * m) 3).congr fun t _ => by unfold rowK; rw [if_neg (by omega)]).drew
theorem row_end {f : Nat → Nat → BitVec 64} {i m B : Nat} {w : World} (h : w.rowIs B 3 (16 * m) (rowK f i m)) : w.rowIs B 3 (16 * m) (fun t => .int .i64 (gI (f i (t / 16)) (t % 16))) :=
  h.congr fun t ht => by unfold rowK; rw [if_pos ht]

theorem row_kept {f : Nat → Nat → BitVec 64} {i j M B : Nat} {wr w1 : World} (h : wr.rowIs B 3 M (rowK f i j)) (g : Grown wr w1) (c : Array Value) (t : TypeId) : (w1.alloc (.cells c t)).rowIs B 3 M (rowK f i j) :=
  (h.of_block (grown_block g h.lt)).alloc _
theorem row_cells (x : BitVec 64) (w1 : World) (k : Nat) (hk : k < 16) : (w1.alloc (.cells (row (gI x)) 133)).cell? ((⟨w1.heap.size, 0, none⟩ : Addr).add k) = some (.int .i64 (gI x k)) := by
  have e : (⟨w1.heap.size, 0, none⟩ : Addr).add k = ⟨w1.heap.size, k, none⟩ := by simp [Addr.add]; omega
  rw [e]
  simp only [World.cell?, blk_alloc_new]
  exact row_get _ k hk
theorem row_step {f : Nat → Nat → BitVec 64} {i j m B : Nat} {w2 : World}
    (h : w2.rowIs B 3 (16 * m) (fun t => if t < 16 * j then rowK f i j t else if t < 16 * j + 16 then .int .i64 (gI (f i j) (t - 16 * j)) else rowK f i j t)) : w2.rowIs B 3 (16 * m) (rowK f i (j + 1)) := by
  refine h.congr fun t ht => ?_
  show (if t < 16 * j then _ else _) = _
  unfold rowK
  by_cases e1 : t < 16 * j
  · rw [if_pos e1, if_pos e1, if_pos (by omega)]
  · rw [if_neg e1, if_neg e1]
    by_cases e2 : t < 16 * j + 16
    · rw [if_pos e2, if_pos (by omega), show t / 16 = j by omega, show t % 16 = t - 16 * j by omega]
    · rw [if_neg e2, if_neg (by omega)]
theorem row_sk {w wr w1 w2 : World} {b : Nat} {seed n : Int} {m : Nat} {f : Nat → Nat → BitVec 64} (h : Sk wr b seed n m f) (h0 : Sk w b seed n m f) (g : Grown wr w1) (c : Array Value) (t : TypeId) (o : Off w.heap.size 1 (w1.alloc (.cells c t)) w2) : Sk w2 b seed n m f :=
  Tb.off (Tb.grown h (g.alloc c t)) o (by have := Tb.last h0; omega)
theorem row_grown {w wr w1 w2 : World} (h : Grown w wr) (g : Grown wr w1) (c : Array Value) (t : TypeId) (o : Off w.heap.size 1 (w1.alloc (.cells c t)) w2) : Grown w w2 := o.grown (grownTrans h (g.alloc c t)) (Nat.le_refl _)

end Go.Proofs.Ytlmcopenbeammaa

/-
  A sketch by its counters: what its methods do to them when they are called.
-/
namespace Go.Proofs.Ytlmcopenbeammaa
open Go.RowKit Go.Deep

/-- The counter j of a row of words. -/
def ct (f : Nat → Nat → BitVec 64) (i j : Nat) : Int := gI (f i (j / 16)) (j % 16)
/-- A sketch at block b whose counters are c. -/
def Skc (w : World) (b : Nat) (seed n : Int) (m : Nat) (c : Nat → Nat → Int) : Prop := ∃ f, Sk w b seed n m f ∧ ∀ i, i < 4 → ∀ j, j < 16 * m → ct f i j = c i j

def okG (g : Nat → Int) : Nat → Bool
  | 0 => false
  | k + 1 => okG g k || decide (g k < 15)
/-- The key's counters. -/
def kc (c : Nat → Nat → Int) (x : BitVec 64) (m i : Nat) : Int := c i (P x i m)
def incC (c : Nat → Nat → Int) (x : BitVec 64) (m i j : Nat) : Int := if j = P x i m ∧ c i j < 15 then c i j + 1 else c i j
def agedC (c : Nat → Nat → Int) (x : BitVec 64) (m : Nat) (n : Int) : Bool := okG (kc c x m) 4 && decide (160 * (m : Int) ≤ n + 1)
def nC (c : Nat → Nat → Int) (x : BitVec 64) (m : Nat) (n : Int) : Int := if agedC c x m n = true then (n + 1) / 2 else if okG (kc c x m) 4 = true then n + 1 else n
def cC (c : Nat → Nat → Int) (x : BitVec 64) (m : Nat) (n : Int) (i j : Nat) : Int := if agedC c x m n = true then incC c x m i j / 2 else incC c x m i j

theorem leastK_congr {g h : Nat → Int} (k : Nat) (h0 : g 0 = h 0) (e : ∀ i, i < k → g i = h i) : leastK g k = leastK h k := by
  induction k with
  | zero => exact h0
  | succ k ih => rw [leastK, leastK, ih (fun i hi => e i (by omega)), e k (by omega)]
theorem okG_congr {g h : Nat → Int} (k : Nat) (e : ∀ i, i < k → g i = h i) : okG g k = okG h k := by
  induction k with
  | zero => rfl
  | succ k ih => rw [okG, okG, ih (fun i hi => e i (by omega)), e k (by omega)]

theorem incOk_ct (y : BitVec 64) (r : Nat) (hr : r < 16) : incOk y (r : Int) = decide (gI y r < 15) := by
  unfold incOk; rw [inC_nat r hr, Bool.true_and, gI_get y r hr]
theorem incI_ct (y : BitVec 64) (r : Nat) (hr : r < 16) (t : Nat) (ht : t < 16) : gI (incI y (r : Int)) t = if t = r ∧ gI y t < 15 then gI y t + 1 else gI y t := by
  have b := gI_bd y r
  unfold incI
  rw [incOk_ct y r hr]
  by_cases h : gI y r < 15
  · rw [decide_eq_true h, if_pos rfl, ← gI_get _ t ht, getI_set _ _ _ _ (inC_nat t ht), gI_get y r hr, gI_get y t ht]
    by_cases e : t = r
    · subst e; rw [if_pos rfl, if_pos ⟨rfl, h⟩, clamp_in _ (by omega) (by omega)]
    · rw [if_neg (by omega), if_neg (fun x => e x.1)]
  · rw [decide_eq_false h]
    rw [if_neg (by decide), if_neg]
    rintro ⟨rfl, h2⟩; exact h h2
theorem okK_ct (f : Nat → Nat → BitVec 64) (x : BitVec 64) (m k : Nat) : okK f x m k = okG (fun i => ct f i (P x i m)) k := by
  induction k with
  | zero => rfl
  | succ k ih => rw [okK, okG, ih, incOk_ct _ _ (Nat.mod_lt _ (by decide))]; rfl
theorem incK_ct (f : Nat → Nat → BitVec 64) (x : BitVec 64) (m i j : Nat) (hi : i < 4) : ct (incK f x m 4) i j = if j = P x i m ∧ ct f i j < 15 then ct f i j + 1 else ct f i j := by
  unfold ct incK
  by_cases e : j / 16 = P x i m / 16
  · rw [if_pos ⟨hi, e⟩, incI_ct _ _ (Nat.mod_lt _ (by decide)) _ (Nat.mod_lt _ (by decide))]
    by_cases e2 : j = P x i m
    · have e3 : j % 16 = P x i m % 16 := by rw [e2]
      by_cases e4 : gI (f i (j / 16)) (j % 16) < 15
      · rw [if_pos ⟨e3, e4⟩, if_pos ⟨e2, e4⟩]
      · rw [if_neg (fun x => e4 x.2), if_neg (fun x => e4 x.2)]
    · rw [if_neg (fun x => e2 (by have := x.1; omega)), if_neg (fun x => e2 x.1)]
  · rw [if_neg (fun x => e x.2), if_neg (fun x => e (by rw [x.1]))]
theorem halve_ct (f : Nat → Nat → BitVec 64) (i j : Nat) : ct (fun i q => halveB (f i q)) i j = ct f i j / 2 := halve_get _ _ (Nat.mod_lt _ (by decide))

namespace Skc
variable {w w' : World} {b m : Nat} {seed n : Int} {c : Nat → Nat → Int}
theorem bd (h : Skc w b seed n m c) {i j : Nat} (hi : i < 4) (hj : j < 16 * m) : 0 ≤ c i j ∧ c i j ≤ 15 := by
  obtain ⟨f, _, he⟩ := h
  rw [← he i hi j hj]; exact gI_bd _ _
theorem congr {c' : Nat → Nat → Int} (h : Skc w b seed n m c) (e : ∀ i, i < 4 → ∀ j, j < 16 * m → c i j = c' i j) : Skc w b seed n m c' := by
  obtain ⟨f, hs, he⟩ := h
  exact ⟨f, hs, fun i hi j hj => (he i hi j hj).trans (e i hi j hj)⟩
theorem off {b' k : Nat} (h : Skc w b seed n m c) (g : Off b' k w w') (hd : b + 5 ≤ b' ∨ b' + k ≤ b) : Skc w' b seed n m c := by
  obtain ⟨f, hs, he⟩ := h
  exact ⟨f, Tb.off hs g hd, he⟩
theorem grown (h : Skc w b seed n m c) (g : Grown w w') : Skc w' b seed n m c := h.off (Off.of_grown g 0 0) (by omega)
theorem last (h : Skc w b seed n m c) : b + 4 < w.heap.size := by
  obtain ⟨f, hs, he⟩ := h
  exact Tb.last hs
end Skc

variable {w : World} {b m : Nat} {seed n : Int} {c : Nat → Nat → Int}
theorem width_c (h : Skc w b seed n m c) (hm : m ≤ 4096) : Calls Try.prog 33 #[ptr b] w fun e w' => e = .returned (.int .i64 (16 * (m : Int))) ∧ w' = w := by
  obtain ⟨f, hs, he⟩ := h
  exact width_any hs hm
theorem new_c (cap seed : Int) (w : World) (m : Nat) (h1 : m ≤ 4096) (hm : ceilI cap 16 65536 = 16 * (m : Int)) :
    Calls Try.prog 31 #[.int .i64 cap, .int .i64 seed] w fun e w' => e = .returned (ptr w.heap.size) ∧ Skc w' w.heap.size seed 0 m (fun _ _ => 0) ∧ Grown w w' := by
  refine (new_any cap seed w m h1 hm).mono ?_
  rintro e w' ⟨rfl, hs, hg⟩
  exact ⟨rfl, ⟨_, hs, fun i _ j _ => by unfold ct gI G; simp⟩, hg⟩
theorem count_c (h : Skc w b seed n m c) (h1 : 1 ≤ m) (hm : m ≤ 4096) (key : Int) :
    Calls Try.prog 56 #[ptr b, .int .i64 key] w fun e w' => e = .returned (.int .i64 (leastK (kc c (mixB seed key) m) 4)) ∧ w' = w := by
  obtain ⟨f, hs, he⟩ := h
  have e : leastK (kc c (mixB seed key) m) 4 = leastK (cnt f (mixB seed key) m) 4 :=
    leastK_congr 4 (he 0 (by omega) _ (P_lt _ _ _ h1)).symm (fun i hi => (he i hi _ (P_lt _ _ _ h1)).symm)
  rw [e]
  exact count_any hs h1 hm key
theorem halve_c (h : Skc w b seed n m c) (hm : m ≤ 4096) (hn : 0 ≤ n) (hn' : n ≤ 9223372036854775807) :
    Calls Try.prog 85 #[ptr b] w fun e w' => e = .returned (.tuple #[]) ∧ Skc w' b seed (n / 2) m (fun i j => c i j / 2) ∧ Off b 5 w w' := by
  obtain ⟨f, hs, he⟩ := h
  refine (skHalve_any hs hm hn hn').mono ?_
  rintro e w' ⟨rfl, hs, ho⟩
  exact ⟨rfl, ⟨_, hs, fun i hi j hj => by rw [halve_ct, he i hi j hj]⟩, ho⟩
theorem add_c (h : Skc w b seed n m c) (h1 : 1 ≤ m) (hm : m ≤ 4096) (hn : 0 ≤ n) (hn' : n ≤ 4611686018427387903) (key : Int) :
    Calls Try.prog 62 #[ptr b, .int .i64 key] w fun e w' => e = .returned (.tuple #[.bool (okG (kc c (mixB seed key) m) 4), .bool (agedC c (mixB seed key) m n)]) ∧ Skc w' b seed (nC c (mixB seed key) m n) m (cC c (mixB seed key) m n) ∧ Off b 5 w w' := by
  obtain ⟨f, hs, he⟩ := h
  have e : okG (kc c (mixB seed key) m) 4 = okK f (mixB seed key) m 4 := by
    rw [okK_ct]; exact okG_congr 4 fun i hi => (he i hi _ (P_lt _ _ _ h1)).symm
  have e2 : agedC c (mixB seed key) m n = agedB f (mixB seed key) m n := by unfold agedC agedB; rw [e]
  have e3 : nC c (mixB seed key) m n = nB f (mixB seed key) m n := by unfold nC nB; rw [e2, e]
  rw [e, e2, e3]
  refine (add_any hs h1 hm hn hn' key).mono ?_
  rintro e w' ⟨rfl, hs, ho⟩
  refine ⟨rfl, ⟨_, hs, fun i hi j hj => ?_⟩, ho⟩
  have hinc : ct (incK f (mixB seed key) m 4) i j = incC c (mixB seed key) m i j := by
    rw [incK_ct _ _ _ _ _ hi, he i hi j hj]; rfl
  unfold cC
  rw [e2]
  cases ha : agedB f (mixB seed key) m n with
  | true =>
    rw [if_pos rfl, ← hinc, ← halve_ct]
    unfold ct fB; rw [ha]; rfl
  | false =>
    rw [if_neg (by decide), ← hinc]
    unfold ct fB; rw [ha]; rfl
end Go.Proofs.Ytlmcopenbeammaa

/-
  A key that comes alone, and the small case of the laws of layer 3.
-/
namespace Go.Proofs.Ytlmcopenbeammaa
open Go.RowKit Go.Deep

/-- One key's counters are k, all others 0. -/
def al (x : BitVec 64) (m : Nat) (k : Int) (i j : Nat) : Int := if j = P x i m then k else 0
def up (k : Int) : Int := if k < 15 then k + 1 else k
theorem kc_al (x : BitVec 64) (m : Nat) (k : Int) : kc (al x m k) x m = fun _ => k := by funext i; unfold kc al; rw [if_pos rfl]
theorem least_al (x : BitVec 64) (m : Nat) (k : Int) : leastK (kc (al x m k) x m) 4 = k := by rw [kc_al]; simp [leastK]
theorem ok_al (x : BitVec 64) (m : Nat) (k : Int) : okG (kc (al x m k) x m) 4 = decide (k < 15) := by rw [kc_al]; simp [okG]
variable {w : World} {b m : Nat} {seed n : Int} {c : Nat → Nat → Int}
theorem al_zero (h : Skc w b seed n m (fun _ _ => 0)) (x : BitVec 64) : Skc w b seed n m (al x m 0) := h.congr fun i _ j _ => by unfold al; split <;> rfl
theorem add_al {key k : Int} (h : Skc w b seed k m (al (mixB seed key) m k)) (h1 : 1 ≤ m) (hm : m ≤ 4096) (hk : 0 ≤ k) (hk' : k ≤ 15) :
    Calls Try.prog 62 #[ptr b, .int .i64 key] w fun e w' => e = .returned (.tuple #[.bool (decide (k < 15)), .bool false]) ∧ Skc w' b seed (up k) m (al (mixB seed key) m (up k)) ∧ Off b 5 w w' := by
  obtain ⟨x, hx⟩ : ∃ x, x = mixB seed key := ⟨_, rfl⟩
  have e1 := ok_al x m k
  have e2 : agedC (al x m k) x m k = false := by unfold agedC; rw [decide_eq_false (by omega)]; exact Bool.and_false _
  have e3 : nC (al x m k) x m k = up k := by
    unfold nC up; rw [e2, e1, if_neg (by decide)]; simp only [decide_eq_true_eq]
  have A := add_c h h1 hm hk (by omega) key
  rw [← hx] at A ⊢
  rw [e1, e2, e3] at A
  refine A.mono ?_
  rintro e w' ⟨rfl, hs, ho⟩
  refine ⟨rfl, hs.congr fun i _ j _ => ?_, ho⟩
  unfold cC incC; rw [e2, if_neg (by decide)]
  unfold al up
  by_cases e : j = P x i m
  · rw [if_pos e, if_pos e]; by_cases h : k < 15
    · rw [if_pos ⟨e, h⟩, if_pos h]
    · rw [if_neg (fun x => h x.2), if_neg h]
  · rw [if_neg e, if_neg e, if_neg (fun x => e x.1)]
theorem count_al {key k n : Int} (h : Skc w b seed n m (al (mixB seed key) m k)) (h1 : 1 ≤ m) (hm : m ≤ 4096) :
    Calls Try.prog 56 #[ptr b, .int .i64 key] w fun e w' => e = .returned (.int .i64 k) ∧ w' = w := by
  have A := count_c h h1 hm key
  rw [least_al] at A
  exact A
theorem halve_al {key k k' : Int} (h : Skc w b seed k m (al (mixB seed key) m k)) (hm : m ≤ 4096) (hk : 0 ≤ k) (hk' : k ≤ 15) (e : k / 2 = k') :
    Calls Try.prog 85 #[ptr b] w fun e w' => e = .returned (.tuple #[]) ∧ Skc w' b seed k' m (al (mixB seed key) m k') ∧ Off b 5 w w' := by
  subst e
  refine (halve_c h hm hk (by omega)).mono ?_
  rintro e w' ⟨rfl, hs, ho⟩
  exact ⟨rfl, hs.congr fun i _ j _ => by unfold al; split <;> rfl, ho⟩
theorem sum_al (x : BitVec 64) (m : Nat) (k : Int) (i : Nat) (h1 : 1 ≤ m) : sumF (al x m k i) (16 * m) = k := by
  have hz : ∀ t, sumF (fun _ => (0 : Int)) t = 0 := by
    intro t; induction t with
    | zero => rfl
    | succ t ih => rw [sumF, ih]; rfl
  rw [sumF_one (fun _ => 0) (al x m k i) (P x i m) k (16 * m) (fun j _ => by unfold al; by_cases e : j = P x i m
                                                                             · rw [if_pos e, if_pos e]; omega
                                                                             · rw [if_neg e, if_neg e]), hz, if_pos (P_lt x i m h1)]
  omega
theorem alone_k (k : Nat) (h : k ≤ 15) : Hid ((k : Int) = if k + 1 ≤ 15 then ((k + 1 : Nat) : Int) - 1 else 15) := by
  show (k : Int) = _
  split <;> omega
theorem alone_15 (k : Nat) (h : ¬ k ≤ 15) : Hid ((15 : Int) = if k + 1 ≤ 15 then ((k + 1 : Nat) : Int) - 1 else 15) := by
  show (15 : Int) = _
  rw [if_neg (by omega)]
end Go.Proofs.Ytlmcopenbeammaa

/-
  Laws over keys: a slice of numbers that came in and is not written; how often a key came; counts behind an Add.
-/
namespace Go.Proofs.Ytlmcopenbeammaa
open Go.RowKit Go.Deep

/-! ### counts -/
theorem up_bd (k : Int) (h0 : 0 ≤ k) (h1 : k ≤ 15) : 0 ≤ up k ∧ up k ≤ 15 ∧ k ≤ up k := by unfold up; split <;> omega
theorem up_mono (a b : Int) (h : a ≤ b) (_hb : b ≤ 15) : up a ≤ up b := by unfold up; split <;> split <;> omega
theorem leastK_le {g h : Nat → Int} (k : Nat) (h0 : g 0 ≤ h 0) (e : ∀ i, i < k → g i ≤ h i) : leastK g k ≤ leastK h k := by
  induction k with
  | zero => exact h0
  | succ k ih =>
    have h1 := ih (fun i hi => e i (by omega))
    have h2 := e k (by omega)
    rw [leastK, leastK]; split <;> split <;> omega
theorem leastK_bd {g : Nat → Int} (k : Nat) (e : ∀ i, i < 4 → 0 ≤ g i ∧ g i ≤ 15) (hk : k ≤ 4) : 0 ≤ leastK g k ∧ leastK g k ≤ 15 := by
  induction k with
  | zero => exact e 0 (by omega)
  | succ k ih =>
    have h1 := ih (by omega)
    have h2 := e k (by omega)
    rw [leastK]; split <;> omega
theorem leastK_up {g : Nat → Int} (k : Nat) (hk : k ≤ 4) : leastK (fun i => up (g i)) k = up (leastK g k) := by
  induction k with
  | zero => rfl
  | succ k ih =>
    rw [leastK, leastK, ih (by omega)]
    unfold up
    split <;> split <;> split <;> (try split) <;> omega
theorem kc_inc_self (c : Nat → Nat → Int) (x : BitVec 64) (m : Nat) : kc (incC c x m) x m = fun i => up (kc c x m i) := by
  funext i
  unfold kc incC up
  by_cases h : c i (P x i m) < 15
  · rw [if_pos ⟨rfl, h⟩, if_pos h]
  · rw [if_neg (fun x => h x.2), if_neg h]
theorem kc_inc_le (c : Nat → Nat → Int) (x y : BitVec 64) (m i : Nat) : kc c y m i ≤ kc (incC c x m) y m i := by
  unfold kc incC; split <;> omega
theorem least_self (c : Nat → Nat → Int) (x : BitVec 64) (m : Nat) : leastK (kc (incC c x m) x m) 4 = up (leastK (kc c x m) 4) := by
  rw [kc_inc_self]; exact leastK_up 4 (by omega)
theorem least_le (c : Nat → Nat → Int) (x y : BitVec 64) (m : Nat) : leastK (kc c y m) 4 ≤ leastK (kc (incC c x m) y m) 4 :=
  leastK_le 4 (kc_inc_le c x y m 0) fun i _ => kc_inc_le c x y m i
theorem Skc.count_bd {w : World} {b m : Nat} {seed n : Int} {c : Nat → Nat → Int} (h : Skc w b seed n m c) (h1 : 1 ≤ m) (x : BitVec 64) : 0 ≤ leastK (kc c x m) 4 ∧ leastK (kc c x m) 4 ≤ 15 :=
  leastK_bd 4 (fun i hi => h.bd hi (P_lt x i m h1)) (by omega)

/-- How often a key is among the first k. -/
def occ (z : List Int) (key : Int) : Nat → Int
  | 0 => 0
  | k + 1 => occ z key k + if z.getD k 0 = key then 1 else 0
theorem occ_bd (z : List Int) (key : Int) (k : Nat) : 0 ≤ occ z key k ∧ occ z key k ≤ k := by
  induction k with
  | zero => simp [occ]
  | succ k ih => rw [occ]; split <;> omega
/-- Each key counts no less than it came. -/
def Told (z : List Int) (seed : Int) (m : Nat) (c : Nat → Nat → Int) (k : Nat) : Prop := ∀ key, min (occ z key k) 15 ≤ leastK (kc c (mixB seed key) m) 4
theorem told_zero (z : List Int) (seed : Int) (m : Nat) : Told z seed m (fun _ _ => 0) 0 := by
  intro key
  have e : leastK (kc (fun _ _ => 0) (mixB seed key) m) 4 = 0 := by
    have : kc (fun _ _ => 0) (mixB seed key) m = fun _ => (0 : Int) := rfl
    rw [this]; simp [leastK]
  rw [e, occ]; decide
theorem Told.next {w : World} {b m : Nat} {seed n : Int} {c : Nat → Nat → Int} {z : List Int} {k : Nat} (h : Told z seed m c k) (hs : Skc w b seed n m c) (h1 : 1 ≤ m) : Told z seed m (incC c (mixB seed (z.getD k 0)) m) (k + 1) := by
  intro key
  have h2 := h key
  rw [occ]
  by_cases e : z.getD k 0 = key
  · rw [if_pos e, e, least_self]
    have := hs.count_bd h1 (mixB seed key)
    unfold up; split <;> omega
  · rw [if_neg e]
    have := least_le c (mixB seed (z.getD k 0)) (mixB seed key) m
    omega

/-- An Add behind which there are not yet as many samples that it is halved. -/
theorem add_few {w : World} {b m : Nat} {seed n : Int} {c : Nat → Nat → Int} (h : Skc w b seed n m c) (h1 : 1 ≤ m) (hm : m ≤ 4096) (hn : 0 ≤ n) (hn' : n + 1 < 160 * (m : Int)) (key : Int) :
    Calls Try.prog 62 #[ptr b, .int .i64 key] w fun e w' => ∃ (ok : Bool) (n' : Int), e = .returned (.tuple #[.bool ok, .bool false]) ∧ Skc w' b seed n' m (incC c (mixB seed key) m) ∧ Off b 5 w w' ∧ 0 ≤ n' ∧ n' ≤ n + 1 := by
  have e2 : agedC c (mixB seed key) m n = false := by unfold agedC; rw [decide_eq_false (by omega)]; exact Bool.and_false _
  refine (add_c h h1 hm hn (by omega) key).mono ?_
  rintro e w' ⟨rfl, hs, ho⟩
  refine ⟨_, _, by rw [e2], hs.congr fun i _ j _ => by unfold cC; rw [e2]; rfl, ho, ?_⟩
  unfold nC; rw [e2, if_neg (by decide)]; split <;> omega
theorem nC_bd {c : Nat → Nat → Int} {n : Int} {m : Nat} (x : BitVec 64) (h0 : 0 ≤ n) (h1 : n < 160 * (m : Int)) : 0 ≤ nC c x m n ∧ nC c x m n < 160 * (m : Int) := by
  unfold nC agedC
  cases okG (kc c x m) 4 with
  | false => simp; omega
  | true =>
    by_cases h : 160 * (m : Int) ≤ n + 1
    · rw [decide_eq_true h]; simp; omega
    · rw [decide_eq_false h]; simp; omega
end Go.Proofs.Ytlmcopenbeammaa
