/-
  internal/strconv.formatBase10, told as far as that what it writes hangs on nothing but the number and how many places there are. Conditions: at most 23 places, of a block of 24 bytes.
-/
import Derived.Test.YtigmjgmkeoineaaDoorWgNum
import Derived.Test.YtigmjgmkeoineaaDoorGenVec
import Derived.RegionTactic
import Derived.BigCall
import Derived.BigGuard
import Derived.CellFam
import Derived.Shelf.RegionOpenPlain
namespace Go.Proofs.YtigmjgmkeoineaaDoor
open Go.RowKit Go.Deep

def putAt (f : Nat → UInt8) (k : Nat) (z : UInt8) : Nat → UInt8 := fun j => if j = k then z else f j
/-- Two digits, into the cells n and n - 1. -/
def duo (f : Nat → UInt8) (n x : Nat) : Nat → UInt8 := putAt (putAt f n (Lib.sm (x * 2 + 1))) (n - 1) (Lib.sm (x * 2))
def eight (f : Nat → UInt8) (n x : Nat) : Nat → UInt8 := duo (duo (duo (duo f n (x % 100)) (n - 2) (x / 100 % 100)) (n - 4) (x / 10000 % 100)) (n - 6) (x / 1000000 % 100)
/-- What is left, and written, behind q rounds. -/
def st (len u : Nat) : Nat → Nat × (Nat → UInt8)
  | 0 => (u, fun _ => 0)
  | q + 1 => ((st len u q).1 / 100000000, eight (st len u q).2 (len - 8 * q) ((st len u q).1))
def last1 (nd x : Nat) (f : Nat → UInt8) : Nat → UInt8 := if 0 < nd then putAt f 1 (UInt8.ofNat (48 + x)) else f
def last2 (nd x : Nat) (f : Nat → UInt8) : Nat → UInt8 := if 2 ≤ nd then last1 (nd - 2) (x / 100) (duo f nd (x % 100)) else last1 nd x f
def last4 (nd x : Nat) (f : Nat → UInt8) : Nat → UInt8 := if 4 ≤ nd then last2 (nd - 4) (x / 10000) (duo (duo f nd (x % 100)) (nd - 2) (x / 100 % 100)) else last2 nd x f
def written (len u : Nat) : Nat → UInt8 := last4 (len - 8 * (len / 8)) ((st len u (len / 8)).1 % 4294967296) (st len u (len / 8)).2

/-- Twenty-four bytes. -/
def Bytes (w : World) (B : Nat) (f : Nat → UInt8) : Prop := Vec w 103 1 (some ⟨B, 0, none⟩) 24 24 (fun j => .int .u8 ((f j).toNat : Int))
theorem Bytes.cells {w : World} {B : Nat} {f : Nat → UInt8} (h : Bytes w B f) : (∀ t, t < 23 → w.cell? ⟨B, 1 + t, none⟩ = some (.int .u8 ((f (1 + t)).toNat : Int))) ∧ ∀ t, t < 23 → w.frozen? ⟨B, 1 + t, none⟩ = false := by
  obtain ⟨B', e, _, hc, hf, _⟩ := Vec.opens h (by decide)
  cases e
  exact ⟨fun t ht => hc (1 + t) (by omega), fun t _ => hf _⟩
theorem Bytes.cells0 {w : World} {B : Nat} {f : Nat → UInt8} (h : Bytes w B f) : (∀ t, t < 24 → w.cell? ⟨B, t, none⟩ = some (.int .u8 ((f t).toNat : Int))) ∧ ∀ t, t < 24 → w.frozen? ⟨B, t, none⟩ = false := by
  obtain ⟨B', e, _, hc, hf, _⟩ := Vec.opens h (by decide)
  cases e
  exact ⟨fun t ht => hc t (by omega), fun t _ => hf _⟩
theorem Bytes.put {w : World} {B : Nat} {f : Nat → UInt8} (h : Bytes w B f) (k i : Nat) (z : UInt8) (hi : i = k) : Bytes (w.setCell ⟨B, i, none⟩ (.int .u8 (z.toNat : Int))) B (putAt f k z) := by
  subst hi
  have := Vec.set h i (.int .u8 (z.toNat : Int))
  refine Vec.congr this (fun j _ => ?_)
  unfold putAt
  split <;> rfl
theorem Bytes.putI {w : World} {B : Nat} {f : Nat → UInt8} (h : Bytes w B f) (k i : Nat) (z : Int) (x : Nat) (hz : z = (((48 + x) % 256 : Nat) : Int)) (hi : i = k) : Bytes (w.setCell ⟨B, i, none⟩ (.int .u8 z)) B (putAt f k (UInt8.ofNat (48 + x))) := by
  have e : ((UInt8.ofNat (48 + x)).toNat : Int) = z := by rw [hz]; simp
  rw [← e]
  exact h.put k i _ hi
theorem Bytes.drew {w : World} {B : Nat} {f : Nat → UInt8} (h : Bytes w B f) : Bytes w.drew B f := h
theorem Bytes.pair {w0 w : World} {B : Nat} {f : Nat → UInt8} (h : Bytes w B f) (o : Out (fun i => i = B) w0 w) (n x i j : Nat) (hi : i = n) (hj : j = n - 1) :
    Bytes ((w.setCell ⟨B, i, none⟩ (.int .u8 ((Lib.sm (x * 2 + 1)).toNat : Int))).setCell ⟨B, j, none⟩ (.int .u8 ((Lib.sm (x * 2)).toNat : Int))).drew B (duo f n x) ∧ Out (fun i => i = B) w0 ((w.setCell ⟨B, i, none⟩ (.int .u8 ((Lib.sm (x * 2 + 1)).toNat : Int))).setCell ⟨B, j, none⟩ (.int .u8 ((Lib.sm (x * 2)).toNat : Int))).drew :=
  ⟨((h.put n i _ hi).put (n - 1) j _ hj).drew, ((o.setCell (a := ⟨B, i, none⟩) rfl _).setCell (a := ⟨B, j, none⟩) rfl _).drew⟩

theorem Bytes.one {w0 w : World} {B : Nat} {f : Nat → UInt8} (h : Bytes w B f) (o : Out (fun i => i = B) w0 w) (z : Int) (x : Nat) (hz : z = (((48 + x) % 256 : Nat) : Int)) :
    Bytes (w.setCell ⟨B, 1, none⟩ (.int .u8 z)) B (last1 1 x f) ∧ Out (fun i => i = B) w0 (w.setCell ⟨B, 1, none⟩ (.int .u8 z)) := by
  exact ⟨h.putI 1 1 z x hz rfl, o.setCell (a := ⟨B, 1, none⟩) rfl _⟩
theorem Bytes.pairOne {w0 w : World} {B : Nat} {f : Nat → UInt8} (h : Bytes w B f) (o : Out (fun i => i = B) w0 w) (n x i j : Nat) (hi : i = n) (hj : j = n - 1) (z : Int) (y : Nat) (hz : z = (((48 + y) % 256 : Nat) : Int)) :
    Bytes (((w.setCell ⟨B, i, none⟩ (.int .u8 ((Lib.sm (x * 2 + 1)).toNat : Int))).setCell ⟨B, j, none⟩ (.int .u8 ((Lib.sm (x * 2)).toNat : Int))).setCell ⟨B, 1, none⟩ (.int .u8 z)).drew B (last1 1 y (duo f n x)) ∧ Out (fun i => i = B) w0 (((w.setCell ⟨B, i, none⟩ (.int .u8 ((Lib.sm (x * 2 + 1)).toNat : Int))).setCell ⟨B, j, none⟩ (.int .u8 ((Lib.sm (x * 2)).toNat : Int))).setCell ⟨B, 1, none⟩ (.int .u8 z)).drew := by
  exact ⟨(((h.put n i _ hi).put (n - 1) j _ hj).putI 1 1 z y hz rfl).drew, (((o.setCell (a := ⟨B, i, none⟩) rfl _).setCell (a := ⟨B, j, none⟩) rfl _).setCell (a := ⟨B, 1, none⟩) rfl _).drew⟩

set_option maxHeartbeats 12800000 in
set_option maxRecDepth 100000 in
theorem format_c (B len u : Nat) (w : World) (hlen : len ≤ 23) (hu : u < 18446744073709551616) (h : Bytes w B (fun _ => 0)) :
    Calls Tryd.prog 63 #[.slice (some ⟨B, 1, none⟩) len 23, .int .u64 u] w fun e w' => e = .returned (.tuple #[]) ∧ Bytes w' B (written len u) ∧ Out (fun i => i = B) w w' := by
  have mixed : Tryd.prog.follows .mixedOrders = true := by kernel_rfl
  go_enter Tryd.func63, Tryd.ntmps63
  go_name_bytes SM hSM
  obtain rfl : SM = Lib.smalls := by rw [← hSM]; decide +kernel
  clear hSM
  go_wp2
  go_loopw [1, 4] (fun vu vn wr => ∃ q v nd : Nat, nd + 8 * q = len ∧ v < 18446744073709551616 ∧ vu = .int .u64 v ∧ vn = .int .i64 nd ∧ Hid (v = (st len u q).1 ∧ Bytes wr B (st len u q).2 ∧ Out (fun i => i = B) w wr)) (fun _ vn _ => (RowKit.intOf vn).toNat)
  case atStart => exact ⟨0, u, len, by omega, hu, rfl, rfl, rfl, h, Out.refl _ _⟩
  case round =>
    obtain ⟨q, v, nd, hnd, hv64, rfl, rfl, HQ⟩ := hrel
    rename World => W0
    obtain ⟨f0, hf0⟩ : ∃ f, f = (st len u q).2 := ⟨_, rfl⟩
    have HB0 : Hid (Bytes W0 B f0 ∧ Out (fun i => i = B) w W0) := by rw [hf0]; exact HQ.out.2
    have HV : Hid (v = (st len u q).1) := HQ.out.1
    have HF0 : Hid (f0 = (st len u q).2) := hf0
    clear HQ hf0 h
    by_cases h8 : 8 ≤ nd
    · obtain ⟨m, rfl⟩ : ∃ m, nd = m + 8 := ⟨nd - 8, by omega⟩
      go_wp2
      obtain ⟨hc0, hz0⟩ := HB0.out.1.cells
      go_name_slot 9 x0 hx0
      have hxe0 : x0 = ((v % 100 * 2 : Nat) : Int) := by omega
      have hXa0 : ∀ w, (Instr.index 9 (.string Lib.smalls) (.int .u32 (x0 + 1))).run Tryd.prog w = .ok (.int .u8 ((Lib.sm (v % 100 * 2 + 1)).toNat : Int)) w := Lib.idx_smalls 9 Tryd.underlying9 .u32 _ _ (by omega) (by omega)
      have hXb0 : ∀ w, (Instr.index 9 (.string Lib.smalls) (.int .u32 x0)).run Tryd.prog w = .ok (.int .u8 ((Lib.sm (v % 100 * 2)).toNat : Int)) w := Lib.idx_smalls 9 Tryd.underlying9 .u32 _ _ (by omega) (by omega)
      have hlo0 : 0 ≤ x0 := by omega
      have hhi0 : x0 ≤ 198 := by omega
      clear hx0 hxe0
      go_region_o
      go_wp2
      go_name_world W1 hW1
      have HB1 : Hid (Bytes W1 B (duo f0 (m + 8) (v % 100)) ∧ Out (fun i => i = B) w W1) := by rw [← hW1]; exact HB0.out.1.pair HB0.out.2 (m + 8) (v % 100) _ _ (by omega) (by omega)
      obtain ⟨f1, hf1⟩ : ∃ f, f = duo f0 (m + 8) (v % 100) := ⟨_, rfl⟩
      rw [← hf1] at HB1
      have HF1 : Hid (f1 = duo f0 (m + 8) (v % 100)) := hf1
      clear hW1 hf1 hc0 hz0 hXa0 hXb0 HB0
      obtain ⟨hc1, hz1⟩ := HB1.out.1.cells
      go_name_slot 8 x1 hx1
      have hxe1 : x1 = ((v / 100 % 100 * 2 : Nat) : Int) := by omega
      have hXa1 : ∀ w, (Instr.index 9 (.string Lib.smalls) (.int .u32 (x1 + 1))).run Tryd.prog w = .ok (.int .u8 ((Lib.sm (v / 100 % 100 * 2 + 1)).toNat : Int)) w := Lib.idx_smalls 9 Tryd.underlying9 .u32 _ _ (by omega) (by omega)
      have hXb1 : ∀ w, (Instr.index 9 (.string Lib.smalls) (.int .u32 x1)).run Tryd.prog w = .ok (.int .u8 ((Lib.sm (v / 100 % 100 * 2)).toNat : Int)) w := Lib.idx_smalls 9 Tryd.underlying9 .u32 _ _ (by omega) (by omega)
      have hlo1 : 0 ≤ x1 := by omega
      have hhi1 : x1 ≤ 198 := by omega
      clear hx1 hxe1
      go_region_o
      go_wp2
      go_name_world W2 hW2
      have HB2 : Hid (Bytes W2 B (duo f1 (m + 8 - 2) (v / 100 % 100)) ∧ Out (fun i => i = B) w W2) := by rw [← hW2]; exact HB1.out.1.pair HB1.out.2 (m + 8 - 2) (v / 100 % 100) _ _ (by omega) (by omega)
      obtain ⟨f2, hf2⟩ : ∃ f, f = duo f1 (m + 8 - 2) (v / 100 % 100) := ⟨_, rfl⟩
      rw [← hf2] at HB2
      have HF2 : Hid (f2 = duo f1 (m + 8 - 2) (v / 100 % 100)) := hf2
      clear hW2 hf2 hc1 hz1 hXa1 hXb1 HB1
      obtain ⟨hc2, hz2⟩ := HB2.out.1.cells
      go_name_slot 11 x2 hx2
      have hxe2 : x2 = ((v / 10000 % 100 * 2 : Nat) : Int) := by omega
      have hXa2 : ∀ w, (Instr.index 9 (.string Lib.smalls) (.int .u32 (x2 + 1))).run Tryd.prog w = .ok (.int .u8 ((Lib.sm (v / 10000 % 100 * 2 + 1)).toNat : Int)) w := Lib.idx_smalls 9 Tryd.underlying9 .u32 _ _ (by omega) (by omega)
      have hXb2 : ∀ w, (Instr.index 9 (.string Lib.smalls) (.int .u32 x2)).run Tryd.prog w = .ok (.int .u8 ((Lib.sm (v / 10000 % 100 * 2)).toNat : Int)) w := Lib.idx_smalls 9 Tryd.underlying9 .u32 _ _ (by omega) (by omega)
      have hlo2 : 0 ≤ x2 := by omega
      have hhi2 : x2 ≤ 198 := by omega
      clear hx2 hxe2
      go_region_o
      go_wp2
      go_name_world W3 hW3
      have HB3 : Hid (Bytes W3 B (duo f2 (m + 8 - 4) (v / 10000 % 100)) ∧ Out (fun i => i = B) w W3) := by rw [← hW3]; exact HB2.out.1.pair HB2.out.2 (m + 8 - 4) (v / 10000 % 100) _ _ (by omega) (by omega)
      obtain ⟨f3, hf3⟩ : ∃ f, f = duo f2 (m + 8 - 4) (v / 10000 % 100) := ⟨_, rfl⟩
      rw [← hf3] at HB3
      have HF3 : Hid (f3 = duo f2 (m + 8 - 4) (v / 10000 % 100)) := hf3
      clear hW3 hf3 hc2 hz2 hXa2 hXb2 HB2
      obtain ⟨hc3, hz3⟩ := HB3.out.1.cells
      go_name_slot 10 x3 hx3
      have hxe3 : x3 = ((v / 1000000 % 100 * 2 : Nat) : Int) := by omega
      have hXa3 : ∀ w, (Instr.index 9 (.string Lib.smalls) (.int .u32 (x3 + 1))).run Tryd.prog w = .ok (.int .u8 ((Lib.sm (v / 1000000 % 100 * 2 + 1)).toNat : Int)) w := Lib.idx_smalls 9 Tryd.underlying9 .u32 _ _ (by omega) (by omega)
      have hXb3 : ∀ w, (Instr.index 9 (.string Lib.smalls) (.int .u32 x3)).run Tryd.prog w = .ok (.int .u8 ((Lib.sm (v / 1000000 % 100 * 2)).toNat : Int)) w := Lib.idx_smalls 9 Tryd.underlying9 .u32 _ _ (by omega) (by omega)
      have hlo3 : 0 ≤ x3 := by omega
      have hhi3 : x3 ≤ 198 := by omega
      clear hx3 hxe3
      go_region_o
      go_wp2
      go_roundw
      case rel =>
        have e4 := HB3.out.1.pair HB3.out.2 (m + 8 - 6) (v / 1000000 % 100) (1 + (m + 1)) (1 + m) (by omega) (by omega)
        have e : (st len u (q + 1)).2 = duo f3 (m + 8 - 6) (v / 1000000 % 100) := by
          rw [HF3.out, HF2.out, HF1.out, HF0.out, HV.out]
          rw [st, show len - 8 * q = m + 8 by omega]
          rfl
        refine ⟨q + 1, v / 100000000, m, by omega, by omega, ?_, by go_num, ?_, ?_⟩
        · first | rfl | go_num
        · rw [st, ← HV.out]
        · rw [e]
          exact e4
      case measure => simp [RowKit.intOf]; omega
    · have hq : q = len / 8 := by omega
      obtain ⟨X, hX⟩ : ∃ X, X = v % 4294967296 := ⟨_, rfl⟩
      have hXv : (v : Int) % 4294967296 = (X : Int) := by omega
      have hX32 : X < 4294967296 := by omega
      have hW : written len u = last4 nd X f0 := by
        rw [written, ← hq, ← HV.out, ← HF0.out, ← hX, show len - 8 * q = nd by omega]
      have HW : Hid (written len u = last4 nd X f0) := hW
      clear hW hX HF0 HV hq
      have hnd8 : nd < 8 := by omega
      match nd, hnd8 with
      | 0, _ =>
        go_wp2
        go_end0
        refine ⟨rfl, ?_⟩
        rw [HW.out]
        exact HB0.out
      | 1, _ =>
        obtain ⟨hc0, hz0⟩ := HB0.out.1.cells0
        go_wp2
        go_end0
        refine ⟨rfl, ?_⟩
        rw [HW.out, show last4 1 X f0 = last1 1 X f0 from rfl]
        exact HB0.out.1.one HB0.out.2 _ X (by omega)
      | 2, _ =>
        go_wp2
        obtain ⟨hc0, hz0⟩ := HB0.out.1.cells0
        go_name_slot 16 x0 hx0
        have hxe0 : x0 = ((X % 100 * 2 : Nat) : Int) := by omega
        have hXa0 : ∀ w, (Instr.index 9 (.string Lib.smalls) (.int .u32 (x0 + 1))).run Tryd.prog w = .ok (.int .u8 ((Lib.sm (X % 100 * 2 + 1)).toNat : Int)) w := Lib.idx_smalls 9 Tryd.underlying9 .u32 _ _ (by omega) (by omega)
        have hXb0 : ∀ w, (Instr.index 9 (.string Lib.smalls) (.int .u32 x0)).run Tryd.prog w = .ok (.int .u8 ((Lib.sm (X % 100 * 2)).toNat : Int)) w := Lib.idx_smalls 9 Tryd.underlying9 .u32 _ _ (by omega) (by omega)
        have hlo0 : 0 ≤ x0 := by omega
        have hhi0 : x0 ≤ 198 := by omega
        clear hx0 hxe0
        go_region_o
        go_wp2
        go_end0
        refine ⟨rfl, ?_⟩
        rw [HW.out]
        have e := HB0.out.1.pair HB0.out.2 2 (X % 100) 2 1 (by omega) (by omega)
        exact e
      | 3, _ =>
        go_wp2
        obtain ⟨hc0, hz0⟩ := HB0.out.1.cells0
        go_name_slot 16 x0 hx0
        have hxe0 : x0 = ((X % 100 * 2 : Nat) : Int) := by omega
        have hXa0 : ∀ w, (Instr.index 9 (.string Lib.smalls) (.int .u32 (x0 + 1))).run Tryd.prog w = .ok (.int .u8 ((Lib.sm (X % 100 * 2 + 1)).toNat : Int)) w := Lib.idx_smalls 9 Tryd.underlying9 .u32 _ _ (by omega) (by omega)
        have hXb0 : ∀ w, (Instr.index 9 (.string Lib.smalls) (.int .u32 x0)).run Tryd.prog w = .ok (.int .u8 ((Lib.sm (X % 100 * 2)).toNat : Int)) w := Lib.idx_smalls 9 Tryd.underlying9 .u32 _ _ (by omega) (by omega)
        have hlo0 : 0 ≤ x0 := by omega
        have hhi0 : x0 ≤ 198 := by omega
        clear hx0 hxe0
        go_region_o
        go_wp2
        go_end0
        refine ⟨rfl, ?_⟩
        rw [HW.out, show last4 3 X f0 = last1 1 (X / 100) (duo f0 3 (X % 100)) from rfl]
        exact HB0.out.1.pairOne HB0.out.2 3 (X % 100) 3 2 (by omega) (by omega) _ (X / 100) (by omega)
      | 4, _ =>
        go_wp2
        obtain ⟨hc0, hz0⟩ := HB0.out.1.cells0
        go_name_slot 15 x0 hx0
        have hxe0 : x0 = ((X % 100 * 2 : Nat) : Int) := by omega
        have hXa0 : ∀ w, (Instr.index 9 (.string Lib.smalls) (.int .u32 (x0 + 1))).run Tryd.prog w = .ok (.int .u8 ((Lib.sm (X % 100 * 2 + 1)).toNat : Int)) w := Lib.idx_smalls 9 Tryd.underlying9 .u32 _ _ (by omega) (by omega)
        have hXb0 : ∀ w, (Instr.index 9 (.string Lib.smalls) (.int .u32 x0)).run Tryd.prog w = .ok (.int .u8 ((Lib.sm (X % 100 * 2)).toNat : Int)) w := Lib.idx_smalls 9 Tryd.underlying9 .u32 _ _ (by omega) (by omega)
        have hlo0 : 0 ≤ x0 := by omega
        have hhi0 : x0 ≤ 198 := by omega
        clear hx0 hxe0
        go_region_o
        go_wp2
        go_name_world W1 hW1
        have HB1 : Hid (Bytes W1 B (duo f0 (4) (X % 100)) ∧ Out (fun i => i = B) w W1) := by rw [← hW1]; exact HB0.out.1.pair HB0.out.2 (4) (X % 100) _ _ (by omega) (by omega)
        obtain ⟨f1, hf1⟩ : ∃ f, f = duo f0 (4) (X % 100) := ⟨_, rfl⟩
        rw [← hf1] at HB1
        have HF1 : Hid (f1 = duo f0 (4) (X % 100)) := hf1
        clear hW1 hf1 hc0 hz0 hXa0 hXb0 HB0
        obtain ⟨hc1, hz1⟩ := HB1.out.1.cells0
        go_name_slot 14 x1 hx1
        have hxe1 : x1 = ((X / 100 % 100 * 2 : Nat) : Int) := by omega
        have hXa1 : ∀ w, (Instr.index 9 (.string Lib.smalls) (.int .u32 (x1 + 1))).run Tryd.prog w = .ok (.int .u8 ((Lib.sm (X / 100 % 100 * 2 + 1)).toNat : Int)) w := Lib.idx_smalls 9 Tryd.underlying9 .u32 _ _ (by omega) (by omega)
        have hXb1 : ∀ w, (Instr.index 9 (.string Lib.smalls) (.int .u32 x1)).run Tryd.prog w = .ok (.int .u8 ((Lib.sm (X / 100 % 100 * 2)).toNat : Int)) w := Lib.idx_smalls 9 Tryd.underlying9 .u32 _ _ (by omega) (by omega)
        have hlo1 : 0 ≤ x1 := by omega
        have hhi1 : x1 ≤ 198 := by omega
        clear hx1 hxe1
        go_region_o
        go_wp2
        go_end0
        refine ⟨rfl, ?_⟩
        rw [HW.out]
        have e := HB1.out.1.pair HB1.out.2 (4 - 2) (X / 100 % 100) 2 1 (by omega) (by omega)
        rw [HF1.out] at e
        exact e
      | 5, _ =>
        go_wp2
        obtain ⟨hc0, hz0⟩ := HB0.out.1.cells0
        go_name_slot 15 x0 hx0
        have hxe0 : x0 = ((X % 100 * 2 : Nat) : Int) := by omega
        have hXa0 : ∀ w, (Instr.index 9 (.string Lib.smalls) (.int .u32 (x0 + 1))).run Tryd.prog w = .ok (.int .u8 ((Lib.sm (X % 100 * 2 + 1)).toNat : Int)) w := Lib.idx_smalls 9 Tryd.underlying9 .u32 _ _ (by omega) (by omega)
        have hXb0 : ∀ w, (Instr.index 9 (.string Lib.smalls) (.int .u32 x0)).run Tryd.prog w = .ok (.int .u8 ((Lib.sm (X % 100 * 2)).toNat : Int)) w := Lib.idx_smalls 9 Tryd.underlying9 .u32 _ _ (by omega) (by omega)
        have hlo0 : 0 ≤ x0 := by omega
        have hhi0 : x0 ≤ 198 := by omega
        clear hx0 hxe0
        go_region_o
        go_wp2
        go_name_world W1 hW1
        have HB1 : Hid (Bytes W1 B (duo f0 (5) (X % 100)) ∧ Out (fun i => i = B) w W1) := by rw [← hW1]; exact HB0.out.1.pair HB0.out.2 (5) (X % 100) _ _ (by omega) (by omega)
        obtain ⟨f1, hf1⟩ : ∃ f, f = duo f0 (5) (X % 100) := ⟨_, rfl⟩
        rw [← hf1] at HB1
        have HF1 : Hid (f1 = duo f0 (5) (X % 100)) := hf1
        clear hW1 hf1 hc0 hz0 hXa0 hXb0 HB0
        obtain ⟨hc1, hz1⟩ := HB1.out.1.cells0
        go_name_slot 14 x1 hx1
        have hxe1 : x1 = ((X / 100 % 100 * 2 : Nat) : Int) := by omega
        have hXa1 : ∀ w, (Instr.index 9 (.string Lib.smalls) (.int .u32 (x1 + 1))).run Tryd.prog w = .ok (.int .u8 ((Lib.sm (X / 100 % 100 * 2 + 1)).toNat : Int)) w := Lib.idx_smalls 9 Tryd.underlying9 .u32 _ _ (by omega) (by omega)
        have hXb1 : ∀ w, (Instr.index 9 (.string Lib.smalls) (.int .u32 x1)).run Tryd.prog w = .ok (.int .u8 ((Lib.sm (X / 100 % 100 * 2)).toNat : Int)) w := Lib.idx_smalls 9 Tryd.underlying9 .u32 _ _ (by omega) (by omega)
        have hlo1 : 0 ≤ x1 := by omega
        have hhi1 : x1 ≤ 198 := by omega
        clear hx1 hxe1
        go_region_o
        go_wp2
        go_end0
        refine ⟨rfl, ?_⟩
        rw [HW.out, show last4 5 X f0 = last1 1 (X / 10000) (duo f1 (5 - 2) (X / 100 % 100)) from by rw [HF1.out]; rfl]
        exact HB1.out.1.pairOne HB1.out.2 (5 - 2) (X / 100 % 100) 3 2 (by omega) (by omega) _ (X / 10000) (by omega)
      | 6, _ =>
        go_wp2
        obtain ⟨hc0, hz0⟩ := HB0.out.1.cells0
        go_name_slot 15 x0 hx0
        have hxe0 : x0 = ((X % 100 * 2 : Nat) : Int) := by omega
        have hXa0 : ∀ w, (Instr.index 9 (.string Lib.smalls) (.int .u32 (x0 + 1))).run Tryd.prog w = .ok (.int .u8 ((Lib.sm (X % 100 * 2 + 1)).toNat : Int)) w := Lib.idx_smalls 9 Tryd.underlying9 .u32 _ _ (by omega) (by omega)
        have hXb0 : ∀ w, (Instr.index 9 (.string Lib.smalls) (.int .u32 x0)).run Tryd.prog w = .ok (.int .u8 ((Lib.sm (X % 100 * 2)).toNat : Int)) w := Lib.idx_smalls 9 Tryd.underlying9 .u32 _ _ (by omega) (by omega)
        have hlo0 : 0 ≤ x0 := by omega
        have hhi0 : x0 ≤ 198 := by omega
        clear hx0 hxe0
        go_region_o
        go_wp2
        go_name_world W1 hW1
        have HB1 : Hid (Bytes W1 B (duo f0 (6) (X % 100)) ∧ Out (fun i => i = B) w W1) := by rw [← hW1]; exact HB0.out.1.pair HB0.out.2 (6) (X % 100) _ _ (by omega) (by omega)
        obtain ⟨f1, hf1⟩ : ∃ f, f = duo f0 (6) (X % 100) := ⟨_, rfl⟩
        rw [← hf1] at HB1
        have HF1 : Hid (f1 = duo f0 (6) (X % 100)) := hf1
        clear hW1 hf1 hc0 hz0 hXa0 hXb0 HB0
        obtain ⟨hc1, hz1⟩ := HB1.out.1.cells0
        go_name_slot 14 x1 hx1
        have hxe1 : x1 = ((X / 100 % 100 * 2 : Nat) : Int) := by omega
        have hXa1 : ∀ w, (Instr.index 9 (.string Lib.smalls) (.int .u32 (x1 + 1))).run Tryd.prog w = .ok (.int .u8 ((Lib.sm (X / 100 % 100 * 2 + 1)).toNat : Int)) w := Lib.idx_smalls 9 Tryd.underlying9 .u32 _ _ (by omega) (by omega)
        have hXb1 : ∀ w, (Instr.index 9 (.string Lib.smalls) (.int .u32 x1)).run Tryd.prog w = .ok (.int .u8 ((Lib.sm (X / 100 % 100 * 2)).toNat : Int)) w := Lib.idx_smalls 9 Tryd.underlying9 .u32 _ _ (by omega) (by omega)
        have hlo1 : 0 ≤ x1 := by omega
        have hhi1 : x1 ≤ 198 := by omega
        clear hx1 hxe1
        go_region_o
        go_wp2
        go_name_world W2 hW2
        have HB2 : Hid (Bytes W2 B (duo f1 (6 - 2) (X / 100 % 100)) ∧ Out (fun i => i = B) w W2) := by rw [← hW2]; exact HB1.out.1.pair HB1.out.2 (6 - 2) (X / 100 % 100) _ _ (by omega) (by omega)
        obtain ⟨f2, hf2⟩ : ∃ f, f = duo f1 (6 - 2) (X / 100 % 100) := ⟨_, rfl⟩
        rw [← hf2] at HB2
        have HF2 : Hid (f2 = duo f1 (6 - 2) (X / 100 % 100)) := hf2
        clear hW2 hf2 hc1 hz1 hXa1 hXb1 HB1
        obtain ⟨hc2, hz2⟩ := HB2.out.1.cells0
        go_name_slot 16 x2 hx2
        have hxe2 : x2 = ((X / 10000 % 100 * 2 : Nat) : Int) := by omega
        have hXa2 : ∀ w, (Instr.index 9 (.string Lib.smalls) (.int .u32 (x2 + 1))).run Tryd.prog w = .ok (.int .u8 ((Lib.sm (X / 10000 % 100 * 2 + 1)).toNat : Int)) w := Lib.idx_smalls 9 Tryd.underlying9 .u32 _ _ (by omega) (by omega)
        have hXb2 : ∀ w, (Instr.index 9 (.string Lib.smalls) (.int .u32 x2)).run Tryd.prog w = .ok (.int .u8 ((Lib.sm (X / 10000 % 100 * 2)).toNat : Int)) w := Lib.idx_smalls 9 Tryd.underlying9 .u32 _ _ (by omega) (by omega)
        have hlo2 : 0 ≤ x2 := by omega
        have hhi2 : x2 ≤ 198 := by omega
        clear hx2 hxe2
        go_region_o
        go_wp2
        go_end0
        refine ⟨rfl, ?_⟩
        rw [HW.out]
        have e := HB2.out.1.pair HB2.out.2 2 (X / 10000 % 100) 2 1 (by omega) (by omega)
        rw [HF2.out] at e
        rw [HF1.out] at e
        exact e
      | 7, _ =>
        go_wp2
        obtain ⟨hc0, hz0⟩ := HB0.out.1.cells0
        go_name_slot 15 x0 hx0
        have hxe0 : x0 = ((X % 100 * 2 : Nat) : Int) := by omega
        have hXa0 : ∀ w, (Instr.index 9 (.string Lib.smalls) (.int .u32 (x0 + 1))).run Tryd.prog w = .ok (.int .u8 ((Lib.sm (X % 100 * 2 + 1)).toNat : Int)) w := Lib.idx_smalls 9 Tryd.underlying9 .u32 _ _ (by omega) (by omega)
        have hXb0 : ∀ w, (Instr.index 9 (.string Lib.smalls) (.int .u32 x0)).run Tryd.prog w = .ok (.int .u8 ((Lib.sm (X % 100 * 2)).toNat : Int)) w := Lib.idx_smalls 9 Tryd.underlying9 .u32 _ _ (by omega) (by omega)
        have hlo0 : 0 ≤ x0 := by omega
        have hhi0 : x0 ≤ 198 := by omega
        clear hx0 hxe0
        go_region_o
        go_wp2
        go_name_world W1 hW1
        have HB1 : Hid (Bytes W1 B (duo f0 (7) (X % 100)) ∧ Out (fun i => i = B) w W1) := by rw [← hW1]; exact HB0.out.1.pair HB0.out.2 (7) (X % 100) _ _ (by omega) (by omega)
        obtain ⟨f1, hf1⟩ : ∃ f, f = duo f0 (7) (X % 100) := ⟨_, rfl⟩
        rw [← hf1] at HB1
        have HF1 : Hid (f1 = duo f0 (7) (X % 100)) := hf1
        clear hW1 hf1 hc0 hz0 hXa0 hXb0 HB0
        obtain ⟨hc1, hz1⟩ := HB1.out.1.cells0
        go_name_slot 14 x1 hx1
        have hxe1 : x1 = ((X / 100 % 100 * 2 : Nat) : Int) := by omega
        have hXa1 : ∀ w, (Instr.index 9 (.string Lib.smalls) (.int .u32 (x1 + 1))).run Tryd.prog w = .ok (.int .u8 ((Lib.sm (X / 100 % 100 * 2 + 1)).toNat : Int)) w := Lib.idx_smalls 9 Tryd.underlying9 .u32 _ _ (by omega) (by omega)
        have hXb1 : ∀ w, (Instr.index 9 (.string Lib.smalls) (.int .u32 x1)).run Tryd.prog w = .ok (.int .u8 ((Lib.sm (X / 100 % 100 * 2)).toNat : Int)) w := Lib.idx_smalls 9 Tryd.underlying9 .u32 _ _ (by omega) (by omega)
        have hlo1 : 0 ≤ x1 := by omega
        have hhi1 : x1 ≤ 198 := by omega
        clear hx1 hxe1
        go_region_o
        go_wp2
        go_name_world W2 hW2
        have HB2 : Hid (Bytes W2 B (duo f1 (7 - 2) (X / 100 % 100)) ∧ Out (fun i => i = B) w W2) := by rw [← hW2]; exact HB1.out.1.pair HB1.out.2 (7 - 2) (X / 100 % 100) _ _ (by omega) (by omega)
        obtain ⟨f2, hf2⟩ : ∃ f, f = duo f1 (7 - 2) (X / 100 % 100) := ⟨_, rfl⟩
        rw [← hf2] at HB2
        have HF2 : Hid (f2 = duo f1 (7 - 2) (X / 100 % 100)) := hf2
        clear hW2 hf2 hc1 hz1 hXa1 hXb1 HB1
        obtain ⟨hc2, hz2⟩ := HB2.out.1.cells0
        go_name_slot 16 x2 hx2
        have hxe2 : x2 = ((X / 10000 % 100 * 2 : Nat) : Int) := by omega
        have hXa2 : ∀ w, (Instr.index 9 (.string Lib.smalls) (.int .u32 (x2 + 1))).run Tryd.prog w = .ok (.int .u8 ((Lib.sm (X / 10000 % 100 * 2 + 1)).toNat : Int)) w := Lib.idx_smalls 9 Tryd.underlying9 .u32 _ _ (by omega) (by omega)
        have hXb2 : ∀ w, (Instr.index 9 (.string Lib.smalls) (.int .u32 x2)).run Tryd.prog w = .ok (.int .u8 ((Lib.sm (X / 10000 % 100 * 2)).toNat : Int)) w := Lib.idx_smalls 9 Tryd.underlying9 .u32 _ _ (by omega) (by omega)
        have hlo2 : 0 ≤ x2 := by omega
        have hhi2 : x2 ≤ 198 := by omega
        clear hx2 hxe2
        go_region_o
        go_wp2
        go_end0
        refine ⟨rfl, ?_⟩
        rw [HW.out, show last4 7 X f0 = last1 1 (X / 10000 / 100) (duo f2 3 (X / 10000 % 100)) from by rw [HF2.out, HF1.out]; rfl]
        exact HB2.out.1.pairOne HB2.out.2 3 (X / 10000 % 100) 3 2 (by omega) (by omega) _ (X / 10000 / 100) (by push_cast; rfl)
end Go.Proofs.YtigmjgmkeoineaaDoor
