/-
  What Width, Samples and New of package sketch do when they are called.
-/
import Derived.Test.YtaelaikfpehciaaSkMem
namespace Go.Proofs.Ytaelaikfpehciaa
open Go.RowKit Go.Deep

/-- A sketch at block b: its seed, its samples, its rows of m words. -/
def Sk (w : World) (b : Nat) (seed n : Int) (m : Nat) (f : Nat → Nat → BitVec 64) : Prop :=
  Tb w b 58 69 #[.int .i64 seed, .int .i64 n] m (fun i k => .int .u64 (U (f i k)))
/-- The document's: its width, seed and samples, its rows of numbers. -/
def Rf (w : World) (b : Nat) (seed n : Int) (m : Nat) (c : Nat → Nat → Int) : Prop :=
  Tb w b 50 3 #[.int .i64 (m : Int), .int .i64 seed, .int .i64 n] m (fun i k => .int .i64 (c i k))
theorem width_any {w : World} {b : Nat} {seed n : Int} {m : Nat} {f : Nat → Nat → BitVec 64} (h : Sk w b seed n m f) (hm : m ≤ 4096) :
    Calls Try.prog 18 #[ptr b] w fun e w' => e = .returned (.int .i64 (16 * (m : Int))) ∧ w' = w := by
  have c1 : w.cell? ⟨b, 2, none⟩ = some (.slice (some ⟨b + 1, 0, none⟩) m m) := Tb.cellR h (i := 0) (by omega)
  unfold ptr
  go_enter Try.func18, Try.ntmps18
  go_wp2
  go_ret
  exact ⟨rfl, rfl⟩
theorem Try.infoU : (Try.prog.info? 69).map (fun i => (i.zero, i.size, i.bytes)) = some (some (.int .u64 0), 1, 8) := by kernel_rfl
theorem new_any (cap seed : Int) (w : World) (m : Nat) (h1 : m ≤ 4096) (hm : ceilI cap 16 65536 = 16 * (m : Int)) :
    Calls Try.prog 16 #[.int .i64 cap, .int .i64 seed] w fun e w' => e = .returned (ptr w.heap.size) ∧ Sk w' w.heap.size seed 0 m (fun _ _ => 0#64) ∧ Grown w w' := by
  have hdiv : ceilI cap 16 65536 / 16 = (m : Int) := by omega
  go_enter Try.func16, Try.ntmps16
  go_wp2_with (go_at_call 31; refine (ceil_any _ _ _ _ (by decide) (by decide)).mono ?_; rintro e w' ⟨rfl, rfl⟩)
  go_loopw [14] (fun i wr => ∃ k : Nat, k ≤ 4 ∧ i = .int .i64 k ∧ TbK wr w'.heap.size 58 69 #[.int .i64 seed, .int .i64 0] m (.int .u64 0) k ∧ Grown w' wr) (fun i _ => 4 - (intOf i).toNat)
  case atStart => exact ⟨0, by omega, rfl, TbK.start w' _ _ #[.int .i64 seed, .int .i64 0] m (.int .u64 0), (Grown.refl _).alloc _ _⟩
  case round =>
    obtain ⟨k, hk, rfl, ht, hg⟩ := hrel
    by_cases hlt : k < 4
    · have hfa := ht.frozen (2 + k)
      have hca : ∀ o, (wr.alloc o).cell? ⟨w'.heap.size, 2 + k, none⟩ = some (.slice none 0 0) := fun o => ht.cell hlt o
      have hmk := run_make_row' (P := Try.prog) 55 69 (.int .u64 0) 8 Try.underlying55 Try.infoU rfl .i64 .i64 m (by omega) (by omega)
      go_wp2
      go_region
      all_goals (try go_wp2)
      all_goals go_roundw
      case rel => exact ⟨k + 1, by omega, by go_num, (ht.next hlt).draw, ((hg.alloc _ _).setCell (Nat.le_refl _) _).drew⟩
      case measure => simp [intOf]; omega
    · obtain rfl : k = 4 := by omega
      go_wp2
      go_ret
      exact ⟨rfl, ht.full, hg⟩

theorem Try.infoI : (Try.prog.info? 3).map (fun i => (i.zero, i.size, i.bytes)) = some (some (.int .i64 0), 1, 8) := by kernel_rfl
theorem refNew_any (cap seed : Int) (w : World) (m : Nat) (h1 : m ≤ 65536) (hm : ceilI cap 16 65536 = (m : Int)) :
    Calls Try.prog 19 #[.int .i64 cap, .int .i64 seed] w fun e w' => e = .returned (ptr w.heap.size) ∧ Rf w' w.heap.size seed 0 m (fun _ _ => 0) ∧ Grown w w' := by
  go_enter Try.func19, Try.ntmps19
  go_wp2_with (go_at_call 32; refine (refCeil_any _ _ _ _ (by decide) (by decide) (by decide) (by decide)).mono ?_; rintro e w' ⟨rfl, rfl⟩)
  go_loopw [7] (fun i wr => ∃ k : Nat, k ≤ 4 ∧ i = .int .i64 k ∧ TbK wr w'.heap.size 50 3 #[.int .i64 (m : Int), .int .i64 seed, .int .i64 0] m (.int .i64 0) k ∧ Grown w' wr) (fun i _ => 4 - (intOf i).toNat)
  case atStart => exact ⟨0, by omega, rfl, TbK.start w' _ _ #[.int .i64 (m : Int), .int .i64 seed, .int .i64 0] m (.int .i64 0), (Grown.refl _).alloc _ _⟩
  case round =>
    obtain ⟨k, hk, rfl, ht, hg⟩ := hrel
    by_cases hlt : k < 4
    · have hfa := ht.frozen (3 + k)
      have hca : ∀ o, (wr.alloc o).cell? ⟨w'.heap.size, 3 + k, none⟩ = some (.slice none 0 0) := fun o => ht.cell hlt o
      have hmk := run_make_row' (P := Try.prog) 22 3 (.int .i64 0) 8 Try.underlying22 Try.infoI rfl .i64 .i64 m (by omega) (by omega)
      go_wp2
      go_region
      all_goals (try go_wp2)
      all_goals go_roundw
      case rel => exact ⟨k + 1, by omega, by go_num, (ht.next hlt).draw, ((hg.alloc _ _).setCell (Nat.le_refl _) _).drew⟩
      case measure => simp [intOf]; omega
    · obtain rfl : k = 4 := by omega
      go_wp2
      go_ret
      exact ⟨rfl, ht.full, hg⟩
end Go.Proofs.Ytaelaikfpehciaa
