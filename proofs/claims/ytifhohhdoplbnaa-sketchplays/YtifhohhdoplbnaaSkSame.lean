/-
  A sketch and the document's that have the same width, samples and counters are told alike.
-/
import Derived.Test.YtifhohhdoplbnaaSkRefAdd
namespace Go.Proofs.Ytifhohhdoplbnaa
open Go.RowKit Go.Deep

variable {w : World} {b m : Nat} {seed n : Int} {c : Nat → Nat → Int}

theorem ints_any {ra rb M : Nat} {g : Nat → Int} (ha : w.rowIs ra 3 M (fun j => .int .i64 (g j))) (hb : w.rowIs rb 3 M (fun j => .int .i64 (g j))) (hM : M ≤ 65536) :
    Calls Try.prog 27 #[.slice (some ⟨ra, 0, none⟩) M M, .slice (some ⟨rb, 0, none⟩) M M] w fun e w' => e = .returned (.bool true) ∧ ∃ d, w' = w.drewN d := by
  go_enter Try.func27, Try.ntmps27
  go_wp2
  go_loopw [5] (fun i wr => ∃ k d : Nat, k ≤ M ∧ i = .int .i64 k ∧ wr = w.drewN d) (fun i _ => M - (intOf i).toNat)
  case atStart => exact ⟨0, 0, by omega, rfl, rfl⟩
  case round =>
    obtain ⟨k, d, hk, rfl, rfl⟩ := hrel
    by_cases hlt : k < M
    · have c1 := ha.cell hlt
      have c2 := hb.cell hlt
      go_wp2
      go_quiet (fail)
      go_wp2
      go_roundw
      case rel => exact ⟨k + 1, _, by omega, by go_num, rfl⟩
      case measure => simp [intOf]; omega
    · obtain rfl : k = M := by omega
      go_wp2
      go_ret
      exact ⟨rfl, _, rfl⟩

theorem skc_drewN (h : Skc w b seed n m c) (d : Nat) : Skc (w.drewN d) b seed n m c := h.grown (grownDrewN (Grown.refl _) d)

set_option maxHeartbeats 2000000 in
theorem same_any {b2 : Nat} {seed2 : Int} (hx : Skc w b seed n m c) (hy : Rf w b2 seed2 n (16 * m) c) (hm : m ≤ 4096) :
    Calls Try.prog 16 #[ptr b, ptr b2] w fun e w' => e = .returned (.bool true) ∧ Grown w w' := by
  have c0 : w.cell? ⟨b2, 0, none⟩ = some (.int .i64 (16 * (m : Int))) := by
    have := Tb.cellH hy (k := 0) rfl
    exact this.trans (by show some (Value.int .i64 ((16 * m : Nat) : Int)) = _; rw [Int.natCast_mul]; rfl)
  have c2 : w.cell? ⟨b2, 2, none⟩ = some (.int .i64 n) := Tb.cellH hy (k := 2) rfl
  have hb1 : (16 * (m : Int) != 16 * (m : Int)) = false := by simp
  have hb2 : (n != n) = false := by simp
  unfold ptr
  go_enter Try.func16, Try.ntmps16
  go_wp2
  go_quiet (first | (go_at_call 19; exact Calls.quiet_of_same (width_c (skc_drewN hx _) hm)) | (go_at_call 18; exact Calls.quiet_of_same (samples_c (skc_drewN hx _))))
  go_wp2
  go_loopw [5] (fun i wr => ∃ k : Nat, k ≤ 4 ∧ i = .int .i64 k ∧ Skc wr b seed n m c ∧ Rf wr b2 seed2 n (16 * m) c ∧ Grown w wr) (fun i _ => 4 - (intOf i).toNat)
  case atStart => exact ⟨0, by omega, rfl, skc_drewN hx _, rf_drewN hy _, grownDrewN (Grown.refl _) _⟩
  case round =>
    clear hx hy c0 c2
    obtain ⟨k, hk, rfl, hx, hy, hg⟩ := hrel
    by_cases hlt : k < 4
    · have c1 : wr.cell? ⟨b2, 3 + k, none⟩ = some (.slice (some ⟨b2 + 1 + k, 0, none⟩) (16 * m) (16 * m)) := Tb.cellR hy hlt
      have HY : Hid (Rf wr b2 seed2 n (16 * m) c) := hy
      have HX : Hid (Skc wr b seed n m c) := hx
      clear hx hy
      go_wp2
      go_region_with (first | (go_at_call 17; refine (row_c (b := b) (n := n) (seed := seed) (c := c) (by first | exact HX.out | exact skc_drewN HX.out 1) hm k hlt).mono ?_; rintro e w2 ⟨rfl, hr, hg2⟩; have c2 : w2.cell? ⟨b2, 3 + k, none⟩ = some (.slice (some ⟨b2 + 1 + k, 0, none⟩) (16 * m) (16 * m)) := Tb.cellR (Tb.grown HY.out hg2) hlt) | (go_at_call 27; refine (ints_any (by assumption) (by first | exact (Tb.grown HY.out hg2).row k hlt) (by omega)).mono ?_; rintro e w3 ⟨rfl, d, hw⟩; subst hw))
      all_goals
        go_wp2
        go_roundw
        case rel => exact ⟨k + 1, by omega, by go_num, skc_drewN (HX.out.grown hg2) d, rf_drewN (Tb.grown HY.out hg2) d, grownDrewN (grownTrans hg hg2) d⟩
        case measure => simp [intOf]; omega
    · obtain rfl : k = 4 := by omega
      go_wp2
      go_ret
      exact ⟨rfl, hg⟩
end Go.Proofs.Ytifhohhdoplbnaa
