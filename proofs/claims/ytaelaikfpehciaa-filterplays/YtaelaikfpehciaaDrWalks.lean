/-
  What New, Size, Clear, Ones, bitAt, bitsOf, areOn and turnOn of package door do when they are called.
-/
import Derived.Test.YtaelaikfpehciaaDrMem
namespace Go.Proofs.Ytaelaikfpehciaa
open Go.RowKit Go.Deep

/-- A door at the blocks b (its words) and b + 1. -/
def Dr (w : World) (b : Nat) (seed : Int) (m : Nat) (f : Nat → BitVec 64) : Prop :=
  Ow w b 60 69 seed m (fun k => .int .u64 (U (f k)))
/-- A key's place. -/
def Q (x : BitVec 64) (i m : Nat) : Nat := (indexI x i (64 * (m : Int))).toNat
theorem Q_eq (x : BitVec 64) (i m : Nat) (h : 1 ≤ m) : indexI x i (64 * (m : Int)) = (Q x i m : Int) := by
  have := index_bd x i (64 * (m : Int)) (by omega)
  unfold Q; omega
theorem Q_lt (x : BitVec 64) (i m : Nat) (h : 1 ≤ m) : Q x i m < 64 * m := by
  have := index_bd x i (64 * (m : Int)) (by omega)
  unfold Q; omega

variable {w : World} {b m : Nat} {seed : Int} {f : Nat → BitVec 64}

theorem dSize_any (h : Dr w b seed m f) (hm : m ≤ 8192) :
    Calls Try.prog 47 #[ptr (b + 1)] w fun e w' => e = .returned (.int .i64 (64 * (m : Int))) ∧ w' = w := by
  have c1 := Ow.cell1 h
  unfold ptr
  go_enter Try.func47, Try.ntmps47
  go_wp2
  go_ret
  exact ⟨rfl, rfl⟩

theorem Try.infoW : (Try.prog.info? 69).map (fun i => (i.zero, i.size, i.bytes)) = some (some (.int .u64 0), 1, 8) := by kernel_rfl
theorem dNew_any (width seed : Int) (w : World) (m : Nat) (h1 : m ≤ 8192) (hm : 8 * ceilI width 16 65536 = 64 * (m : Int)) :
    Calls Try.prog 17 #[.int .i64 width, .int .i64 seed] w fun e w' => e = .returned (ptr (w.heap.size + 1)) ∧ Dr w' w.heap.size seed m (fun _ => 0#64) ∧ Grown w w' := by
  obtain ⟨c, hc⟩ : ∃ c, c = ceilI width 16 65536 := ⟨_, rfl⟩
  have ce := fun w => ceil_any width 16 65536 w (by decide) (by decide)
  rw [← hc] at hm
  simp only [← hc] at ce
  have hdiv : 8 * c / 64 = (m : Int) := by omega
  have hb1 : 0 ≤ 8 * c := by omega
  have hb2 : 8 * c ≤ 524288 := by omega
  have hmk := run_make_row' (P := Try.prog) 55 69 (.int .u64 0) 8 Try.underlying55 Try.infoW rfl .i64 .i64 m (by omega) (by omega)
  clear hc hm
  go_enter Try.func17, Try.ntmps17
  go_wp2_with (go_at_call 31; refine (ce _).mono ?_; rintro e w' ⟨rfl, rfl⟩)
  go_ret
  exact ⟨rfl, Ow.made _ _ _ seed m (.int .u64 0), ((Grown.refl _).alloc _ _).alloc _ _⟩

theorem U_shr1 (x : BitVec 64) : U x / (2 : Int) = U (x >>> 1) := U_shr x 1
theorem U_shr2 (x : BitVec 64) : U x / (4 : Int) = U (x >>> 2) := U_shr x 2
theorem U_shr4 (x : BitVec 64) : U x / (16 : Int) = U (x >>> 4) := U_shr x 4
theorem U_shr8 (x : BitVec 64) : U x / (256 : Int) = U (x >>> 8) := U_shr x 8
theorem U_shr16 (x : BitVec 64) : U x / (65536 : Int) = U (x >>> 16) := U_shr x 16
theorem U_shr32 (x : BitVec 64) : U x / (4294967296 : Int) = U (x >>> 32) := U_shr x 32
theorem and127 (y : BitVec 64) : bits .and .i64 (wrap64 (U y)) 127 = ((y.toNat % 128 : Nat) : Int) := by
  have g : bits .and .i64 (wrap64 (U y)) 127 = IntKind.i64.wrap ((B (wrap64 (U y)) &&& 127#64).toNat : Int) := rfl
  rw [g, wrap64_toInt, B_toInt, B_U]
  have h : (y &&& 127#64).toNat = y.toNat % 128 := by
    rw [BitVec.toNat_and]; exact Nat.and_two_pow_sub_one_eq_mod y.toNat 7
  rw [h]; simp [IntKind.wrap, IntKind.signed, IntKind.bits]; omega
theorem zeroW (w : World) : (zeroValue 69).run Try.prog w = .ok (.int .u64 0) w := by kernel_rfl
theorem dClear_any (h : Dr w b seed m f) (h1 : 1 ≤ m) :
    Calls Try.prog 38 #[ptr (b + 1)] w fun e w' => e = .returned (.tuple #[]) ∧ Dr w' b seed m (fun _ => 0#64) ∧ Off b 2 w w' := by
  have c1 := Ow.cell1 h
  have hcl : ∀ ty, (Builtin.clear_ #[55] ty #[.slice (some ⟨b, 0, none⟩) m m]).run Try.prog w = .ok (.tuple #[]) (w.setCells b 0 (List.replicate m (.int .u64 0))) :=
    fun ty => Lib.run_clear_slice w 55 69 ty (.int .u64 0) Try.underlying55 zeroW rfl rfl b 0 m m (by omega) (fun j hj => by rw [Nat.zero_add, Ow.cellV h hj]; rfl) (fun j _ => Ow.frozenV h _)
  unfold ptr
  go_enter Try.func38, Try.ntmps38
  go_wp2_with (simp only [hcl])
  go_end0
  exact ⟨rfl, Ow.wipe h _, off_wipe _ _ _ _ _ (Off.refl _ _ _)⟩

theorem onesW_bd (f : Nat → BitVec 64) (k : Nat) : onesW f k ≤ 64 * k := by rw [cn_words]; exact cn_le _ _
theorem bitAt_any (p : Nat) (w : World) :
    Calls Try.prog 48 #[.int .i64 p] w fun e w' => e = .returned (.int .u64 (U (1#64 <<< (p % 64)))) ∧ w' = w := by
  have hr : p % 64 < 64 := Nat.mod_lt _ (by decide)
  have he : IntKind.u64.wrap (1 * 2 ^ (p % 64)) = U (1#64 <<< (p % 64)) := U_shl 1#64 (p % 64)
  obtain ⟨r, hre⟩ : ∃ r, r = p % 64 := ⟨_, rfl⟩
  have hi : (p : Int) % 64 = r := by omega
  rw [← hre] at hr he ⊢
  clear hre
  go_enter Try.func48, Try.ntmps48
  go_wp2
  go_ret
  exact ⟨ret_int (by first | exact he | (rw [← he]; congr 1; omega)), rfl⟩
end Go.Proofs.Ytaelaikfpehciaa
