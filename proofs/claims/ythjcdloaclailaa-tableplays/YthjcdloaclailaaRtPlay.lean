/-
  What the statement that plays the two tables side by side wants besides: entries compared, small numbers' bits. No condition but those told at each sentence.
-/
import Derived.Test.YthjcdloaclailaaRtTop
namespace Go.Proofs.Ythjcdloaclailaa.Tb
open Go.RowKit Go.Deep Us
variable {W w w' : World} {t : Tab} {u : Rt} {X Y k : Nat} {l : List Ob} {i c n : Nat} {p : Option Addr}

theorem eqEn (a b c d x y z u : Int) (w : World) : (Op.equalIn 10000 30 (.agg #[.int .i64 a, .int .i64 b, .int .i64 c, .int .i64 d]) (.agg #[.int .i64 x, .int .i64 y, .int .i64 z, .int .i64 u])).run Try.prog w = .ok (a == x && b == y && c == z && d == u) w := by
  have u3 := Try.underlying3
  have a3 := Try.isAgg3
  have z3 := Try.sizeOf3
  rw [show (10000 : Nat) = 9999 + 1 from rfl, Op.equalIn]
  simp only [Sem.run_bind, run_underlying Try.underlying30, Result.andThen_ok]
  go_simp
  by_cases h : a = x <;> by_cases k : b = y <;> by_cases l : c = z <;> by_cases m : d = u <;> simp [h, k, l, m]
theorem guardEn : Try.prog.eqGuardType Try.prog.depth 30 = false := by kernel_rfl
theorem and3_mod (n : Int) : bits .and .i64 n 3 = n % 4 := by
  have g : bits .and .i64 n 3 = IntKind.i64.wrap ((BitVec.ofInt 64 n &&& 3#64).toNat : Int) := rfl
  have h1 : (BitVec.ofInt 64 n &&& 3#64).toNat = (n % 4).toNat := by
    rw [BitVec.toNat_and, show (3#64).toNat = 2 ^ 2 - 1 from rfl, Nat.and_two_pow_sub_one_eq_mod, BitVec.toNat_ofInt]
    omega
  rw [g, h1, IntKind.wrap_i64]
  omega
theorem and3 (n : Int) : bits .and .i64 n 3 = 0 ∨ bits .and .i64 n 3 = 1 ∨ bits .and .i64 n 3 = 2 ∨ bits .and .i64 n 3 = 3 := by rw [and3_mod]; omega
theorem and31 (k : Nat) : bits .and .i64 (k : Int) 31 = ((k % 32 : Nat) : Int) := by
  have g : bits .and .i64 (k : Int) 31 = IntKind.i64.wrap ((BitVec.ofInt 64 (k : Int) &&& 31#64).toNat : Int) := rfl
  have h1 : (BitVec.ofInt 64 (k : Int) &&& 31#64).toNat = k % 32 := by
    rw [BitVec.toNat_and, show (31#64).toNat = 2 ^ 5 - 1 from rfl, Nat.and_two_pow_sub_one_eq_mod, BitVec.toNat_ofInt]
    omega
  rw [g, h1, IntKind.wrap_i64]
  omega
theorem row_cells {w : World} {b : Nat} {x y z u : Value} {t : TypeId} (h : w.heap[b]? = some (.cells #[x, y, z, u] t (0, 0))) : w.cell? ⟨b, 0, none⟩ = some x ∧ w.cell? ⟨b, 1, none⟩ = some y ∧ w.cell? ⟨b, 2, none⟩ = some z ∧ w.cell? ⟨b, 3, none⟩ = some u ∧ b < w.heap.size :=
  ⟨cell_of h rfl, cell_of h rfl, cell_of h rfl, cell_of h rfl, lt_of h⟩
theorem Pair.more (h : Pair t u X Y k) {k' : Nat} (hk : k ≤ k') : Pair t u X Y k' := ⟨h.X, h.Y, h.ag, h.h, h.bd.more hk, Nat.le_trans h.D hk⟩
/-- A row of entries, whatever stands in it. -/
def obA (p : Option Addr) (n c : Nat) (f : Nat → Value) : Ob := obVec 30 4 p n c f
theorem set_a {B : Nat} {f : Nat → Value} (h : Apt W w l) (hi : l[i]? = some (obA (some ⟨B, 0, none⟩) n c f)) (j : Nat) (v : Value) : Apt W (w.setCell ⟨B, j, none⟩ v) (l.set i (obA (some ⟨B, 0, none⟩) n c (fun x => if x = j then v else f x))) :=
  h.upd hi ((h.all i _ hi : Vec w 30 4 (some ⟨B, 0, none⟩) n c f).set j v) ⟨(Out.refl (In (some ⟨B, 0, none⟩)) w).setCell (a := ⟨B, j, none⟩) (In.self B) _, fun _ hk => .inl hk⟩
end Go.Proofs.Ythjcdloaclailaa.Tb
