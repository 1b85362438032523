/-
  The text of an error that lies beside other objects, and of one like it. Condition: uint64pow10 holds what its type lets it.
-/
import Derived.Test.YtigmjgmkeoineaaDoorWbDuo
import Derived.Test.YtigmjgmkeoineaaDoorWgItoa
namespace Go.Proofs.YtigmjgmkeoineaaDoor.Wb
open Go.RowKit Go.Deep Us
variable {W w w' : World} {l : List Ob} {i b : Nat} {n k m : Int} {T : Nat → Int}

theorem mErr (v : Value) (w : World) : (Go.method 233 55 v "Error").run Tryd.prog w = .ok (72, v) w := by kernel_rfl
theorem text_all (T : Nat → Int) (hn : In64 n) (hk : In64 k) (hm : In64 m) : ∃ s : ByteArray, ∀ (W w : World) (l : List Ob) (i b : Nat), Tab W T → Apt W w l → l[i]? = some (obE b n k m) →
    Calls Tryd.prog 72 #[.pointer (some ⟨b, 0, none⟩)] w fun e w' => e = .returned (.string s) ∧ Apt W w' l := by
  obtain ⟨s, cs⟩ := faultText_c T n k m hn hk hm
  refine ⟨s, fun W w l i b hT h hi => ?_⟩
  have hb : w.heap[b]? = some (.cells (fltC n k m) 57 (0, 0)) := h.all i _ hi
  refine (cs w b (hT.grown h.grown) hb).mono ?_
  rintro e w' ⟨rfl, g⟩
  exact ⟨rfl, h.more g⟩
/-- The first two objects. -/
theorem two {a b : Ob} (h : Apt W w (a :: b :: l)) : Apt W w [a, b] :=
  h.perm id (fun i o hi => by
    match i, hi with
    | 0, hi => exact hi
    | 1, hi => exact hi
    | i + 2, hi => simp at hi) (fun i j _ _ h => h)
theorem nxF_le {f k : Nat} {q : List Ev} (h : f ≤ k) : nxF f q ≤ k + 1 := by
  unfold nxF
  split <;> omega
theorem wrap_s (h : Apt W w l) (n k m : Int) (hn : n ≠ 0) : Calls Tryd.prog 13 #[.int .i64 n, .int .i64 k, .int .i64 m] w fun e w' => ∃ b, e = .returned (.iface 55 (.pointer (some ⟨b, 0, none⟩))) ∧ Apt W w' (l ++ [obE b n k m]) := by
  refine (wrap_b n k m w hn).mono ?_
  rintro e w' ⟨rfl, h1, g⟩
  exact ⟨_, rfl, h.add g h1 fun k hk => by
    have hk : k = w.heap.size := hk
    rw [hk]; exact Nat.le_refl _⟩
end Go.Proofs.YtigmjgmkeoineaaDoor.Wb
