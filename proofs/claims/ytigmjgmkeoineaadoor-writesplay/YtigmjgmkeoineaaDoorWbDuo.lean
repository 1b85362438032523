/-
  The document's buffers beside other objects: what calls make of them. No condition but those told at each sentence.
-/
import Derived.Test.YtigmjgmkeoineaaDoorWbRefT
namespace Go.Proofs.YtigmjgmkeoineaaDoor.Wb
open Go.RowKit Go.Deep Us

def obD (A N : Nat) (p : Option Addr) (c : Nat) (q : List Ev) (r : Nat) : Ob := ⟨fun w => Rb w A N p c q r, rbF A p, fun _ _ _ h o hd => h.out o hd, fun _ _ h hk => h.foot_lt hk⟩
variable {W w w' : World} {l : List Ob} {i A N c r : Nat} {p : Option Addr} {q : List Ev}
theorem rnew_s (h : Apt W w l) (n : Int) (e : ceilI n 1 4096 = (N : Int)) :
    Calls Tryd.prog 9 #[.int .i64 n] w fun e w' => ∃ A, e = .returned (ptr A) ∧ Apt W w' (l ++ [obD A N none 0 [] 0]) := by
  refine (rnew_b n w e).mono ?_
  rintro e w' ⟨rfl, h1, g⟩
  exact ⟨_, rfl, h.add g h1 fun k hk => by
    rcases hk with rfl | hk
    · exact Nat.le_refl _
    · exact absurd hk In.no⟩
theorem rreserve_y (h : Apt W w l) (hi : l[i]? = some (obD A N p c q r)) (hl : q.length + r < N) (hm : N ≤ 4096) :
    Calls Tryd.prog 12 #[ptr A] w fun e w' => e = .returned (.bool true) ∧ Apt W w' (l.set i (obD A N p c q (r + 1))) := by
  refine (rreserve_yes (h.all i _ hi) hl hm).mono ?_
  rintro e w' ⟨rfl, h1, o⟩
  exact ⟨rfl, h.upd hi h1 ⟨o, fun _ => .inl⟩⟩
theorem rreserve_n (h : Apt W w l) (hi : l[i]? = some (obD A N p c q r)) (hl : N ≤ q.length + r) (hm : q.length + r ≤ 1000000) :
    Calls Tryd.prog 12 #[ptr A] w fun e w' => e = .returned (.bool false) ∧ Apt W w' l := by
  refine (rreserve_no (h.all i _ hi) hl hm).mono ?_
  rintro e w' ⟨rfl, m, rfl⟩
  exact ⟨rfl, h.drewN m⟩
theorem rcancel_s (h : Apt W w l) (hi : l[i]? = some (obD A N p c q r)) (hr : r ≤ 4096) :
    Calls Tryd.prog 17 #[ptr A] w fun o w' => o = .returned (.int .i64 (cdR r)) ∧ Apt W w' (l.set i (obD A N p c q (r - 1))) := by
  have k : Rb w A N p c q r := h.all i _ hi
  cases r with
  | zero =>
    refine (rcancel_no k).mono ?_
    rintro e w' ⟨rfl, rfl⟩
    exact ⟨rfl, by rw [show l.set i (obD A N p c q (0 - 1)) = l from set_same hi]; exact h⟩
  | succ r =>
    refine (rcancel_yes k (by omega)).mono ?_
    rintro e w' ⟨rfl, h1, o⟩
    exact ⟨rfl, h.upd hi h1 ⟨o, fun _ => .inl⟩⟩
theorem rcommit_s (h : Apt W w l) (hi : l[i]? = some (obD A N p c q r)) (e : Ev) (hr : r ≤ 4096) (hq : q.length ≤ 4096) :
    Calls Tryd.prog 15 #[ptr A, e.v] w fun o w' => ∃ p' c', o = .returned (.int .i64 (cdR r)) ∧ Apt W w' (l.set i (obD A N p' c' (cmQ q r e) (r - 1))) := by
  have k : Rb w A N p c q r := h.all i _ hi
  cases r with
  | zero =>
    refine (rcommit_no k e).mono ?_
    rintro e w' ⟨rfl, g⟩
    exact ⟨p, c, rfl, by rw [show l.set i (obD A N p c (cmQ q 0 _) (0 - 1)) = l from set_same hi]; exact h.more g⟩
  | succ r =>
    refine (rcommit_yes k e (by omega) hq).mono ?_
    rintro e w' ⟨p', c', rfl, h1, s⟩
    exact ⟨p', c', rfl, h.upd (o' := obD A N p' c' (q ++ [_]) r) hi h1 s⟩
theorem rtake_s (h : Apt W w l) (hi : l[i]? = some (obD A N p c q r)) (hq : q.length ≤ 4096) :
    Calls Tryd.prog 19 #[ptr A] w fun o w' => ∃ p' c', o = .returned (.tuple #[(q.getD 0 e0).v, .bool (decide (0 < q.length))]) ∧ Apt W w' (l.set i (obD A N p' c' q.tail r)) := by
  have k : Rb w A N p c q r := h.all i _ hi
  by_cases hl : 0 < q.length
  · rw [decide_eq_true hl]
    refine (rtake_yes k hl hq).mono ?_
    rintro e w' ⟨p', c', rfl, h1, s⟩
    exact ⟨p', c', rfl, h.upd (o' := obD A N p' c' q.tail r) hi h1 s⟩
  · obtain rfl : q = [] := List.eq_nil_of_length_eq_zero (by omega)
    refine (rtake_no k).mono ?_
    rintro e w' ⟨rfl, g⟩
    exact ⟨p, c, rfl, by rw [show l.set i (obD A N p c [].tail r) = l from set_same hi]; exact h.more g⟩
theorem rweight_s (h : Apt W w l) (hi : l[i]? = some (obD A N p c q r)) (hq : q.length ≤ 4096) : Calls Tryd.prog 24 #[ptr A] w fun e w' => e = .returned (.int .i64 (wsum q)) ∧ w' = w := rweight_b (h.all i _ hi) hq
/-- The cells of the document's struct. -/
theorem obD_cells (h : Apt W w l) (hi : l[i]? = some (obD A N p c q r)) : w.cell? ⟨A, 0, none⟩ = some (.int .i64 (N : Int)) ∧ w.cell? ⟨A, 1, none⟩ = some (.slice p q.length c) ∧ w.cell? ⟨A, 2, none⟩ = some (.int .i64 (r : Int)) ∧ A < w.heap.size := by
  have k : Rb w A N p c q r := h.all i _ hi
  exact ⟨k.cells.1, k.cells.2.1, k.cells.2.2, lt_of k.head⟩
end Go.Proofs.YtigmjgmkeoineaaDoor.Wb
