/-
  Buffers and errors that lie apart from other objects: what calls make of them. Condition: numbers of events up to a million.
-/
import Derived.Test.YtigmjgmkeoineaaDoorWbTurn
import Derived.Test.YtigmjgmkeoineaaDoorGenPack
namespace Go.Proofs.YtigmjgmkeoineaaDoor.Wb
open Go.RowKit Go.Deep Us

def obB (M N f : Nat) (q : List Ev) (r : Nat) : Ob := ⟨fun w => Bf w M N f q r, bfF M, fun _ _ _ h o hd => h.out o hd, fun _ _ h hk => h.foot_lt hk⟩
/-- An error of this program's. -/
def obE (b : Nat) (n k m : Int) : Ob := obBlk b 57 (fltC n k m)
def cmQ (q : List Ev) (r : Nat) (e : Ev) : List Ev := if 0 < r then q ++ [e] else q
def nxF (f : Nat) (q : List Ev) : Nat := if 0 < q.length then f + 1 else f
def cdR (r : Nat) : Int := if 0 < r then 0 else 3
variable {W w w' : World} {l : List Ob} {i j M N f r b : Nat} {q : List Ev} {n k m : Int}
theorem room (h : Apt W w l) (hi : l[i]? = some (obB M N f q r)) : q.length + r ≤ N ∧ N ≤ 4096 := by
  have k : Bf w M N f q r := h.all i _ hi
  exact ⟨k.le, k.most⟩
theorem set_same {o : Ob} (hi : l[i]? = some o) : l.set i o = l := by
  apply List.ext_getElem?
  intro j
  rw [List.getElem?_set]
  by_cases e : i = j
  · subst e
    rw [if_pos rfl, if_pos (List.getElem?_eq_some_iff.1 hi).1, hi]
  · rw [if_neg e]
theorem new_s (h : Apt W w l) (n : Int) (hm : N ≤ 4096) (e : ceilI n 1 4096 = (N : Int)) :
    Calls Tryd.prog 8 #[.int .i64 n] w fun e w' => ∃ M, e = .returned (ptr (M + 1)) ∧ Apt W w' (l ++ [obB M N 0 [] 0]) := by
  refine (new_b n w e hm).mono ?_
  rintro e w' ⟨rfl, h1, g⟩
  exact ⟨_, rfl, h.add g h1 fun k hk => by rcases hk with rfl | rfl <;> omega⟩
theorem reserve_y (h : Apt W w l) (hi : l[i]? = some (obB M N f q r)) (hl : q.length + r < N) :
    Calls Tryd.prog 11 #[ptr (M + 1)] w fun e w' => e = .returned .nilIface ∧ Apt W w' (l.set i (obB M N f q (r + 1))) := by
  refine (reserve_yes (h.all i _ hi) hl).mono ?_
  rintro e w' ⟨rfl, h1, o⟩
  exact ⟨rfl, h.upd hi h1 ⟨o, fun _ => .inl⟩⟩
theorem reserve_n (h : Apt W w l) (hi : l[i]? = some (obB M N f q r)) (hl : q.length + r = N) :
    Calls Tryd.prog 11 #[ptr (M + 1)] w fun e w' => ∃ b, e = .returned (.iface 55 (ptr b)) ∧ Apt W w' (l ++ [obE b 2 (q.length : Int) (r : Int)]) := by
  refine (reserve_no (h.all i _ hi) hl).mono ?_
  rintro e w' ⟨b, hb, rfl, h1, g⟩
  exact ⟨b, rfl, h.add g h1 fun k hk => by
    have hk : k = b := hk
    rw [hk]; exact hb⟩
theorem commit_s (h : Apt W w l) (hi : l[i]? = some (obB M N f q r)) (e : Ev) (hf : f ≤ 1000000) :
    Calls Tryd.prog 14 #[ptr (M + 1), e.v] w fun o w' => o = .returned (.int .i64 (cdR r)) ∧ Apt W w' (l.set i (obB M N f (cmQ q r e) (r - 1))) := by
  have k : Bf w M N f q r := h.all i _ hi
  cases r with
  | zero =>
    refine (commit_no k e).mono ?_
    rintro e w' ⟨rfl, g⟩
    exact ⟨rfl, by rw [show l.set i (obB M N f (cmQ q 0 _) (0 - 1)) = l from set_same hi]; exact h.more g⟩
  | succ r =>
    refine (commit_yes k e hf).mono ?_
    rintro e w' ⟨rfl, h1, o⟩
    exact ⟨rfl, h.upd hi h1 ⟨o, fun _ => .inl⟩⟩
theorem cancel_s (h : Apt W w l) (hi : l[i]? = some (obB M N f q r)) :
    Calls Tryd.prog 16 #[ptr (M + 1)] w fun o w' => o = .returned (.int .i64 (cdR r)) ∧ Apt W w' (l.set i (obB M N f q (r - 1))) := by
  have k : Bf w M N f q r := h.all i _ hi
  cases r with
  | zero =>
    refine (cancel_no k).mono ?_
    rintro e w' ⟨rfl, rfl⟩
    exact ⟨rfl, by rw [show l.set i (obB M N f q (0 - 1)) = l from set_same hi]; exact h⟩
  | succ r =>
    refine (cancel_yes k).mono ?_
    rintro e w' ⟨rfl, h1, o⟩
    exact ⟨rfl, h.upd hi h1 ⟨o, fun _ => .inl⟩⟩
theorem take_s (h : Apt W w l) (hi : l[i]? = some (obB M N f q r)) (hf : f ≤ 1000000) :
    Calls Tryd.prog 18 #[ptr (M + 1)] w fun o w' => o = .returned (.tuple #[(q.getD 0 e0).v, .bool (decide (0 < q.length))]) ∧ Apt W w' (l.set i (obB M N (nxF f q) q.tail r)) := by
  have k : Bf w M N f q r := h.all i _ hi
  by_cases hl : 0 < q.length
  · unfold nxF
    rw [if_pos hl, decide_eq_true hl]
    refine (take_yes k hl hf).mono ?_
    rintro e w' ⟨rfl, h1, o⟩
    exact ⟨rfl, h.upd hi h1 ⟨o, fun _ => .inl⟩⟩
  · obtain rfl : q = [] := List.eq_nil_of_length_eq_zero (by omega)
    refine (take_no k hf).mono ?_
    rintro e w' ⟨rfl, g⟩
    exact ⟨rfl, by rw [show l.set i (obB M N (nxF f []) [].tail r) = l from set_same hi]; exact h.more g⟩
theorem len_s (h : Apt W w l) (hi : l[i]? = some (obB M N f q r)) : Calls Tryd.prog 20 #[ptr (M + 1)] w fun e w' => e = .returned (.int .i64 (q.length : Int)) ∧ w' = w := len_b (h.all i _ hi)
theorem reserved_s (h : Apt W w l) (hi : l[i]? = some (obB M N f q r)) : Calls Tryd.prog 21 #[ptr (M + 1)] w fun e w' => e = .returned (.int .i64 (r : Int)) ∧ w' = w := reserved_b (h.all i _ hi)
theorem size_s (h : Apt W w l) (hi : l[i]? = some (obB M N f q r)) : Calls Tryd.prog 22 #[ptr (M + 1)] w fun e w' => e = .returned (.int .i64 (N : Int)) ∧ w' = w := size_b (h.all i _ hi)
theorem weight_s (h : Apt W w l) (hi : l[i]? = some (obB M N f q r)) : Calls Tryd.prog 23 #[ptr (M + 1)] w fun e w' => e = .returned (.int .i64 (wsum q)) ∧ w' = w := weight_b (h.all i _ hi)
/-- Number of an error. -/
theorem number_s (h : Apt W w l) (hl : Laid W) (hi : l[i]? = some (obE b n k m)) (hn : n ≠ 0) : Calls Tryd.prog 26 #[.iface 55 (ptr b)] w fun e w' => e = .returned (.int .i64 n) ∧ Apt W w' l := by
  have hb : w.heap[b]? = some (.cells (fltC n k m) 57 (0, 0)) := h.all i _ hi
  refine (number_c _ n k m w (hl.grown h.grown) (.inr ⟨hn, b, rfl, hb⟩)).mono ?_
  rintro e w' ⟨rfl, g⟩
  exact ⟨rfl, h.more g⟩
/-- The statements' own event of a number. -/
def ev (n : Int) : Ev := ⟨1, n, n, bits .and .i64 n 15⟩
theorem event_b (n : Int) (w : World) : Calls Tryd.prog 10 #[.int .i64 n] w fun e w' => e = .returned (ev n).v ∧ Grown w w' := by
  have hR : (w.alloc (.cells #[.int .i64 0, .int .i64 0, .int .i64 0, .int .i64 0] 30)).heap[w.heap.size]? = some (.cells #[.int .i64 0, .int .i64 0, .int .i64 0, .int .i64 0] 30 (0, 0)) := blk_alloc_new _ _
  have g1 : Grown w (w.alloc (.cells #[.int .i64 0, .int .i64 0, .int .i64 0, .int .i64 0] 30)) := (Grown.refl _).alloc _ _
  obtain ⟨z, hz⟩ : ∃ z, Hid (z = bits .and .i64 n 15) := ⟨_, rfl⟩
  have hz2 : bits .and .i64 n 15 = z := hz.out.symm
  go_enter Tryd.func10, Tryd.ntmps10
  go_wp2_with (first | (refine wpList_store_ev rfl rfl (.tmp 2) (.tmp 7) rfl w.heap.size rfl rfl hR rfl ?_; intro w2 h2 o2; have g2 := o2.grown g1 (fun k hk => by omega); clear hR o2 g1))
  refine bodyPost_ret (v := (ev n).v) (results_cell_row Tryd.results10 _ _ w.heap.size 30 _ (0, 0) _ rfl ?_ Tryd.underlying30 rfl sizeEv) rfl ⟨rfl, g2⟩
  rw [h2, ← hz2]
  rfl
theorem event_s (h : Apt W w l) (n : Int) : Calls Tryd.prog 10 #[.int .i64 n] w fun e w' => e = .returned (ev n).v ∧ Apt W w' l := by
  refine (event_b n w).mono ?_
  rintro e w' ⟨rfl, g⟩
  exact ⟨rfl, h.more g⟩
end Go.Proofs.YtigmjgmkeoineaaDoor.Wb
