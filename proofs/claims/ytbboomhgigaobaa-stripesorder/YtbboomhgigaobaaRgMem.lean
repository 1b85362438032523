/-
  A ring in memory: its row at block b, its struct at block b + 1; what round, Len, Lost, Size, New, Offer and Take of package ring do when they are called. No condition but those told at each sentence.
-/
import Derived.Test.YtbboomhgigaobaaMixCeil
import Derived.Test.YtbboomhgigaobaaGenFlow
import Derived.Test.YtbboomhgigaobaaGenVec
import Derived.Deep.Quiet
import Derived.BigQuiet
namespace Go.Proofs.Ytbboomhgigaobaa.Rn
open Go.RowKit Go.Deep

theorem cell_of {w : World} {b : Nat} {c : Array Value} {t : TypeId} {f : Nat × Nat} (h : w.heap[b]? = some (.cells c t f)) {k : Nat} {v : Value} (hk : c[k]? = some v) : w.cell? ⟨b, k, none⟩ = some v := by
  simp [World.cell?, h, hk]
theorem lt_of {w : World} {b : Nat} {o : Obj} (h : w.heap[b]? = some o) : b < w.heap.size := (Array.getElem?_eq_some_iff.1 h).1
theorem blk_set {w : World} {b : Nat} {cs : Array Value} {t : TypeId} (h : w.heap[b]? = some (.cells cs t (0, 0))) (j : Nat) (v : Value) : (w.setCell ⟨b, j, none⟩ v).heap[b]? = some (.cells (cs.setIfInBounds j v) t (0, 0)) := by
  simp [World.setCell, Array.getElem?_modify, h]
/-- The cells of a row of numbers. -/
def ivL (l : List Int) (j : Nat) : Value := .int .i64 (l.getD j 0)
/-- The place i behind f, in a row of N that is gone round. -/
def pl (f i N : Nat) : Nat := if f + i < N then f + i else f + i - N
theorem pl_lt {f i N : Nat} (hf : f < N) (hi : i ≤ N) : pl f i N < N := by unfold pl; split <;> omega
theorem pl_mod {f i N : Nat} (hf : f < N) (hi : i ≤ N) : (f + i) % N = pl f i N := by
  unfold pl
  split
  · exact Nat.mod_eq_of_lt (by omega)
  · rw [Nat.mod_eq_sub_mod (by omega), Nat.mod_eq_of_lt (by omega)]
theorem pl_inj {f i j N : Nat} (hi : i < N) (hj : j < N) (h : pl f i N = pl f j N) : i = j := by
  unfold pl at h
  split at h <;> split at h <;> omega
theorem pl_next {f i N : Nat} (hf : f < N) (hi : i < N) : pl (pl f 1 N) i N = pl f (i + 1) N := by
  unfold pl
  repeat' split
  all_goals omega

structure Rg (w : World) (b N f : Nat) (q : List Int) (L : Int) : Prop where
  head : w.heap[b + 1]? = some (.cells #[.slice (some ⟨b, 0, none⟩) N N, .int .i64 (f : Int), .int .i64 (q.length : Int), .int .i64 L] 63 (0, 0))
  row : ∃ cur, w.heap[b]? = some (.cells cur 3 (0, 0)) ∧ cur.size = N ∧ ∀ i, i < q.length → cur[pl f i N]? = some (ivL q i)
  lt : f < N
  le : q.length ≤ N
  most : N ≤ 4096
def rgF (b k : Nat) : Prop := k = b ∨ k = b + 1
variable {w w' : World} {b N f : Nat} {q : List Int} {L : Int}
namespace Rg
theorem last (h : Rg w b N f q L) : b + 1 < w.heap.size := lt_of h.head
theorem foot_lt (h : Rg w b N f q L) {k : Nat} (hk : rgF b k) : k < w.heap.size := by
  have := h.last
  rcases hk with rfl | rfl <;> omega
theorem keep (h : Rg w b N f q L) (hk : ∀ k, rgF b k → w'.heap[k]? = w.heap[k]?) : Rg w' b N f q L := by
  obtain ⟨cur, h1, h2⟩ := h.row
  exact ⟨(hk _ (.inr rfl)).trans h.head, ⟨cur, (hk _ (.inl rfl)).trans h1, h2⟩, h.lt, h.le, h.most⟩
theorem out {F : Nat → Prop} (h : Rg w b N f q L) (o : Out F w w') (hF : ∀ k, rgF b k → ¬ F k) : Rg w' b N f q L := h.keep fun k hk => o.block k (h.foot_lt hk) (hF k hk)
theorem grown (h : Rg w b N f q L) (g : Grown w w') : Rg w' b N f q L := h.keep fun _ hk => grown_block g (h.foot_lt hk)
theorem drewN (h : Rg w b N f q L) (d : Nat) : Rg (w.drewN d) b N f q L := h.keep fun _ _ => rfl
theorem cells (h : Rg w b N f q L) : w.cell? ⟨b + 1, 0, none⟩ = some (.slice (some ⟨b, 0, none⟩) N N) ∧ w.cell? ⟨b + 1, 1, none⟩ = some (.int .i64 (f : Int)) ∧ w.cell? ⟨b + 1, 2, none⟩ = some (.int .i64 (q.length : Int)) ∧ w.cell? ⟨b + 1, 3, none⟩ = some (.int .i64 L) :=
  ⟨cell_of h.head rfl, cell_of h.head rfl, cell_of h.head rfl, cell_of h.head rfl⟩
theorem free (h : Rg w b N f q L) (i : Nat) : w.frozen? ⟨b + 1, i, none⟩ = false := by simp [World.frozen?, h.head]
theorem freeR (h : Rg w b N f q L) (i : Nat) : w.frozen? ⟨b, i, none⟩ = false := by
  obtain ⟨cur, h1, _⟩ := h.row
  simp [World.frozen?, h1]
theorem get (h : Rg w b N f q L) {i : Nat} (hi : i < q.length) : w.cell? ⟨b, pl f i N, none⟩ = some (ivL q i) := by
  obtain ⟨cur, h1, _, h3⟩ := h.row
  exact cell_of h1 (h3 i hi)
theorem there (h : Rg w b N f q L) {k : Nat} (hk : k < N) : ∃ v, w.cell? ⟨b, k, none⟩ = some v := by
  obtain ⟨cur, h1, h2, _⟩ := h.row
  exact ⟨_, cell_of h1 (Array.getElem?_eq_getElem (by omega))⟩
/-- A number is lost. -/
theorem lose (h : Rg w b N f q L) (L' : Int) : Rg (w.setCell ⟨b + 1, 3, none⟩ (.int .i64 L')) b N f q L' := by
  obtain ⟨cur, h1, h2⟩ := h.row
  exact ⟨blk_set h.head 3 _, ⟨cur, (blk_setCell_other _ _ _ _ (by simp)).trans h1, h2⟩, h.lt, h.le, h.most⟩
/-- A number is held. -/
theorem hold (h : Rg w b N f q L) (hl : q.length < N) (n : Int) : Rg ((w.setCell ⟨b, pl f q.length N, none⟩ (.int .i64 n)).setCell ⟨b + 1, 2, none⟩ (.int .i64 ((q.length : Int) + 1))) b N f (q ++ [n]) L := by
  obtain ⟨cur, h1, h2, h3⟩ := h.row
  have hf := h.lt
  refine ⟨?_, ⟨cur.setIfInBounds (pl f q.length N) (.int .i64 n), ?_, by simpa using h2, fun i hi => ?_⟩, h.lt, by simp; omega, h.most⟩
  · have := blk_set ((blk_setCell_other w ⟨b, pl f q.length N, none⟩ (.int .i64 n) (b + 1) (by simp)).trans h.head) 2 (.int .i64 ((q.length : Int) + 1))
    rw [this]
    simp
  · exact (blk_setCell_other _ _ _ _ (by simp)).trans (blk_set h1 _ _)
  · rw [Array.getElem?_setIfInBounds]
    by_cases e : i = q.length
    · subst e
      rw [if_pos rfl, if_pos (by rw [h2]; exact pl_lt hf (by omega))]
      simp [ivL]
    · have hi : i < q.length := by simp at hi; omega
      rw [if_neg fun x => e (pl_inj (by omega) (by omega) x.symm), h3 i hi]
      simp [ivL, List.getElem?_append_left hi]
/-- The first is taken. -/
theorem pop (h : Rg w b N f q L) (hl : 0 < q.length) : Rg ((w.setCell ⟨b + 1, 1, none⟩ (.int .i64 (pl f 1 N : Nat))).setCell ⟨b + 1, 2, none⟩ (.int .i64 ((q.length : Int) - 1))) b N (pl f 1 N) q.tail L := by
  obtain ⟨cur, h1, h2, h3⟩ := h.row
  have hf := h.lt
  have hle := h.le
  refine ⟨?_, ⟨cur, (blk_setCell_other _ _ _ _ (by simp)).trans ((blk_setCell_other _ _ _ _ (by simp)).trans h1), h2, fun i hi => ?_⟩, pl_lt hf (by omega), by simp; omega, h.most⟩
  · rw [blk_set (blk_set h.head 1 _) 2 _]
    have e : ((q.tail.length : Nat) : Int) = (q.length : Int) - 1 := by simp; omega
    rw [e]
    rfl
  · simp at hi
    rw [pl_next hf (by omega), h3 (i + 1) (by omega)]
    simp [ivL]
/-- All are taken. -/
theorem wipe (h : Rg w b N f q L) : Rg ((w.setCell ⟨b + 1, 1, none⟩ (.int .i64 0)).setCell ⟨b + 1, 2, none⟩ (.int .i64 0)) b N 0 [] L := by
  obtain ⟨cur, h1, h2, h3⟩ := h.row
  have hf := h.lt
  refine ⟨blk_set (blk_set h.head 1 _) 2 _, ⟨cur, (blk_setCell_other _ _ _ _ (by simp)).trans ((blk_setCell_other _ _ _ _ (by simp)).trans h1), h2, fun i hi => by simp at hi⟩, by omega, by simp, h.most⟩
end Rg

theorem round_g (h : Rg w b N f q L) {k : Nat} (hk : k ≤ N) : Calls Try.prog 65 #[ptr (b + 1), .int .i64 (k : Int)] w fun e w' => e = .returned (.int .i64 (pl f k N : Nat)) ∧ ∃ m, w' = w.drewN m := by
  obtain ⟨c0, c1, c2, c3⟩ := h.cells
  have hf := h.lt
  have hN := h.most
  have hm := pl_mod hf hk
  clear h
  unfold ptr
  go_enter Try.func65, Try.ntmps65
  go_wp2
  go_quiet (fail)
  go_wp2
  go_ret
  refine ⟨ret_i ?_, _, rfl⟩
  rw [← hm, Int.natCast_emod, Int.natCast_add]
theorem len_g (h : Rg w b N f q L) : Calls Try.prog 61 #[ptr (b + 1)] w fun e w' => e = .returned (.int .i64 (q.length : Int)) ∧ w' = w := by
  obtain ⟨c0, c1, c2, c3⟩ := h.cells
  clear h
  unfold ptr
  go_enter Try.func61, Try.ntmps61
  go_wp2
  go_ret
  exact ⟨rfl, rfl⟩
theorem lost_g (h : Rg w b N f q L) : Calls Try.prog 62 #[ptr (b + 1)] w fun e w' => e = .returned (.int .i64 L) ∧ w' = w := by
  obtain ⟨c0, c1, c2, c3⟩ := h.cells
  clear h
  unfold ptr
  go_enter Try.func62, Try.ntmps62
  go_wp2
  go_ret
  exact ⟨rfl, rfl⟩
/-- Its size: from 1 to 4096. -/
theorem size_of (n : Int) : ∃ N : Nat, 1 ≤ N ∧ N ≤ 4096 ∧ ceilI n 1 4096 = (N : Int) := by
  obtain ⟨h1, h2, h3, _, _⟩ := Up.props 62 1 (Up.start (n := n) (l := 1) (m := 4096) (by decide) (by decide) (by decide) (by decide))
  exact ⟨(ceilI n 1 4096).toNat, by omega, by omega, by omega⟩
theorem madeSize (N : Nat) : (madeCells #[Value.int .i64 0] N).size = N := by
  simp [madeCells]
theorem infoN : (Try.prog.info? 3).map (fun i => (i.zero, i.size, i.bytes)) = some (some (.int .i64 0), 1, 8) := by kernel_rfl
theorem new_g (n : Int) (w : World) (hN : 1 ≤ N) (hm : N ≤ 4096) (e : ceilI n 1 4096 = (N : Int)) :
    Calls Try.prog 26 #[.int .i64 n] w fun e w' => e = .returned (ptr (w.heap.size + 1)) ∧ Rg w' w.heap.size N 0 [] 0 ∧ Grown w w' := by
  have ce := fun w => ceil_any n 1 4096 w (by decide) (by decide)
  rw [e] at ce
  have hmk := run_make_row' (P := Try.prog) 32 3 (.int .i64 0) 8 Try.underlying32 infoN rfl .i64 .i64 N (by omega) (by omega)
  clear e
  go_enter Try.func26, Try.ntmps26
  go_wp2_with (go_at_call 25; refine (ce _).mono ?_; rintro e w' ⟨rfl, rfl⟩)
  go_ret
  refine ⟨rfl, ⟨?_, ?_, hN, by simp, hm⟩, ((Grown.refl _).alloc _ _).alloc _ _⟩
  · exact heap2_new _ _ _
  · exact ⟨_, heap2_old _ _ _, madeSize N, fun i hi => by simp at hi⟩
theorem offer_no (h : Rg w b N f q L) (hl : q.length = N) (n : Int) (hL : 0 ≤ L ∧ L ≤ 1000000) :
    Calls Try.prog 63 #[ptr (b + 1), .int .i64 n] w fun e w' => e = .returned (.bool false) ∧ Rg w' b N f q (L + 1) ∧ Out (rgF b) w w' := by
  obtain ⟨c0, c1, c2, c3⟩ := h.cells
  have f3 := h.free 3
  have hm := h.most
  have H : Hid (Rg w b N f q L) := h
  rw [hl] at c2
  have hbl := h.last
  clear h
  unfold ptr
  go_enter Try.func63, Try.ntmps63
  go_wp2
  go_quiet (fail)
  go_wp2
  go_ret
  exact ⟨rfl, (H.out.drewN _).lose _, (((Out.refl _ _).drewN _).setCell (Or.inr rfl) _)⟩
theorem offer_yes (h : Rg w b N f q L) (hl : q.length < N) (n : Int) :
    Calls Try.prog 63 #[ptr (b + 1), .int .i64 n] w fun e w' => e = .returned (.bool true) ∧ Rg w' b N f (q ++ [n]) L ∧ Out (rgF b) w w' := by
  obtain ⟨c0, c1, c2, c3⟩ := h.cells
  have f2 := h.free 2
  have fR := h.freeR (pl f q.length N)
  obtain ⟨v, hv⟩ := h.there (pl_lt h.lt (Nat.le_of_lt hl))
  have hm := h.most
  have H : Hid (Rg w b N f q L) := h
  have hbl := h.last
  have hp := pl_lt h.lt (Nat.le_of_lt hl)
  have hd : ((q.length : Int) == (N : Int)) = false := by simp; omega
  have hR := fun W (g : Grown w W) => round_g (h.grown g) (Nat.le_of_lt hl)
  obtain ⟨p, hpp⟩ : ∃ p, Hid (p = pl f q.length N) := ⟨_, rfl⟩
  rw [← hpp.out] at fR hv hR hp
  obtain ⟨k, hk⟩ : ∃ k, Hid (k = q.length) := ⟨_, rfl⟩
  rw [← hk.out] at c2 hR hd hl
  have hmx : Try.prog.follows .mixedOrders = true := by kernel_rfl
  clear h
  unfold ptr at *
  go_enter Try.func63, Try.ntmps63
  go_wp2
  go_quiet (fail)
  go_wp2
  refine region_fill [9, 11, 12] [(22, .pointer (some ⟨b + 1, 0, none⟩)), (23, .pointer (some ⟨b + 1, 0, none⟩)), (24, .pointer (some ⟨b + 1, 0, none⟩)), (25, .slice (some ⟨b, 0, none⟩) N N), (26, .pointer (some ⟨b + 1, 0, none⟩)), (27, .pointer (some ⟨b + 1, 0, none⟩)), (28, .pointer (some ⟨b + 1, 0, none⟩)), (29, .pointer (some ⟨b + 1, 2, none⟩)), (30, .int .i64 (k : Int)), (32, .int .i64 n)] hmx (by kernel_rfl) (by kernel_rfl) ?_
  simp only [fills, Act.put, List.setIfInBounds_toArray, List.set_cons_zero, List.set_cons_succ]
  refine flow_call _ 65 #[.pointer (some ⟨b + 1, 0, none⟩), .int .i64 (k : Int)] rfl ?run (by go_simp) ((hR _ (grownDrewN (Grown.refl _) _).drew).mono ?_)
  case run =>
    clear hR
    intro i o ho hi
    iterate 13 (rcases i with _ | i; · first | (exact absurd hi (by decide)) | (cases ho; go_simp))
    cases ho
  rintro e w1 ⟨rfl, m, hw1⟩
  have g1 : Grown w w1 := by rw [hw1]; exact grownDrewN (grownDrewN (Grown.refl _) _).drew m
  have H1 : Hid (Rg w1 b N f q L) := H.out.grown g1
  have G1 : Hid (Grown w w1) := g1
  clear hR c0 c1 c2 c3 f2 fR hv hw1 g1
  obtain ⟨c0, c1, c2, c3⟩ := H1.out.cells
  rw [← hk.out] at c2
  have fR := H1.out.freeR p
  obtain ⟨v1, hv1⟩ := H1.out.there hp
  have hb1 := H1.out.last
  have hb2 : b < w1.heap.size := by omega
  have e1 : (w1.setCell ⟨b, p, none⟩ (.int .i64 n)).cell? ⟨b + 1, 2, none⟩ = some (.int .i64 (k : Int)) := by
    rw [← c2]; simp [World.cell?, blk_setCell_other w1 ⟨b, p, none⟩ (.int .i64 n) (b + 1) (by simp)]
  have e2 : (w1.setCell ⟨b, p, none⟩ (.int .i64 n)).frozen? ⟨b + 1, 2, none⟩ = false := by rw [World.frozen?_setCell]; exact H1.out.free 2
  refine ⟨_, rfl, ?_⟩
  simp only [Act.put, List.setIfInBounds_toArray]
  refine flow_cons _ (.pointer (some ⟨b, p, none⟩)) w1 rfl ?run (Or.inl ?eff) ?next
  case run =>
    clear e1 e2
    intro i o ho hi
    iterate 13 (rcases i with _ | i; · first | (exact absurd hi (by decide)) | (cases ho; go_simp))
    cases ho
  case eff => go_simp
  case next =>
    simp only [Act.put]
    refine flow_cons _ undef (w1.setCell ⟨b, p, none⟩ (.int .i64 n)) rfl ?run ?eff ?next
    case run =>
      clear e1 e2
      intro i o ho hi
      iterate 13 (rcases i with _ | i; · first | (exact absurd hi (by decide)) | (cases ho; go_simp))
      cases ho
    case eff => first | (left; go_simp; done) | (right; refine ⟨?_, rfl⟩; go_simp; done)
    case next =>
      show Exit.then _ _ Exit.normal _ _
      clear c0 c1 c2 c3 hv1 fR
      go_wp2
      go_ret
      have K := H1.out.hold (by rw [← hk.out]; exact hl) n
      rw [← hpp.out, ← hk.out] at K
      exact ⟨rfl, K, ((Out.of_grown G1.out _).setCell (Or.inl rfl) _).setCell (Or.inr rfl) _⟩
theorem take_no (h : Rg w b N f [] L) :
    Calls Try.prog 64 #[ptr (b + 1)] w fun e w' => e = .returned (.tuple #[.int .i64 0, .bool false]) ∧ w' = w := by
  obtain ⟨c0, c1, c2, c3⟩ := h.cells
  have c2 : w.cell? ⟨b + 1, 2, none⟩ = some (.int .i64 0) := c2
  clear h
  unfold ptr
  go_enter Try.func64, Try.ntmps64
  go_wp2
  go_ret2
  exact ⟨rfl, rfl⟩
theorem take_yes (h : Rg w b N f q L) (hl : 0 < q.length) :
    Calls Try.prog 64 #[ptr (b + 1)] w fun e w' => e = .returned (.tuple #[.int .i64 (q.getD 0 0), .bool true]) ∧ Rg w' b N (pl f 1 N) q.tail L ∧ Out (rgF b) w w' := by
  obtain ⟨c0, c1, c2, c3⟩ := h.cells
  have hf := h.lt
  have hle := h.le
  have hm := h.most
  have cf : w.cell? ⟨b, f, none⟩ = some (.int .i64 (q.getD 0 0)) := by
    have := h.get hl
    rwa [show pl f 0 N = f from by simp [pl, hf]] at this
  have hR := fun W (g : Grown w W) => round_g (h.grown g) (k := 1) (by omega)
  have H : Hid (∀ W, Grown w W → Rg W b N f q L) := fun W g => h.grown g
  have hq : ((q.length : Int) == 0) = false := by rw [beq_eq_false_iff_ne]; omega
  obtain ⟨x, hx⟩ : ∃ x, x = q.getD 0 0 := ⟨_, rfl⟩
  rw [← hx] at cf ⊢
  obtain ⟨k, hk⟩ : ∃ k, Hid (k = q.length) := ⟨_, rfl⟩
  rw [← hk.out] at c2 hq hl hle
  have hb := h.last
  clear h hx
  unfold ptr at *
  go_enter Try.func64, Try.ntmps64
  go_wp2
  go_quiet (fail)
  go_wp2_with (go_at_call 65; refine (hR _ (grownDrewN (Grown.refl _) _)).mono ?_; rintro e w1 ⟨rfl, m, hw1⟩; clear hR; have g1 : Grown w w1 := (by rw [hw1]; exact grownDrewN (grownDrewN (Grown.refl _) _) m); have H1 : Hid (Rg w1 b N f q L) := H.out _ g1; clear hw1 c0 c1 c2 c3 cf; obtain ⟨c0, c1, c2, c3⟩ := H1.out.cells; rw [← hk.out] at c2; have f1 := H1.out.free 1; have f2 := H1.out.free 2; have hb1 := H1.out.last)
  go_ret2
  have K := H1.out.pop (by rw [← hk.out]; exact hl)
  rw [← hk.out] at K
  exact ⟨rfl, K, ((Out.of_grown g1 _).setCell (Or.inr rfl) _).setCell (Or.inr rfl) _⟩
end Go.Proofs.Ytbboomhgigaobaa.Rn
