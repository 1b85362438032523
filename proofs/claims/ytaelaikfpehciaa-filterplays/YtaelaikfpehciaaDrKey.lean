/-
  What bitsOf, areOn and turnOn of package door do when they are called, and Put and Has.
-/
import Derived.Test.YtaelaikfpehciaaDrWalks
namespace Go.Proofs.Ytaelaikfpehciaa
open Go.RowKit Go.Deep

variable {w : World} {b m : Nat} {seed : Int} {f : Nat → BitVec 64}

theorem infoTwo (p q : Value) : (Try.prog.info? 64).map (·.size) = some (#[p, q] : Array Value).size := by kernel_rfl
theorem wrap_nat64 (q : Nat) (h : q ≤ 1000000) : IntKind.i64.wrap (q : Int) = q := by
  simp [IntKind.wrap, IntKind.signed, IntKind.bits]; omega
/-- Two numbers, as an array's cells. -/
def two (p q : Int) : Array Value := #[.int .i64 p, .int .i64 q]
theorem infoTwoC (p q : Int) : (Try.prog.info? 64).map (·.size) = some (two p q).size := by kernel_rfl
theorem twoOne (p q : Int) : (two p q).all (·.oneCell') = true := by kernel_rfl
theorem bitsOf_any (h : Dr w b seed m f) (h1 : 1 ≤ m) (hm : m ≤ 8192) (key : Int) :
    Calls Try.prog 33 #[ptr (b + 1), .int .i64 key] w fun e w' => e = .returned (.agg (two (Q (mixB seed key) 0 m) (Q (mixB seed key) 1 m))) ∧ Grown w w' := by
  have c0a : ∀ o, (w.alloc o).cell? ⟨b + 1, 0, none⟩ = some (.int .i64 seed) := fun o => (World.cell?_of_block (blk_alloc_lt w o (b + 1) (Ow.last h))).trans (Ow.cell0 h)
  obtain ⟨x, hx⟩ : ∃ x, x = mixB seed key := ⟨_, rfl⟩
  have mx := fun w => mix_any seed key w
  simp only [← hx] at mx
  rw [← hx]
  have ix : ∀ (i : Nat) (w : World), Calls Try.prog 46 #[.int .u64 (U x), .int .i64 i, .int .i64 (64 * (m : Int))] w fun e w' => e = .returned (.int .i64 (Q x i m)) ∧ w' = w := fun i w => by
    have := index_any x i (64 * (m : Int)) w (by omega)
    rw [Q_eq x i m h1] at this
    exact this
  have i0 := ix 0
  have i1 := ix 1
  have sz : ∀ W, Grown w W → Calls Try.prog 47 #[ptr (b + 1)] W fun e w' => e = .returned (.int .i64 (64 * (m : Int))) ∧ w' = W := fun W g => dSize_any (Ow.grown h g) hm
  obtain ⟨p, hp⟩ : ∃ p : Int, p = (Q x 0 m : Nat) := ⟨_, rfl⟩
  obtain ⟨q, hq⟩ : ∃ q : Int, q = (Q x 1 m : Nat) := ⟨_, rfl⟩
  simp only [← hp] at i0
  simp only [← hq] at i1
  rw [← hp, ← hq]
  clear hx hp hq ix h
  unfold ptr at *
  go_enter Try.func33, Try.ntmps33
  go_wp2_with (go_at_call 42; refine (mx _).mono ?_; rintro e w' ⟨rfl, hw⟩; have hw := hw.symm; subst hw)
  go_loopw [14] (fun i wr => (i = .int .i64 0 ∧ wr = (w.alloc (.cells (two 0 0) 64)).alloc (.cells (two 0 0) 64)) ∨ (i = .int .i64 1 ∧ wr = (w.alloc (.cells (two 0 0) 64)).alloc (.cells (two p 0) 64)) ∨ (i = .int .i64 2 ∧ wr = (w.alloc (.cells (two 0 0) 64)).alloc (.cells (two p q) 64))) (fun i _ => 2 - (intOf i).toNat)
  case atStart => exact Or.inl ⟨rfl, rfl⟩
  case round =>
    clear mx c0a
    rcases hrel with ⟨rfl, rfl⟩ | ⟨rfl, rfl⟩ | ⟨rfl, rfl⟩
    · clear i1
      unfold two
      go_wp2_with (first | (go_at_call 47; refine (sz _ (by exact ((Grown.refl _).alloc _ _).alloc _ _)).mono ?_; rintro e w' ⟨rfl, hw⟩; have hw := hw.symm; subst hw) | (go_at_call 46; refine (i0 _).mono ?_; rintro e w' ⟨rfl, hw⟩; have hw := hw.symm; subst hw))
      go_roundw
      case rel => exact Or.inr (Or.inl ⟨rfl, by first | rfl | trivial⟩)
      case measure => decide
    · clear i0
      unfold two
      go_wp2_with (first | (go_at_call 47; refine (sz _ (by exact ((Grown.refl _).alloc _ _).alloc _ _)).mono ?_; rintro e w' ⟨rfl, hw⟩; have hw := hw.symm; subst hw) | (go_at_call 46; refine (i1 _).mono ?_; rintro e w' ⟨rfl, hw⟩; have hw := hw.symm; subst hw))
      go_roundw
      case rel => exact Or.inr (Or.inr ⟨rfl, by first | rfl | trivial⟩)
      case measure => decide
    · clear i0 i1
      unfold two
      go_wp2_with (first | (refine wpList_load_row rfl 64 _ rfl (w.heap.size + 1) rfl 64 _ (0, 0) _ (heap2_new _ _ _) Try.underlying64 rfl (infoTwo _ _) ?_) | (refine wpList_store_row rfl 64 _ _ rfl w.heap.size _ rfl rfl 64 _ (heap2_old _ _ _) (infoTwo _ _) rfl rfl ?_; rw [setRow_alloc2]))
      exact bodyPost_ret (v := .agg #[.int .i64 p, .int .i64 q]) (results_cell_row Try.results33 _ _ w.heap.size 64 _ (0, 0) _ rfl (heap2_old _ _ _) Try.underlying64 rfl (infoTwo _ _)) rfl ⟨rfl, ((Grown.refl _).alloc _ _).alloc _ _⟩

theorem areOn_any (h : Dr w b seed m f) (g : Nat) (pl : Nat → Nat) (hc : ∀ k, k < 2 → w.cell? ⟨g, k, none⟩ = some (.int .i64 (pl k))) (hp : ∀ k, k < 2 → pl k < 64 * m) (hm : m ≤ 8192) :
    Calls Try.prog 34 #[ptr (b + 1), .slice (some ⟨g, 0, none⟩) 2 2] w fun e w' => e = .returned (.bool (on f (pl 0) && on f (pl 1))) ∧ ∃ d, w' = w.drewN d := by
  have c1 := Ow.cell1 h
  unfold ptr
  go_enter Try.func34, Try.ntmps34
  go_wp2
  go_loopw [9] (fun i wr => ∃ k d : Nat, k ≤ 2 ∧ i = .int .i64 k ∧ (∀ j, j < k → on f (pl j) = true) ∧ wr = w.drewN d) (fun i _ => 2 - (intOf i).toNat)
  case atStart => exact ⟨0, 0, by omega, rfl, fun j hj => by omega, rfl⟩
  case round =>
    obtain ⟨k, d, hk, rfl, hon, rfl⟩ := hrel
    by_cases hlt : k < 2
    · have ck := hc k hlt
      have hpk := hp k hlt
      obtain ⟨p, hpe⟩ : ∃ p, p = pl k := ⟨_, rfl⟩
      rw [← hpe] at ck hpk
      have ba := fun W => bitAt_any p W
      have hq : p / 64 < m := by omega
      have c2 : w.cell? ⟨b, p / 64, none⟩ = some (.int .u64 (U (f (p / 64)))) := Ow.cellV h hq
      have hab := and_bit (f (p / 64)) (p % 64) (Nat.mod_lt _ (by decide))
      have hone : on f (pl k) = (f (p / 64)).getLsbD (p % 64) := by rw [← hpe]; rfl
      obtain ⟨q, hqe⟩ : ∃ q, q = p / 64 := ⟨_, rfl⟩
      obtain ⟨r, hre⟩ : ∃ r, r = p % 64 := ⟨_, rfl⟩
      have hqi : (p : Int) / 64 = (q : Int) := by omega
      have hwq := wrap_nat64 q (by omega)
      obtain ⟨y, hy⟩ : ∃ y, y = f q := ⟨_, rfl⟩
      rw [← hqe] at hq c2
      simp only [← hre] at ba
      rw [← hqe, ← hre, ← hy] at hab hone
      rw [← hy] at c2
      clear hqe hre hy hpe hc hp
      cases hb : y.getLsbD r with
      | true =>
        rw [hb] at hab hone
        have hab' : (bits .and .u64 (U y) (U (1#64 <<< r)) == 0) = false := hab
        have HON : Hid (on f (pl k) = true) := hone
        clear hab hone
        go_wp2
        go_quiet (first | (go_at_call 48; exact quiet_here ba))
        go_wp2
        go_roundw
        case rel => exact ⟨k + 1, _, by omega, by go_num, fun j hj => by
          by_cases e : j = k
          · subst e; exact HON.out
          · exact hon j (by omega), rfl⟩
        case measure => simp [intOf]; omega
      | false =>
        rw [hb] at hab hone
        have hab' : (bits .and .u64 (U y) (U (1#64 <<< r)) == 0) = true := hab
        have HON : Hid (on f (pl k) = false) := hone
        clear hab hone
        go_wp2
        go_quiet (first | (go_at_call 48; exact quiet_here ba))
        go_wp2
        go_ret
        refine ⟨ret_bool ?_, d + nq, by rw [World.drewN_drewN]⟩
        have hk' : k = 0 ∨ k = 1 := by omega
        rcases hk' with rfl | rfl
        · rw [HON.out]; rfl
        · rw [HON.out, Bool.and_false]
    · obtain rfl : k = 2 := by omega
      go_wp2
      go_ret
      exact ⟨ret_bool (by rw [hon 0 (by omega), hon 1 (by omega)]; rfl), _, rfl⟩

/-- The words behind the first k of those bits are on. -/
def turns (f : Nat → BitVec 64) (pl : Nat → Nat) : Nat → Nat → BitVec 64
  | 0 => f
  | k + 1 => turn (turns f pl k) (pl k)
theorem turn_step {wr : World} {y : BitVec 64} {p q r : Nat} (h : Dr wr b seed m f) (hq : q = p / 64) (hr : r = p % 64) (hy : y = f q) :
    Dr (wr.setCell ⟨b, q, none⟩ (.int .u64 (U (y ||| 1#64 <<< r)))) b seed m (turn f p) := by
  refine Ow.congr (Ow.setV h q _) fun l hl => ?_
  show (if l = q then _ else _) = _
  unfold turn
  by_cases e : l = q
  · subst e; rw [if_pos rfl, if_pos hq, hy, hr]
  · rw [if_neg e, if_neg (by rw [← hq]; exact e)]
theorem turnOn_any (h : Dr w b seed m f) (g : Nat) (pl : Nat → Nat) (hg : g < w.heap.size) (hgb : g ≠ b ∧ g ≠ b + 1) (hc : ∀ k, k < 2 → w.cell? ⟨g, k, none⟩ = some (.int .i64 (pl k))) (hp : ∀ k, k < 2 → pl k < 64 * m) (hm : m ≤ 8192) :
    Calls Try.prog 35 #[ptr (b + 1), .slice (some ⟨g, 0, none⟩) 2 2] w fun e w' => e = .returned (.tuple #[]) ∧ Dr w' b seed m (turns f pl 2) ∧ Off b 2 w w' := by
  unfold ptr
  go_enter Try.func35, Try.ntmps35
  go_wp2
  go_loopw [8] (fun i wr => ∃ k : Nat, k ≤ 2 ∧ i = .int .i64 k ∧ Dr wr b seed m (turns f pl k) ∧ Off b 2 w wr) (fun i _ => 2 - (intOf i).toNat)
  case atStart => exact ⟨0, by omega, rfl, h, Off.refl _ _ _⟩
  case round =>
    obtain ⟨k, hk, rfl, hs, ho⟩ := hrel
    by_cases hlt : k < 2
    · have ck : wr.cell? ⟨g, k, none⟩ = some (.int .i64 (pl k)) := (World.cell?_of_block (w := w) (ho.block g hg (by omega))).trans (hc k hlt)
      have c1 := Ow.cell1 hs
      have hpk := hp k hlt
      have ts : turns f pl (k + 1) = turn (turns f pl k) (pl k) := rfl
      obtain ⟨F, hF⟩ : ∃ F, F = turns f pl k := ⟨_, rfl⟩
      obtain ⟨p, hpe⟩ : ∃ p, p = pl k := ⟨_, rfl⟩
      rw [← hpe] at ck hpk
      rw [← hF] at hs
      rw [← hF, ← hpe] at ts
      have ba := fun W => bitAt_any p W
      have hq : p / 64 < m := by omega
      have c2 : wr.cell? ⟨b, p / 64, none⟩ = some (.int .u64 (U (F (p / 64)))) := Ow.cellV hs hq
      have c3 := Ow.frozenV hs (p / 64)
      obtain ⟨q, hqe⟩ : ∃ q, q = p / 64 := ⟨_, rfl⟩
      obtain ⟨r, hre⟩ : ∃ r, r = p % 64 := ⟨_, rfl⟩
      have hqi : (p : Int) / 64 = (q : Int) := by omega
      have hwq := wrap_nat64 q (by omega)
      obtain ⟨y, hy⟩ : ∃ y, y = F q := ⟨_, rfl⟩
      rw [← hqe] at hq c2 c3
      simp only [← hre] at ba
      rw [← hy] at c2
      have hob := or_bit y r
      have HS := turn_step hs hqe hre hy
      have HO := off_cell ho q (.int .u64 (U (y ||| 1#64 <<< r)))
      rw [← ts] at HS
      have HS' : Hid (Dr (wr.setCell ⟨b, q, none⟩ (.int .u64 (U (y ||| 1#64 <<< r)))) b seed m (turns f pl (k + 1))) := HS
      have HO' : Hid (Off b 2 w (wr.setCell ⟨b, q, none⟩ (.int .u64 (U (y ||| 1#64 <<< r))))) := HO
      clear hqe hre hy hpe hc hp hF ts HS HO hs ho h hg hgb
      go_wp2
      go_region_with (first | (go_at_call 48; refine (ba _).mono ?_; rintro e w' ⟨rfl, hw⟩; have hw := hw.symm; subst hw))
      all_goals (try go_wp2)
      all_goals go_roundw
      all_goals first | exact ⟨k + 1, by omega, by go_num, Ow.drewN HS'.out 1, HO'.out.drewN 1⟩ | (simp [intOf]; omega)
    · obtain rfl : k = 2 := by omega
      go_wp2
      go_end0
      exact ⟨rfl, hs, ho⟩

theorem two_cell (w1 : World) (p q k : Nat) (hk : k < 2) : (w1.alloc (.cells (two p q) 64)).cell? ⟨w1.heap.size, k, none⟩ = some (.int .i64 ((if k = 0 then p else q : Nat) : Int)) := by
  have h : k = 0 ∨ k = 1 := by omega
  simp only [World.cell?, blk_alloc_new]
  rcases h with rfl | rfl <;> rfl

theorem dHas_any (h : Dr w b seed m f) (h1 : 1 ≤ m) (hm : m ≤ 8192) (key : Int) :
    Calls Try.prog 30 #[ptr (b + 1), .int .i64 key] w fun e w' => e = .returned (.bool (on f (Q (mixB seed key) 0 m) && on f (Q (mixB seed key) 1 m))) ∧ Grown w w' := by
  obtain ⟨x, hx⟩ : ∃ x, x = mixB seed key := ⟨_, rfl⟩
  have bo := bitsOf_any h h1 hm key
  rw [← hx] at bo ⊢
  have q0 := Q_lt x 0 m h1
  have q1 := Q_lt x 1 m h1
  obtain ⟨p, hp⟩ : ∃ p, p = Q x 0 m := ⟨_, rfl⟩
  obtain ⟨q, hq⟩ : ∃ q, q = Q x 1 m := ⟨_, rfl⟩
  rw [← hp] at q0
  rw [← hq] at q1
  rw [← hp, ← hq] at bo ⊢
  have ar : ∀ w1, Grown w w1 → Calls Try.prog 34 #[ptr (b + 1), .slice (some ⟨w1.heap.size, 0, none⟩) 2 2] (w1.alloc (.cells (two p q) 64)) fun e w' => e = .returned (.bool (on f p && on f q)) ∧ ∃ d, w' = (w1.alloc (.cells (two p q) 64)).drewN d := fun w1 g =>
    areOn_any (Ow.grown h (g.alloc _ _)) w1.heap.size (fun k => if k = 0 then p else q) (two_cell w1 p q) (fun k hk => by show (if k = 0 then p else q) < _; split <;> assumption) hm
  clear hx hp hq h
  unfold ptr at *
  go_enter Try.func30, Try.ntmps30
  go_wp2_with (first | (go_at_call 33; refine bo.mono ?_; rintro e w1 ⟨rfl, hg1⟩) | (refine wpList_store_row rfl 64 _ _ rfl w1.heap.size _ rfl rfl 64 _ (heap_alloc_last _ _) (infoTwoC _ _) rfl (twoOne _ _) ?_; rw [World.setRow_alloc_new]) | (go_at_call 34; refine (ar _ hg1).mono ?_; rintro e w2 ⟨rfl, d, rfl⟩))
  go_ret
  exact ⟨rfl, grownDrewN (hg1.alloc _ _) d⟩

theorem dPut_any (h : Dr w b seed m f) (h1 : 1 ≤ m) (hm : m ≤ 8192) (key : Int) :
    Calls Try.prog 21 #[ptr (b + 1), .int .i64 key] w fun e w' => e = .returned (.bool (on f (Q (mixB seed key) 0 m) && on f (Q (mixB seed key) 1 m))) ∧ Dr w' b seed m (turn (turn f (Q (mixB seed key) 0 m)) (Q (mixB seed key) 1 m)) ∧ Off b 2 w w' := by
  obtain ⟨x, hx⟩ : ∃ x, x = mixB seed key := ⟨_, rfl⟩
  have bo := bitsOf_any h h1 hm key
  rw [← hx] at bo ⊢
  have q0 := Q_lt x 0 m h1
  have q1 := Q_lt x 1 m h1
  obtain ⟨p, hp⟩ : ∃ p, p = Q x 0 m := ⟨_, rfl⟩
  obtain ⟨q, hq⟩ : ∃ q, q = Q x 1 m := ⟨_, rfl⟩
  rw [← hp] at q0
  rw [← hq] at q1
  rw [← hp, ← hq] at bo ⊢
  have ar : ∀ w1, Grown w w1 → Calls Try.prog 34 #[ptr (b + 1), .slice (some ⟨w1.heap.size, 0, none⟩) 2 2] (w1.alloc (.cells (two p q) 64)) fun e w' => e = .returned (.bool (on f p && on f q)) ∧ ∃ d, w' = (w1.alloc (.cells (two p q) 64)).drewN d := fun w1 g =>
    areOn_any (Ow.grown h (g.alloc _ _)) w1.heap.size (fun k => if k = 0 then p else q) (two_cell w1 p q) (fun k hk => by show (if k = 0 then p else q) < _; split <;> assumption) hm
  have tu : ∀ w1, Grown w w1 → ∀ d, Calls Try.prog 35 #[ptr (b + 1), .slice (some ⟨w1.heap.size, 0, none⟩) 2 2] ((w1.alloc (.cells (two p q) 64)).drewN d) fun e w' => e = .returned (.tuple #[]) ∧ Dr w' b seed m (turn (turn f p) q) ∧ Off b 2 ((w1.alloc (.cells (two p q) 64)).drewN d) w' := fun w1 g d =>
    turnOn_any (Ow.grown h (grownDrewN (g.alloc _ _) d)) w1.heap.size (fun k => if k = 0 then p else q) (by show _ < (w1.alloc _).heap.size; rw [nblk_alloc]; omega) (by have := Ow.last h; have := g.2.2; omega) (two_cell w1 p q) (fun k hk => by show (if k = 0 then p else q) < _; split <;> assumption) hm
  clear hx hp hq h
  unfold ptr at *
  go_enter Try.func21, Try.ntmps21
  go_wp2_with (first | (go_at_call 33; refine bo.mono ?_; rintro e w1 ⟨rfl, hg1⟩) | (refine wpList_store_row rfl 64 _ _ rfl w1.heap.size _ rfl rfl 64 _ (heap_alloc_last _ _) (infoTwoC _ _) rfl (twoOne _ _) ?_; rw [World.setRow_alloc_new]) | (go_at_call 34; refine (ar _ hg1).mono ?_; rintro e w2 ⟨rfl, d, hw⟩; have hw := hw.symm; subst hw) | (go_at_call 35; refine (tu _ hg1 _).mono ?_; rintro e w3 ⟨rfl, hs3, ho3⟩))
  go_ret
  exact ⟨rfl, hs3, (Off.of_grown (grownDrewN (hg1.alloc _ _) d) b 2).trans ho3⟩
end Go.Proofs.Ytaelaikfpehciaa
