/-
  The small case of the statements comes out right. No condition.
-/
import Derived.Test.YthjcdloaclailaaTbEs
namespace Go.Proofs.Ythjcdloaclailaa.Tb
open Go.RowKit Go.Deep Us
variable {W w w' : World} {t t' : Tab} {key : Int} {e y : En} {l : List Ob} {i X : Nat}

def smE (k : Nat) : List En := (List.range k).map fun i : Nat => (⟨(i : Int), 10 * (i : Int), 0, 0⟩ : En)
theorem smE_succ (k : Nat) : smE (k + 1) = smE k ++ [⟨(k : Int), 10 * (k : Int), 0, 0⟩] := by simp [smE, List.range_succ]
theorem smE_no (k : Nat) : ∀ y ∈ smE k, y.k ≠ (k : Int) := fun y hy => by
  obtain ⟨i, hi, rfl⟩ := List.mem_map.1 hy
  have := List.mem_range.1 hi
  show (i : Int) ≠ (k : Int)
  omega
theorem smE_yes {k i : Nat} (h : i < k) : (⟨(i : Int), 10 * (i : Int), 0, 0⟩ : En) ∈ smE k := List.mem_map.2 ⟨i, List.mem_range.2 h, rfl⟩
/-- An entry that stands in a block of its own. -/
theorem add_en (h : Apt W w l) (v : Array Value) (ty : TypeId) : Apt W (w.alloc (.cells v ty)) (l ++ [obBlk w.heap.size ty v]) :=
  h.add ((Grown.refl _).alloc _ _) (blk_alloc_new _ _) fun k hk => by
    have hk : k = _ := hk
    rw [hk]; exact Nat.le_refl _
def e3 : En := ⟨3, 1, 0, 0⟩
def q2 : List En := (smE 9).map (ovr e3)
def q3 : List En := dlt 4 q2
theorem in3 : (⟨3, 30, 0, 0⟩ : En) ∈ smE 9 := List.mem_map.2 ⟨3, List.mem_range.2 (by omega), rfl⟩
theorem in3' : e3 ∈ q2 := List.mem_map.2 ⟨_, in3, rfl⟩
theorem in4 : (⟨4, 40, 0, 0⟩ : En) ∈ q2 := List.mem_map.2 ⟨⟨4, 40, 0, 0⟩, List.mem_map.2 ⟨4, List.mem_range.2 (by omega), rfl⟩, rfl⟩
theorem q2_len : q2.length = 9 := rfl
theorem q3_len : q3.length = 8 := rfl
theorem no4 : ∀ y ∈ q3, y.k ≠ 4 := fun _ hy => of_decide_eq_true (List.mem_filter.1 hy).2
theorem get3 (h : Apt W w l) (hi : l[0]? = some (obT t)) (hX : t.X = X) (he : t.es = q2) : Calls Try.prog 16 #[.pointer (some ⟨X, 0, none⟩), .int .i64 3] w fun o w' => o = .returned (.tuple #[.agg #[.int .i64 3, .int .i64 1, .int .i64 0, .int .i64 0], .bool true]) ∧ Hid (Apt W w' l) :=
  get_y h hi hX (y := e3) (by rw [he]; exact in3') rfl
theorem rem4 (h : Apt W w l) (hi : l[0]? = some (obT t)) (hX : t.X = X) (he : t.es = q2) (hl : t.l = 7) : Calls Try.prog 14 #[.pointer (some ⟨X, 0, none⟩), .int .i64 4] w fun o w' => o = .returned (.tuple #[.agg #[.int .i64 4, .int .i64 40, .int .i64 0, .int .i64 0], .bool true]) ∧ ∃ t', Hid (t'.X = X) ∧ Hid (Apt W w' (l.set 0 (obT t'))) ∧ Hid (t'.es = q3 ∧ t'.l = 6) := by
  refine (rem_y h hi hX (y := ⟨4, 40, 0, 0⟩) (by rw [he]; exact in4) rfl (by rw [he, q2_len]; omega)).mono ?_
  rintro o w' ⟨t', rfl, h2, T⟩
  exact ⟨rfl, t', T.X.trans hX, h2, by rw [T.es, he]; rfl, by rw [T.l, hl]⟩
theorem get4 (h : Apt W w l) (hi : l[0]? = some (obT t)) (hX : t.X = X) (he : t.es = q3) : Calls Try.prog 16 #[.pointer (some ⟨X, 0, none⟩), .int .i64 4] w fun o w' => o = .returned (.tuple #[.agg #[.int .i64 0, .int .i64 0, .int .i64 0, .int .i64 0], .bool false]) ∧ Hid (Apt W w' l) :=
  get_n h hi hX (by rw [he]; exact no4)
theorem put3 (h : Apt W w l) (hi : l[0]? = some (obT t)) (hX : t.X = X) (he : t.es = smE 9) (hn : t.n = 16) (hl : t.l = 8) : Calls Try.prog 12 #[.pointer (some ⟨X, 0, none⟩), .agg #[.int .i64 3, .int .i64 1, .int .i64 0, .int .i64 0]] w fun o w' => o = .returned (.tuple #[.agg #[.int .i64 3, .int .i64 30, .int .i64 0, .int .i64 0], .bool true]) ∧ ∃ t', Hid (t'.X = X) ∧ Hid (Apt W w' (l.set 0 (obT t'))) ∧ Hid (t'.es = q2 ∧ t'.n = 16 ∧ t'.l = 7) := by
  refine (put_y h hi hX (e := e3) (y := ⟨3, 30, 0, 0⟩) (by rw [he]; exact in3) rfl).mono ?_
  rintro o w' ⟨t', rfl, h2, T⟩
  exact ⟨rfl, t', T.X.trans hX, h2, by rw [T.es, he]; rfl, by rw [T.n, hn], by rw [T.l, hl]⟩
theorem len8 (h : Apt W w l) (hi : l[0]? = some (obT t)) (hX : t.X = X) (he : t.es = q3) : Calls Try.prog 18 #[.pointer (some ⟨X, 0, none⟩)] w fun e w' => e = .returned (.int .i64 8) ∧ w' = w := by
  have := len_e h hi hX
  rwa [he, q3_len] at this
theorem left6 (h : Apt W w l) (hi : l[0]? = some (obT t)) (hX : t.X = X) (he : t.l = 6) : Calls Try.prog 21 #[.pointer (some ⟨X, 0, none⟩)] w fun e w' => e = .returned (.int .i64 6) ∧ w' = w := by
  have := left_s h hi
  rwa [he, hX] at this
theorem all8 (h : Apt W w l) (hi : l[0]? = some (obT t)) (hX : t.X = X) (he : t.es = q3) : Calls Try.prog 26 #[.pointer (some ⟨X, 0, none⟩)] w fun o w' => ∃ p c, o = .returned (.slice p 8 c) ∧ Grown W w' := by
  refine (all_e h hi hX (by rw [he, q3_len]; omega)).mono ?_
  rintro o w' ⟨p, c, q, rfl, h2, h3, _⟩
  have : q.length = 8 := by rw [h3.length_eq, he, q3_len]
  exact ⟨p, c, by rw [this], h2.grown⟩
set_option maxRecDepth 8000 in
set_option maxHeartbeats 2000000 in
theorem small_s (w : World) : Calls Try.prog 9 #[] w fun e w' => e = .returned (.bool true) ∧ Grown w w' := by
  have n0 := new_e 1 (Apt.none (Grown.refl w))
  go_enter Try.func9, Try.ntmps9
  go_wp2_with (go_at_call 10; refine n0.mono ?_; rintro e w1 ⟨t, rfl, h1, t1, t2, t3, _⟩; obtain ⟨X, hX⟩ : ∃ X, Hid (t.X = X) := ⟨_, rfl⟩; rw [hX.out]; have h1 : Hid (Apt w w1 [obT t]) := h1; have t1 : Hid (t.es = [] ∧ t.n = 8 ∧ t.l = 0) := ⟨t1, t2, t3⟩; clear n0 t2 t3; unfold ptr)
  go_loopw [2] (fun iv wr => ∃ (k : Nat) (t : Tab), k ≤ 9 ∧ iv = .int .i64 (k : Int) ∧ Hid (t.X = X) ∧ Hid (Apt w wr [obT t]) ∧ Hid (t.es = smE k ∧ t.n = (if k ≤ 8 then 8 else 16) ∧ t.l = if k ≤ 8 then 0 else 8)) (fun i _ => 9 - (intOf i).toNat)
  case atStart => exact ⟨0, t, by omega, rfl, hX, h1, t1.out⟩
  case round =>
    clear h1 t1 hX
    obtain ⟨k, u, hk, rfl, hX, hx, ht⟩ := hrel
    by_cases hlt : k < 9
    · have hd : decide ((k : Int) < 9) = true := by rw [decide_eq_true_eq]; omega
      have pt : Calls Try.prog 12 #[.pointer (some ⟨X, 0, none⟩), .agg #[.int .i64 (k : Int), .int .i64 (10 * (k : Int)), .int .i64 0, .int .i64 0]] wr fun o w' => ∃ t', o = .returned (.tuple #[.agg #[.int .i64 0, .int .i64 0, .int .i64 0, .int .i64 0], .bool false]) ∧ Hid (t'.X = X) ∧ Hid (Apt w w' [obT t']) ∧ Hid (t'.es = smE (k + 1) ∧ t'.n = (if k + 1 ≤ 8 then 8 else 16) ∧ t'.l = if k + 1 ≤ 8 then 0 else 8) := by
        refine (put_n hx.out (i := 0) rfl hX.out (e := ⟨(k : Int), 10 * (k : Int), 0, 0⟩) (by rw [ht.out.1]; exact smE_no k) (by rw [ht.out.1]; simp [smE]; omega)).mono ?_
        rintro o w' ⟨t', rfl, h2, T⟩
        refine ⟨t', rfl, T.X.trans hX.out, h2, ?_⟩
        have hl : (smE k).length = k := by simp [smE]
        obtain ⟨a1, a2, a3⟩ := ht.out
        rw [if_pos (by omega)] at a2 a3
        refine ⟨by rw [T.es, a1, smE_succ], ?_, ?_⟩
        · rw [T.n, a1, a2, a3, hl]
          unfold nN
          by_cases q : k + 1 ≤ 8
          · rw [if_pos q, if_neg (by omega)]
          · rw [if_neg q, if_pos (by omega)]
        · rw [T.l, a1, a2, a3, hl]
          unfold lN
          by_cases q : k + 1 ≤ 8
          · rw [if_pos q, if_neg (by omega)]
          · rw [if_neg q, if_pos (by omega)]
      clear hx ht
      go_wp2_with (go_at_call 12; refine pt.mono ?_; rintro o w2 ⟨t', rfl, hX2, h2, ht2⟩)
      go_roundw
      case rel => exact ⟨k + 1, t', by omega, by go_num, hX2, h2, ht2⟩
      case measure => simp [intOf]; omega
    · obtain rfl : k = 9 := by omega
      obtain ⟨a1, a2, a3⟩ := ht.out
      rw [if_neg (by omega)] at a2 a3
      have bk := buckets_s hx.out (i := 0) rfl
      have lf := left_s hx.out (i := 0) rfl
      rw [hX.out, a2] at bk
      rw [hX.out, a3] at lf
      have pt := put3 hx.out rfl hX.out a1 a2 a3
      clear a1 a2 a3 hx ht
      unfold ptr at *
      go_wp2_with (first
        | (go_at_call 20; refine bk.mono ?_; rintro o w' ⟨rfl, hw⟩; have hw := hw.symm; subst hw; clear bk)
        | (go_at_call 21; refine lf.mono ?_; rintro o w' ⟨rfl, hw⟩; have hw := hw.symm; subst hw; clear lf)
        | (go_at_call 12; refine pt.mono ?_; rintro o w2 ⟨rfl, t2, hX2, h2, ht2⟩; clear pt; have h3 : Hid (Apt w _ _) := add_en h2.out #[.int .i64 3, .int .i64 30, .int .i64 0, .int .i64 0] 30; clear h2; have B3 := get3 h3.out rfl hX2.out ht2.out.1)
        | (go_at_call 16; refine B3.mono ?_; rintro o w4 ⟨rfl, h4⟩; clear B3 h3; have h5 : Hid (Apt w _ _) := add_en h4.out #[.int .i64 3, .int .i64 1, .int .i64 0, .int .i64 0] 30; clear h4; have B4 := rem4 h5.out rfl hX2.out ht2.out.1 ht2.out.2.2)
        | (go_at_call 14; refine B4.mono ?_; rintro o w6 ⟨rfl, t6, hX6, h6, ht6⟩; clear B4 h5 hX2 ht2; have h7 : Hid (Apt w _ _) := add_en h6.out #[.int .i64 4, .int .i64 40, .int .i64 0, .int .i64 0] 30; clear h6; have B5 := get4 h7.out rfl hX6.out ht6.out.1)
        | (go_at_call 16; refine B5.mono ?_; rintro o w8 ⟨rfl, h8⟩; clear B5 h7; have h9 : Hid (Apt w _ _) := add_en h8.out #[.int .i64 0, .int .i64 0, .int .i64 0, .int .i64 0] 30; have d2 : w8.heap[w2.heap.size]? = some (.cells #[.int .i64 3, .int .i64 30, .int .i64 0, .int .i64 0] 30 (0, 0)) := h8.out.all 1 _ rfl; have d4 : w8.heap[w4.heap.size]? = some (.cells #[.int .i64 3, .int .i64 1, .int .i64 0, .int .i64 0] 30 (0, 0)) := h8.out.all 2 _ rfl; have d6 : w8.heap[w6.heap.size]? = some (.cells #[.int .i64 4, .int .i64 40, .int .i64 0, .int .i64 0] 30 (0, 0)) := h8.out.all 3 _ rfl; have c2 := cell_of d2 (k := 1) rfl; have c4 := cell_of d4 (k := 1) rfl; have c6 := cell_of d6 (k := 1) rfl; have l2 := lt_of d2; have l4 := lt_of d4; have l6 := lt_of d6; clear h8 d2 d4 d6; have LE := len8 h9.out rfl hX6.out ht6.out.1; have LF := left6 h9.out rfl hX6.out ht6.out.2; have AL := all8 h9.out rfl hX6.out ht6.out.1)
        | (go_at_call 18; refine LE.mono ?_; rintro o w' ⟨rfl, rfl⟩)
        | (go_at_call 21; refine LF.mono ?_; rintro o w' ⟨rfl, rfl⟩)
        | (go_at_call 26; refine AL.mono ?_; rintro o w9 ⟨p9, c9, rfl, g9⟩))
      go_ret
      exact ⟨rfl, g9⟩
end Go.Proofs.Ythjcdloaclailaa.Tb
