/-
  What Left, at, old, chain, set, find and Get of package pantryref15 do when they are called. No condition but those told at each sentence.
-/
import Derived.Test.YthjcdloaclailaaRtMem
namespace Go.Proofs.Ythjcdloaclailaa.Tb
open Go.RowKit Go.Deep Us
variable {W w w' : World} {key : Int} {e y : En} {J X n : Nat} {q : List En} {l : List Ob} {i c : Nat} {p : Option Addr} {u : Rt}

theorem left_r (h : RM w u) : Calls Try.prog 22 #[.pointer (some ⟨u.X, 0, none⟩)] w fun e w' => e = .returned (.int .i64 ((u.A.k - u.A.m : Nat) : Int)) ∧ ∃ d, w' = w.drewN d := by
  obtain ⟨c0, c1, c2, c3⟩ := h.cells
  have lX := lt_of h.head
  have hle := h.wk
  have hw : IntKind.i64.wrap ((u.A.k : Int) - (u.A.m : Int)) = ((u.A.k - u.A.m : Nat) : Int) := by simp [IntKind.wrap, IntKind.signed, IntKind.bits]; omega
  generalize u.A.k = k at *
  generalize u.A.m = m at *
  clear h hle c0 c3
  go_enter Try.func22, Try.ntmps22
  go_wp2
  go_quiet (fail)
  go_wp2
  go_ret
  exact ⟨rfl, _, rfl⟩
theorem at_r (h : RM w u) (key : Int) (n : Nat) (h1 : 1 ≤ n) (h2 : n ≤ 131072) : Calls Try.prog 47 #[.pointer (some ⟨u.X, 0, none⟩), .int .i64 key, .int .i64 (n : Int)] w fun e w' => e = .returned (.int .i64 ((ub u.A.s key % n : Nat) : Int)) ∧ w' = w := by
  obtain ⟨c0, c1, c2, c3⟩ := h.cells
  have lX := lt_of h.head
  have ix := index_nat u.A.s key n h1
  have rm := refMix_any u.A.s key w
  have ri := refIndex_any (mixB u.A.s key) 0 (n : Int) w (by omega)
  rw [ix] at ri
  clear h c0 c1 c2 ix
  go_enter Try.func47, Try.ntmps47
  go_wp2_with (first | (go_at_call 56; refine rm.mono ?_; rintro e w' ⟨rfl, hw⟩; have hw := hw.symm; subst hw) | (go_at_call 55; refine ri.mono ?_; rintro e w' ⟨rfl, hw⟩; have hw := hw.symm; subst hw))
  go_ret
  exact ⟨rfl, rfl⟩
/-- Whether a key's row is an old one that is left, and which. -/
theorem old_r (h : RM w u) (key : Int) : Calls Try.prog 48 #[.pointer (some ⟨u.X, 0, none⟩), .int .i64 key] w fun e w' => ∃ a : Nat, e = .returned (.tuple #[.int .i64 (a : Int), .bool (u.A.rp key).1]) ∧ ((u.A.rp key).1 = true → a = (u.A.rp key).2) ∧ ∃ d, w' = w.drewN d := by
  obtain ⟨c0, c1, c2, c3⟩ := h.cells
  have lX := lt_of h.head
  have hwk := h.wk
  have lf := left_r h
  unfold Rp.rp
  by_cases c : u.A.m < u.A.k
  · have ar : Hid (∀ d, Calls Try.prog 47 #[.pointer (some ⟨u.X, 0, none⟩), .int .i64 key, .int .i64 (u.A.k : Int)] (w.drewN d) fun e w' => e = .returned (.int .i64 ((ub u.A.s key % u.A.k : Nat) : Int)) ∧ w' = w.drewN d) := fun d => at_r (w := w.drewN d) (h.keep fun _ _ => rfl) key u.A.k (by omega) (by omega)
    generalize ub u.A.s key % u.A.k = g at *
    have hd : ((( u.A.k - u.A.m : Nat) : Int) == 0) = false := by rw [beq_eq_false_iff_ne]; omega
    have hge : decide ((g : Int) ≥ (u.A.m : Int)) = decide (u.A.m ≤ g) := decide_eq_decide.2 (by omega)
    have hge2 : decide ((u.A.m : Int) ≤ (g : Int)) = decide (u.A.m ≤ g) := decide_eq_decide.2 (by omega)
    have fin : ∃ b, Hid (decide (u.A.m ≤ g) = b) := ⟨_, rfl⟩
    obtain ⟨b, hb⟩ := fin
    have hr : Hid ((if u.A.m < u.A.k ∧ u.A.m ≤ g then (true, g) else (false, ub u.A.s key % u.A.n)).1 = b ∧ (b = true → (if u.A.m < u.A.k ∧ u.A.m ≤ g then (true, g) else (false, ub u.A.s key % u.A.n)).2 = g)) := by
      show _ ∧ _
      rw [← hb.out]
      by_cases e : u.A.m ≤ g
      · rw [if_pos ⟨c, e⟩, decide_eq_true e]; exact ⟨rfl, fun _ => rfl⟩
      · rw [if_neg (fun x => e x.2), decide_eq_false e]; exact ⟨rfl, fun x => by cases x⟩
    generalize (if u.A.m < u.A.k ∧ u.A.m ≤ g then (true, g) else (false, ub u.A.s key % u.A.n)) = R at hr ⊢
    have hge3 : decide (u.A.m ≤ g) = b := hb.out
    rw [hb.out] at hge hge2
    generalize u.A.k = k at *
    generalize u.A.m = m at *
    clear h hwk c0 c3 hb
    go_enter Try.func48, Try.ntmps48
    go_wp2_with (first | (go_at_call 22; refine lf.mono ?_; rintro e w' ⟨rfl, d, rfl⟩) | (go_at_call 47; refine (ar.out _).mono ?_; rintro e w' ⟨rfl, rfl⟩))
    go_quiet (fail)
    go_wp2
    go_ret2
    exact ⟨g, by rw [hr.out.1]; rfl, fun x => (hr.out.2 (hr.out.1.symm.trans x)).symm, _, World.drewN_drewN _ _ _⟩
  · have hd : ((( u.A.k - u.A.m : Nat) : Int) == 0) = true := by rw [beq_iff_eq]; omega
    rw [if_neg (fun x => c x.1)]
    generalize u.A.k = k at *
    generalize u.A.m = m at *
    clear h hwk c0 c1 c2 c3
    go_enter Try.func48, Try.ntmps48
    go_wp2_with (first | (go_at_call 22; refine lf.mono ?_; rintro e w' ⟨rfl, d, rfl⟩))
    go_ret2
    exact ⟨0, rfl, fun x => (by cases x), _, rfl⟩
theorem rp_cases (u : Rt) (key : Int) : ((u.A.rp key).1 = true ∧ u.A.m < u.A.k) ∨ ∃ g, ub u.A.s key % u.A.n = g ∧ u.A.rp key = (false, g) := by
  unfold Rp.rp
  by_cases c : u.A.m < u.A.k ∧ u.A.m ≤ ub u.A.s key % u.A.k
  · rw [if_pos c]; exact .inl ⟨rfl, c.1⟩
  · rw [if_neg c]; exact .inr ⟨_, rfl, rfl⟩
theorem RM.rp_live (h : RM w u) (key : Int) : u.A.live (u.A.rp key) := by
  have := h.wk
  unfold Rp.rp Rp.live
  by_cases c : u.A.m < u.A.k ∧ u.A.m ≤ ub u.A.s key % u.A.k
  · rw [if_pos c]
    exact ⟨c.2, Nat.mod_lt _ (by omega)⟩
  · rw [if_neg c]
    exact Nat.mod_lt _ (by omega)
theorem chain_r (h : RM w u) (key : Int) : Calls Try.prog 35 #[.pointer (some ⟨u.X, 0, none⟩), .int .i64 key] w fun e w' => e = .returned (.slice (u.r (u.A.rp key)).1 (u.A.L (u.A.rp key)).length (u.r (u.A.rp key)).2) ∧ ∃ d, w' = w.drewN d := by
  obtain ⟨c0, c1, c2, c3⟩ := h.cells
  have lX := lt_of h.head
  have hwk := h.wk
  have old := old_r h key
  obtain ⟨r1, r2, _⟩ := h.cell (h.rp_live key)
  unfold Rt.sl at r1
  have hl := h.rp_live key
  rcases rp_cases u key with ⟨e1, c⟩ | ⟨g, hg, e1⟩
  · unfold Rp.live at hl
    rw [if_pos e1] at hl
    have ho : u.oP = some ⟨u.Q, 0, none⟩ := if_neg (by omega)
    have hbk : u.bk true = u.Q := rfl
    rw [e1, hbk] at r1 r2
    rw [ho] at c1
    rw [e1] at old
    obtain ⟨g, hg⟩ : ∃ g, Hid ((u.A.rp key).2 = g) := ⟨_, rfl⟩
    rw [hg.out] at hl r1 old
    have hI : (g : Int) < (u.A.k : Int) := by omega
    clear h e1 hg c0 c2 c3 ho hbk
    go_enter Try.func35, Try.ntmps35
    go_wp2_with (go_at_call 48; refine old.mono ?_; rintro e w' ⟨a, rfl, ha, d, rfl⟩; obtain rfl := ha rfl; clear old)
    go_ret
    exact ⟨rfl, _, rfl⟩
  · have ar : Hid (∀ W, RM W u → Calls Try.prog 47 #[.pointer (some ⟨u.X, 0, none⟩), .int .i64 key, .int .i64 (u.A.n : Int)] W fun e w' => e = .returned (.int .i64 ((ub u.A.s key % u.A.n : Nat) : Int)) ∧ w' = W) := fun W hW => at_r hW key u.A.n (by omega) (by omega)
    rw [hg] at ar
    have r3 : Hid (∀ W, RM W u → W.cell? ⟨u.bk (u.A.rp key).1, (u.A.rp key).2, none⟩ = some (u.sl (u.A.rp key)) ∧ u.bk (u.A.rp key).1 < W.heap.size) := fun W hW => ⟨(hW.cell (hW.rp_live key)).1, (hW.cell (hW.rp_live key)).2.1⟩
    have h : Hid (RM w u) := h
    unfold Rt.sl at r3
    rw [e1] at old hl r3 ⊢
    have hl : g < u.A.n := hl
    change Hid (∀ W, RM W u → W.cell? ⟨u.P, g, none⟩ = _ ∧ u.P < W.heap.size) at r3
    have hI : (g : Int) < (u.A.n : Int) := by omega
    clear r1 r2 e1 hg c0 c1 c2 c3 lX
    go_enter Try.func35, Try.ntmps35
    go_wp2_with (go_at_call 48; refine old.mono ?_; rintro e w1 ⟨a, rfl, _, hw⟩; have h1 : Hid (RM w1 u) := (by obtain ⟨d, rfl⟩ := hw; exact h.out.keep fun _ _ => rfl); have hw : Hid (∃ d, w1 = w.drewN d) := hw; clear old h)
    obtain ⟨c0, _⟩ := h1.out.cells
    have lX := lt_of h1.out.head
    obtain ⟨r1, r2⟩ := r3.out _ h1.out
    have ar1 := fun (d : Nat) => ar.out (w1.drewN d) (h1.out.keep fun _ _ => rfl)
    go_quiet (first | (go_at_call 47; exact Calls.quiet_of_same (ar1 _)))
    go_wp2
    go_ret
    obtain ⟨d, rfl⟩ := hw.out
    exact ⟨rfl, _, World.drewN_drewN _ _ _⟩
/-- The place of a key in a row. -/
def fj (J n : Nat) : Int := if J < n then (J : Int) else -1
theorem find_r (hv : Vec w 30 4 p n c (enL q)) (hn : n = q.length) (hn6 : n ≤ 1000000) (hJ0 : KAt q key J) : Calls Try.prog 36 #[.slice p n c, .int .i64 key] w fun e w' => e = .returned (.int .i64 (fj J n)) ∧ w' = w := by
  have hJ : Hid (KAt q key J) := hJ0
  have hq : Hid (n = q.length) := hn
  have hv0 : Hid (Vec w 30 4 p n c (enL q)) := hv
  clear hJ0 hv hn
  go_enter Try.func36, Try.ntmps36
  go_wp2
  go_loopw [5] (fun iv wr => ∃ j : Nat, j ≤ n ∧ j ≤ J ∧ iv = .int .i64 (j : Int) ∧ wr = w) (fun iv _ => n - (intOf iv).toNat)
  case atStart => exact ⟨0, by omega, by omega, rfl, rfl⟩
  case round =>
    obtain ⟨j, hj, hjJ, rfl, hwr⟩ := hrel
    have hwr := hwr.symm
    subst hwr
    by_cases hlt : j < n
    · have hd : decide ((j : Int) < (n : Int)) = true := by rw [decide_eq_true_eq]; omega
      have hI : (j : Int) < (n : Int) := by omega
      obtain ⟨r, hr⟩ : ∃ r, q[j]? = some r := ⟨_, List.getElem?_eq_getElem (by rw [← hq.out]; exact hlt)⟩
      obtain ⟨B, rfl, lB, hA, hfz, hcn⟩ := hv0.out.opens (by omega)
      clear hA hfz hcn
      have k0 := (en_cell hv0.out hlt hr).1
      by_cases e : j = J
      · have heq : (r.k == key) = true := by rw [beq_iff_eq]; exact (hJ.out.2 j r hr).2 e
        have hf : fj J n = (j : Int) := by unfold fj; rw [if_pos (by omega), e]
        clear hr
        change Hid (j = J) at e
        go_wp2
        go_ret
        exact ⟨rfl, rfl⟩
      · have heq : (r.k == key) = false := by rw [beq_eq_false_iff_ne]; exact fun x => e ((hJ.out.2 j r hr).1 x)
        clear hr
        go_wp2
        go_roundw
        case rel => exact ⟨j + 1, by omega, by omega, by go_num, trivial⟩
        case measure => simp [intOf]; omega
    · obtain rfl : j = n := by omega
      have hd : decide ((j : Int) < (j : Int)) = false := by rw [decide_eq_false_iff_not]; omega
      have hf : fj J j = -1 := by unfold fj; rw [if_neg (by omega)]
      go_wp2
      go_ret
      exact ⟨rfl, rfl⟩
end Go.Proofs.Ythjcdloaclailaa.Tb
