/-
  What the document's own answers for layer 4 do when they are called.
-/
import Derived.Test.YtaelaikfpehciaaDrLaws
namespace Go.Proofs.Ytaelaikfpehciaa
open Go.RowKit Go.Deep

/-- The document's door at the blocks b (its bits) and b + 1. -/
def Rd (w : World) (b : Nat) (seed : Int) (m : Nat) (s : Nat → Bool) : Prop :=
  Ow w b 63 4 seed (64 * m) (fun k => .bool (s k))

variable {w : World} {b m : Nat} {seed : Int} {s : Nat → Bool}

theorem Try.infoBool : (Try.prog.info? 4).map (fun i => (i.zero, i.size, i.bytes)) = some (some (.bool false), 1, 1) := by kernel_rfl
theorem rNew_any (width seed : Int) (w : World) (m : Nat) (h1 : m ≤ 8192) (hm : 8 * ceilI width 16 65536 = 64 * (m : Int)) :
    Calls Try.prog 20 #[.int .i64 width, .int .i64 seed] w fun e w' => e = .returned (ptr (w.heap.size + 1)) ∧ Rd w' w.heap.size seed m noS ∧ Grown w w' := by
  obtain ⟨c, hc⟩ : ∃ c, c = ceilI width 16 65536 := ⟨_, rfl⟩
  have ce := fun w => refCeil_any width 16 65536 w (by decide) (by decide) (by decide) (by decide)
  rw [← hc] at hm
  simp only [← hc] at ce
  obtain ⟨n, hn⟩ : ∃ n : Nat, n = 64 * m := ⟨_, rfl⟩
  have hdiv : 8 * c = (n : Int) := by omega
  have hb1 : 0 ≤ 8 * c := by omega
  have hb2 : 8 * c ≤ 524288 := by omega
  have hmk := run_make_row' (P := Try.prog) 61 4 (.bool false) 1 Try.underlying61 Try.infoBool rfl .i64 .i64 n (by omega) (by omega)
  have HN : Hid (n = 64 * m) := hn
  clear hc hm hn
  go_enter Try.func20, Try.ntmps20
  go_wp2_with (go_at_call 32; refine (ce _).mono ?_; rintro e w' ⟨rfl, rfl⟩)
  go_ret
  exact ⟨rfl, by rw [HN.out]; exact Ow.made _ _ _ seed (64 * m) (.bool false), ((Grown.refl _).alloc _ _).alloc _ _⟩

theorem rAt_any (h : Rd w b seed m s) (h1 : 1 ≤ m) (hm : m ≤ 8192) (key : Int) (i : Nat) :
    Calls Try.prog 39 #[ptr (b + 1), .int .i64 key, .int .i64 i] w fun e w' => e = .returned (.int .i64 (Q (mixB seed key) i m)) ∧ ∃ d, w' = w.drewN d := by
  have e := Q_eq (mixB seed key) i m h1
  have c0 := Ow.cell0 h
  have c1 := Ow.cell1 h
  obtain ⟨x, hx⟩ : ∃ x, x = mixB seed key := ⟨_, rfl⟩
  have mx := fun w => refMix_any seed key w
  rw [← hx] at mx e ⊢
  obtain ⟨n, hn⟩ : ∃ n : Nat, n = 64 * m := ⟨_, rfl⟩
  have ix := fun w => refIndex_any x i (64 * (m : Int)) w (by omega)
  rw [e, show (64 * (m : Int)) = (n : Int) by omega] at ix
  rw [← hn] at c1
  clear hx h e hn
  unfold ptr
  go_enter Try.func39, Try.ntmps39
  go_wp2
  go_quiet (first | (go_at_call 53; exact Calls.quiet_of_same (mx _)) | (go_at_call 52; exact Calls.quiet_of_same (ix _)))
  go_wp2
  go_ret
  exact ⟨rfl, _, rfl⟩

theorem rHas_any (h : Rd w b seed m s) (h1 : 1 ≤ m) (hm : m ≤ 8192) (key : Int) :
    Calls Try.prog 28 #[ptr (b + 1), .int .i64 key] w fun e w' => e = .returned (.bool (hasS s (mixB seed key) m)) ∧ ∃ d, w' = w.drewN d := by
  have c1 := Ow.cell1 h
  obtain ⟨x, hx⟩ : ∃ x, x = mixB seed key := ⟨_, rfl⟩
  have q0 := Q_lt x 0 m h1
  have q1 := Q_lt x 1 m h1
  obtain ⟨F, hF⟩ : ∃ F : Int → Int, F = fun i => (Q x i.toNat m : Int) := ⟨_, rfl⟩
  have at_ : ∀ d i, 0 ≤ i → Calls Try.prog 39 #[ptr (b + 1), .int .i64 key, .int .i64 i] (w.drewN d) fun e w' => e = .returned (.int .i64 (F i)) ∧ ∃ d', w' = (w.drewN d).drewN d' := fun d i hi => by
    obtain ⟨k, rfl⟩ : ∃ k : Nat, i = k := ⟨i.toNat, by omega⟩
    rw [hF, hx]; exact rAt_any (Ow.drewN h d) h1 hm key k
  have p0 : F 0 = (Q x 0 m : Int) := by rw [hF]; rfl
  have p1 : F 1 = (Q x 1 m : Int) := by rw [hF]; rfl
  have c2 : w.cell? ⟨b, Q x 0 m, none⟩ = some (.bool (s (Q x 0 m))) := Ow.cellV h q0
  have c3 : w.cell? ⟨b, Q x 1 m, none⟩ = some (.bool (s (Q x 1 m))) := Ow.cellV h q1
  have hh : hasS s x m = (s (Q x 0 m) && s (Q x 1 m)) := rfl
  rw [← hx, hh]
  obtain ⟨n, hn⟩ : ∃ n : Nat, n = 64 * m := ⟨_, rfl⟩
  obtain ⟨p, hp⟩ : ∃ p, p = Q x 0 m := ⟨_, rfl⟩
  obtain ⟨q, hq⟩ : ∃ q, q = Q x 1 m := ⟨_, rfl⟩
  rw [← hn] at c1
  rw [← hp, ← hn] at q0
  rw [← hq, ← hn] at q1
  rw [← hp] at p0 c2
  rw [← hq] at p1 c3
  rw [← hp, ← hq]
  clear hx hF hh hn hp hq h
  unfold ptr at *
  cases hs0 : s p with
  | true =>
    rw [hs0] at c2
    go_enter Try.func28, Try.ntmps28
    go_wp2
    go_quiet (first | (go_at_call 39; exact Calls.quiet_of (at_ _ _ (by decide))))
    go_wp2
    go_ret
    exact ⟨rfl, _, rfl⟩
  | false =>
    rw [hs0] at c2
    go_enter Try.func28, Try.ntmps28
    go_wp2
    go_quiet (first | (go_at_call 39; exact Calls.quiet_of (at_ _ _ (by decide))))
    go_wp2
    go_ret
    exact ⟨rfl, _, rfl⟩

theorem Rd.setB (h : Rd w b seed m s) (k : Nat) : Rd (w.setCell ⟨b, k, none⟩ (.bool true)) b seed m (fun j => s j || decide (j = k)) := by
  refine Ow.congr (Ow.setV h k (.bool true)) fun j _ => ?_
  show (if j = k then _ else _) = Value.bool (s j || decide (j = k))
  by_cases e : j = k
  · rw [if_pos e, decide_eq_true e, Bool.or_true]
  · rw [if_neg e, decide_eq_false e, Bool.or_false]
theorem Rd.drewN (h : Rd w b seed m s) (n : Nat) : Rd (w.drewN n) b seed m s := Ow.drewN h n

/-- The bits behind the first k are off. -/
def offK (s : Nat → Bool) (k j : Nat) : Bool := if j < k then false else s j
theorem rClear_any (h : Rd w b seed m s) (hm : m ≤ 8192) :
    Calls Try.prog 26 #[ptr (b + 1)] w fun e w' => e = .returned (.tuple #[]) ∧ Rd w' b seed m noS ∧ Off b 2 w w' := by
  unfold ptr
  go_enter Try.func26, Try.ntmps26
  go_wp2
  go_loopw [2] (fun i wr => ∃ k : Nat, k ≤ 64 * m ∧ i = .int .i64 k ∧ Rd wr b seed m (offK s k) ∧ Off b 2 w wr) (fun i _ => 64 * m - (intOf i).toNat)
  case atStart => exact ⟨0, by omega, rfl, Ow.congr h (fun j _ => by unfold offK; rw [if_neg (by omega)]), Off.refl _ _ _⟩
  case round =>
    obtain ⟨k, hk, rfl, hs, ho⟩ := hrel
    have c1 := Ow.cell1 hs
    have hst : k < 64 * m → Hid (Rd (wr.setCell ⟨b, k, none⟩ (.bool false)) b seed m (offK s (k + 1))) := fun _ => by
      refine Ow.congr (Ow.setV hs k (.bool false)) fun j _ => ?_
      show (if j = k then _ else _) = _
      unfold offK
      by_cases e : j = k
      · rw [if_pos e, if_pos (by omega)]
      · rw [if_neg e]
        by_cases e2 : j < k
        · rw [if_pos e2, if_pos (by omega)]
        · rw [if_neg e2, if_neg (by omega)]
    have hend : k = 64 * m → Hid (Rd wr b seed m noS) := fun e => Ow.congr hs fun j hj => by unfold offK noS; rw [if_pos (by omega)]
    have hcv : k < 64 * m → wr.cell? ⟨b, k, none⟩ = some (.bool (offK s k k)) := fun hl => Ow.cellV hs hl
    have hfr := Ow.frozenV hs k
    obtain ⟨n, hn⟩ : ∃ n : Nat, n = 64 * m := ⟨_, rfl⟩
    have hnb : n ≤ 524288 := by omega
    rw [← hn] at c1 hst hend hcv hk ⊢
    clear hs h hn
    by_cases hlt : k < n
    · have c2 := hcv hlt
      have HS := hst hlt
      clear hcv hst hend
      go_wp2
      go_roundw
      case rel => exact ⟨k + 1, by omega, by go_num, HS.out, off_cell ho k _⟩
      case measure => simp [intOf]; omega
    · obtain rfl : k = n := by omega
      have HE := hend rfl
      clear hcv hst hend
      go_wp2
      go_end0
      exact ⟨rfl, HE.out, ho⟩

set_option maxHeartbeats 4000000 in
theorem rPut_any (h : Rd w b seed m s) (h1 : 1 ≤ m) (hm : m ≤ 8192) (key : Int) :
    Calls Try.prog 24 #[ptr (b + 1), .int .i64 key] w fun e w' => e = .returned (.bool (hasS s (mixB seed key) m)) ∧ Rd w' b seed m (putS s (mixB seed key) m) ∧ Off b 2 w w' := by
  have hs := rHas_any h h1 hm key
  obtain ⟨x, hx⟩ : ∃ x, x = mixB seed key := ⟨_, rfl⟩
  have q0 := Q_lt x 0 m h1
  have q1 := Q_lt x 1 m h1
  have a0 : ∀ W s', Rd W b seed m s' → Calls Try.prog 39 #[ptr (b + 1), .int .i64 key, .int .i64 0] W fun e w' => e = .returned (.int .i64 (Q x 0 m)) ∧ ∃ d, w' = W.drewN d := fun W s' h => by rw [hx]; exact rAt_any h h1 hm key 0
  have a1 : ∀ W s', Rd W b seed m s' → Calls Try.prog 39 #[ptr (b + 1), .int .i64 key, .int .i64 1] W fun e w' => e = .returned (.int .i64 (Q x 1 m)) ∧ ∃ d, w' = W.drewN d := fun W s' h => by rw [hx]; exact rAt_any h h1 hm key 1
  have hput : putS s x m = fun j => (s j || decide (j = Q x 0 m)) || decide (j = Q x 1 m) := rfl
  rw [← hx] at hs ⊢
  obtain ⟨had, hhad⟩ : ∃ had, had = hasS s x m := ⟨_, rfl⟩
  rw [← hhad] at hs ⊢
  rw [hput]
  obtain ⟨p, hp⟩ : ∃ p, p = Q x 0 m := ⟨_, rfl⟩
  obtain ⟨q, hq⟩ : ∃ q, q = Q x 1 m := ⟨_, rfl⟩
  rw [← hp] at q0
  rw [← hq] at q1
  simp only [← hp] at a0
  simp only [← hq] at a1
  rw [← hp, ← hq]
  clear hput hhad hx hp hq
  have hc1 : ∀ {W s'}, Rd W b seed m s' → W.cell? ⟨b + 1, 1, none⟩ = some (.slice (some ⟨b, 0, none⟩) (64 * m) (64 * m)) := fun h => Ow.cell1 h
  have hcp : ∀ {W s'}, Rd W b seed m s' → W.cell? ⟨b, p, none⟩ = some (.bool (s' p)) := fun h => Ow.cellV h q0
  have hcq : ∀ {W s'}, Rd W b seed m s' → W.cell? ⟨b, q, none⟩ = some (.bool (s' q)) := fun h => Ow.cellV h q1
  have hf : ∀ {W s'}, Rd W b seed m s' → ∀ k, W.frozen? ⟨b, k, none⟩ = false := fun h k => Ow.frozenV h k
  obtain ⟨n, hn⟩ : ∃ n : Nat, n = 64 * m := ⟨_, rfl⟩
  have hnb : n ≤ 524288 := by omega
  simp only [← hn] at hc1
  rw [← hn] at q0 q1
  clear hn
  have c1 := hc1 h
  have c2 := hcp h
  have f2 := hf h p
  unfold ptr at *
  have HH : Hid (Rd w b seed m s) := h
  clear h
  go_enter Try.func24, Try.ntmps24
  go_wp2_with (go_at_call 28; refine hs.mono ?_; rintro e w' ⟨rfl, d, hw⟩; subst hw)
  go_region_with (first | (go_at_call 39; refine (a0 _ _ (by first | exact HH.out.drewN _ | exact (HH.out.drewN _).drewN _)).mono ?_; rintro e w' ⟨rfl, d2, hw⟩; subst hw))
  all_goals
    have R2 : Hid (Rd ((w.drewN (d + 1 + d2)).setCell ⟨b, p, none⟩ (.bool true)) b seed m (fun j => s j || decide (j = p))) := (HH.out.drewN _).setB p
    have O2 : Hid (Off b 2 w ((w.drewN (d + 1 + d2)).setCell ⟨b, p, none⟩ (.bool true))) := off_cell ((Off.refl b 2 w).drewN _) p _
    have c1' := hc1 R2.out
    have c2' := hcq R2.out
    have f2' := hf R2.out q
    clear c1 c2 f2 HH hs a0 hc1 hcp hcq hf
    generalize (w.drewN (d + 1 + d2)).setCell ⟨b, p, none⟩ (.bool true) = W2 at *
    go_wp2
    go_region_with (first | (go_at_call 39; refine (a1 _ _ (by first | exact R2.out.drewN _ | exact (R2.out.drewN _).drewN _)).mono ?_; rintro e w' ⟨rfl, d3, hw⟩; subst hw))
    all_goals (try go_wp2)
    all_goals go_ret
    all_goals exact ⟨rfl, (R2.out.drewN _).setB q, off_cell (O2.out.drewN _) q _⟩
end Go.Proofs.Ytaelaikfpehciaa
