/-
  Memory that holds a struct of two pointers and a number; what stores, new blocks and calls that touch other blocks leave of it. A filter's state apart from memory: its samples, counters, bits and ages; what Record and Often make of it. No condition but those told at each sentence.
-/
import Derived.Test.YtlmcopenbeammaaGrSk
import Derived.Test.YtlmcopenbeammaaGrDr
namespace Go.Proofs.Ytlmcopenbeammaa
open Go.RowKit Go.Deep

theorem Off.wide {b n b' n' : Nat} {w w' : World} (h : Off b n w w') (h1 : b' ≤ b) (h2 : b + n ≤ b' + n') : Off b' n' w w' :=
  ⟨h.os, h.output, h.froz, h.size, fun k hk hb => h.block k hk (by omega)⟩

/-- A struct at block F: pointers to S and D + 1, and a number. -/
structure Hd3 (w : World) (F : Nat) (t : TypeId) (S D : Nat) (a : Int) : Prop where
  head : w.heap[F]? = some (.cells #[ptr S, ptr (D + 1), .int .i64 a] t (0, 0))
namespace Hd3
variable {w w' : World} {F S D : Nat} {t : TypeId} {a : Int}
theorem last (h : Hd3 w F t S D a) : F < w.heap.size := by
  apply Decidable.byContradiction; intro hc
  have := h.head
  rw [Array.getElem?_eq_none (by omega)] at this
  cases this
theorem cell0 (h : Hd3 w F t S D a) : w.cell? ⟨F, 0, none⟩ = some (.pointer (some ⟨S, 0, none⟩)) := by simp only [World.cell?, h.head]; rfl
theorem cell1 (h : Hd3 w F t S D a) : w.cell? ⟨F, 1, none⟩ = some (.pointer (some ⟨D + 1, 0, none⟩)) := by simp only [World.cell?, h.head]; rfl
theorem cell2 (h : Hd3 w F t S D a) : w.cell? ⟨F, 2, none⟩ = some (.int .i64 a) := by simp only [World.cell?, h.head]; rfl
theorem frozen (h : Hd3 w F t S D a) (k : Nat) : w.frozen? ⟨F, k, none⟩ = false := by simp [World.frozen?, h.head]
theorem set2 (h : Hd3 w F t S D a) (a' : Int) : Hd3 (w.setCell ⟨F, 2, none⟩ (.int .i64 a')) F t S D a' := by
  constructor
  simp [World.setCell, Array.getElem?_modify, h.head]
theorem off {b n : Nat} (h : Hd3 w F t S D a) (g : Off b n w w') (hd : F < b ∨ b + n ≤ F) : Hd3 w' F t S D a := ⟨(g.block F h.last hd).trans h.head⟩
theorem grown (h : Hd3 w F t S D a) (g : Grown w w') : Hd3 w' F t S D a := h.off (Off.of_grown g 0 0) (by omega)
end Hd3

/-- A filter's state: samples, counters, bits, ages. -/
structure Fs where
  n : Int
  c : Nat → Nat → Int
  s : Nat → Bool
  a : Int
namespace Fs
def zero : Fs := ⟨0, fun _ _ => 0, noS, 0⟩
/-- Is the key's Record one that halves? -/
def ages (t : Fs) (x : BitVec 64) (m : Nat) : Bool := hasS t.s x (2 * m) && agedC t.c x m t.n
def come (t : Fs) (x : BitVec 64) (m : Nat) : Fs :=
  ⟨if hasS t.s x (2 * m) then nC t.c x m t.n else t.n, if hasS t.s x (2 * m) then cC t.c x m t.n else t.c, if t.ages x m then noS else putS t.s x (2 * m), if t.ages x m then t.a + 1 else t.a⟩
def oft (t : Fs) (x : BitVec 64) (m : Nat) : Int := if hasS t.s x (2 * m) then leastK (kc t.c x m) 4 + 1 else leastK (kc t.c x m) 4
variable {t : Fs} {x : BitVec 64} {m : Nat}
theorem come_new (h : hasS t.s x (2 * m) = false) : t.come x m = ⟨t.n, t.c, putS t.s x (2 * m), t.a⟩ := by unfold come ages; rw [h]; rfl
theorem come_old (h : hasS t.s x (2 * m) = true) (g : agedC t.c x m t.n = false) : t.come x m = ⟨nC t.c x m t.n, cC t.c x m t.n, putS t.s x (2 * m), t.a⟩ := by unfold come ages; rw [h, g]; rfl
theorem come_age (h : hasS t.s x (2 * m) = true) (g : agedC t.c x m t.n = true) : t.come x m = ⟨nC t.c x m t.n, cC t.c x m t.n, noS, t.a + 1⟩ := by unfold come ages; rw [h, g]; rfl
theorem come_a (t : Fs) (x : BitVec 64) (m : Nat) : (t.come x m).a = if t.ages x m then t.a + 1 else t.a := rfl
theorem come_abd (t : Fs) (x : BitVec 64) (m : Nat) : t.a ≤ (t.come x m).a ∧ (t.come x m).a ≤ t.a + 1 := by rw [come_a]; split <;> omega
end Fs

/-- Widths that are one already stay. -/
theorem ceil_again (cap : Int) (m : Nat) (hm : ceilI cap 16 65536 = 16 * (m : Int)) : ceilI (16 * (m : Int)) 16 65536 = 16 * (m : Int) := by
  obtain ⟨h1, h2, h3, _, _⟩ := Up.props 62 16 (Up.start (n := cap) (l := 16) (m := 65536) (by decide) (by decide) (by decide) (by decide))
  rw [hm] at h1 h2 h3
  obtain ⟨g1, g2, g3, g4, g5⟩ := Up.props 62 16 (Up.start (n := 16 * (m : Int)) (l := 16) (m := 65536) (by decide) (by decide) (by decide) (by decide))
  obtain ⟨r, hr⟩ : ∃ r, r = ceilI (16 * (m : Int)) 16 65536 := ⟨_, rfl⟩
  obtain ⟨q, hq⟩ : ∃ q, q = 16 * (m : Int) := ⟨_, rfl⟩
  rw [← hr] at g1 g2 g3 g4 g5 ⊢
  rw [← hq] at h1 h2 h3 g4 g5 ⊢
  clear hr hq hm
  obtain ⟨a, ha⟩ := isP_pow _ g1
  obtain ⟨b, hb⟩ := isP_pow _ h1
  have hle : q ≤ r := by omega
  rcases g4 with g4 | g4
  · omega
  · by_cases hab : b < a
    · have e : (2 : Int) ^ a = 2 * 2 ^ (a - 1) := by
        have : a = (a - 1) + 1 := by omega
        rw [this, Int.pow_succ, show a - 1 + 1 - 1 = a - 1 by omega]; omega
      have : (2 : Int) ^ b ≤ 2 ^ (a - 1) := by
        by_cases h : b = a - 1
        · rw [h]; exact Int.le_refl _
        · exact Int.le_of_lt (Int.pow_lt_pow_of_lt (by decide) (by omega))
      omega
    · by_cases h : a = b
      · subst h; omega
      · have : (2 : Int) ^ a < 2 ^ b := Int.pow_lt_pow_of_lt (by decide) (by omega)
        omega
end Go.Proofs.Ytlmcopenbeammaa

/-
  What New, Record, Often, Ages and Better of package filter do when they are called.
-/
namespace Go.Proofs.Ytlmcopenbeammaa
open Go.RowKit Go.Deep

/-- A filter at block F, with its sketch at S and its door at D. -/
structure Fld (w : World) (S D F : Nat) (seed : Int) (m : Nat) (t : Fs) : Prop where
  sk : Skc w S seed t.n m t.c
  dr : Drb w D seed (2 * m) t.s
  hd : Hd3 w F 70 S D t.a
  h1 : S + 5 ≤ D
  h2 : D + 2 ≤ F
  m1 : 1 ≤ m
  m2 : m ≤ 4096
  n0 : 0 ≤ t.n
  n1 : t.n < 160 * (m : Int)
/-- A filter at block F, all of it in the blocks from S to F. -/
def Fl (w : World) (S F : Nat) (seed : Int) (m : Nat) (t : Fs) : Prop := ∃ D, Fld w S D F seed m t

namespace Fld
variable {w w' : World} {S D F m : Nat} {seed : Int} {t : Fs}
theorem off {b k : Nat} (h : Fld w S D F seed m t) (g : Off b k w w') (hd : F < b ∨ b + k ≤ S) : Fld w' S D F seed m t :=
  ⟨h.sk.off g (by have := h.h1; have := h.h2; omega), h.dr.off g (by have := h.h1; have := h.h2; omega), h.hd.off g (by have := h.h1; have := h.h2; omega), h.h1, h.h2, h.m1, h.m2, h.n0, h.n1⟩
theorem grown (h : Fld w S D F seed m t) (g : Grown w w') : Fld w' S D F seed m t := h.off (Off.of_grown g 0 0) (by omega)
end Fld
namespace Fl
variable {w w' : World} {S F m : Nat} {seed : Int} {t : Fs}
theorem off {b k : Nat} (h : Fl w S F seed m t) (g : Off b k w w') (hd : F < b ∨ b + k ≤ S) : Fl w' S F seed m t := h.imp fun _ x => x.off g hd
theorem grown (h : Fl w S F seed m t) (g : Grown w w') : Fl w' S F seed m t := h.off (Off.of_grown g 0 0) (by omega)
theorem last (h : Fl w S F seed m t) : F < w.heap.size := by obtain ⟨D, h⟩ := h; exact h.hd.last
theorem lt (h : Fl w S F seed m t) : S < F := by obtain ⟨D, h⟩ := h; have := h.h1; have := h.h2; omega
theorem bd (h : Fl w S F seed m t) (x : BitVec 64) : 0 ≤ leastK (kc t.c x m) 4 ∧ leastK (kc t.c x m) 4 ≤ 15 := by obtain ⟨D, h⟩ := h; exact h.sk.count_bd h.m1 x
theorem oft_bd (h : Fl w S F seed m t) (x : BitVec 64) : 0 ≤ t.oft x m ∧ t.oft x m ≤ 16 := by have := h.bd x; unfold Fs.oft; split <;> omega
end Fl

variable {w : World} {S D F m : Nat} {seed : Int} {t : Fs}
theorem often_f (h : Fl w S F seed m t) (key : Int) : Calls Try.prog 30 #[ptr F, .int .i64 key] w fun e w' => e = .returned (.int .i64 (t.oft (mixB seed key) m)) ∧ Grown w w' := by
  have hb := h.bd (mixB seed key)
  obtain ⟨D, h⟩ := h
  have c0 := h.hd.cell0
  have c1 := h.hd.cell1
  have ct := count_c h.sk h.m1 h.m2 key
  have hs := has_b h.dr (by have := h.m1; omega) (by have := h.m2; omega) key
  unfold Fs.oft
  obtain ⟨x, hx⟩ : ∃ x, x = mixB seed key := ⟨_, rfl⟩
  rw [← hx] at ct hs hb ⊢
  obtain ⟨k, hk⟩ : ∃ k, k = leastK (kc t.c x m) 4 := ⟨_, rfl⟩
  rw [← hk] at ct hb ⊢
  obtain ⟨b, hbe⟩ : ∃ b, b = hasS t.s x (2 * m) := ⟨_, rfl⟩
  rw [← hbe] at hs ⊢
  clear h hx hk hbe
  unfold ptr at *
  cases b
  all_goals
    go_enter Try.func30, Try.ntmps30
    go_wp2_with (first | (go_at_call 56; refine ct.mono ?_; rintro e w' ⟨rfl, hw⟩; have hw := hw.symm; subst hw) | (go_at_call 57; refine hs.mono ?_; rintro e w1 ⟨rfl, hg1⟩))
    go_ret
    exact ⟨rfl, hg1⟩

theorem better_f (h : Fl w S F seed m t) (k1 k2 : Int) : Calls Try.prog 75 #[ptr F, .int .i64 k1, .int .i64 k2] w fun e w' => e = .returned (.bool (decide (t.oft (mixB seed k2) m < t.oft (mixB seed k1) m))) ∧ Grown w w' := by
  have HF : Hid (Fl w S F seed m t) := h
  obtain ⟨g, hg⟩ : ∃ g : Int → Int, g = fun y => t.oft (mixB seed y) m := ⟨_, rfl⟩
  have of : ∀ W, Fl W S F seed m t → ∀ y, Calls Try.prog 30 #[ptr F, .int .i64 y] W fun e w' => e = .returned (.int .i64 (g y)) ∧ Grown W w' := fun W h y => by rw [hg]; exact often_f h y
  have hg1 : t.oft (mixB seed k1) m = g k1 := by rw [hg]
  have hg2 : t.oft (mixB seed k2) m = g k2 := by rw [hg]
  rw [hg1, hg2]
  clear hg hg1 hg2 h
  have T : Hid True := trivial
  unfold ptr at *
  go_enter Try.func75, Try.ntmps75
  go_wp2_with (first | (go_at_call 30; clear T; refine (of _ HF.out _).mono ?_; rintro e w1 ⟨rfl, hw1⟩) | (go_at_call 30; refine (of _ (HF.out.grown hw1) _).mono ?_; rintro e w2 ⟨rfl, hw2⟩))
  go_ret
  exact ⟨rfl, grownTrans hw1 hw2⟩

theorem age_f (h : Fld w S D F seed m t) (ha : 0 ≤ t.a) (ha' : t.a ≤ 4611686018427387903) : Calls Try.prog 63 #[ptr F] w fun e w' => e = .returned (.tuple #[]) ∧ Fld w' S D F seed m ⟨t.n, t.c, noS, t.a + 1⟩ ∧ Off S (F + 1 - S) w w' := by
  have c1 := h.hd.cell1
  have cl := clear_b h.dr (by have := h.m1; omega)
  obtain ⟨a, hae⟩ : ∃ a, a = t.a := ⟨_, rfl⟩
  have HF : Hid (Fld w S D F seed m t) := h
  have cc : ∀ W, Off D 2 w W → W.cell? ⟨F, 2, none⟩ = some (.int .i64 a) ∧ W.frozen? ⟨F, 2, none⟩ = false := fun W o => by
    have := h.hd.off o (by have := h.h2; omega)
    rw [hae]; exact ⟨this.cell2, this.frozen 2⟩
  rw [← hae] at ha ha' ⊢
  clear h
  have HA : Hid (a = t.a) := hae
  clear hae
  unfold ptr at *
  go_enter Try.func63, Try.ntmps63
  go_wp2_with (first | (go_at_call 86; refine cl.mono ?_; rintro e w1 ⟨rfl, hd1, ho1⟩; obtain ⟨cc1, cc2⟩ := cc _ ho1; clear cc))
  go_end0
  have h := HF.out
  have q1 := h.h1
  have q2 := h.h2
  have o2 : Off F 1 w1 (w1.setCell ⟨F, 2, none⟩ (.int .i64 (a + 1))) := (Off.refl F 1 w1).setCell (a := ⟨F, 2, none⟩) (Nat.le_refl _) (by show F < F + 1; omega) _
  refine ⟨rfl, ⟨(h.sk.off ho1 (by omega)).off o2 (by omega), hd1.off o2 (by omega), (h.hd.off ho1 (by omega)).set2 _, q1, q2, h.m1, h.m2, h.n0, h.n1⟩, (ho1.wide (by omega) (by omega)).trans (o2.wide (by omega) (by omega))⟩
theorem record_f (h : Fl w S F seed m t) (ha : 0 ≤ t.a) (ha' : t.a ≤ 4611686018427387903) (key : Int) : Calls Try.prog 43 #[ptr F, .int .i64 key] w fun e w' => e = .returned (.tuple #[]) ∧ Fl w' S F seed m (t.come (mixB seed key) m) ∧ Off S (F + 1 - S) w w' := by
  obtain ⟨D, h⟩ := h
  have c1 := h.hd.cell1
  have q1 := h.h1
  have q2 := h.h2
  have r1 := h.m1
  have r2 := h.m2
  have nb := nC_bd (c := t.c) (mixB seed key) h.n0 h.n1
  have pu := put_b h.dr (by omega) (by omega) key
  have cc : ∀ W, Off D 2 w W → W.cell? ⟨F, 0, none⟩ = some (.pointer (some ⟨S, 0, none⟩)) := fun W o => (h.hd.off o (by omega)).cell0
  have ad : ∀ W, Off D 2 w W → _ := fun W o => add_c (h.sk.off o (by omega)) h.m1 h.m2 h.n0 (by have := h.n1; omega) key
  have ag := fun (W : World) n c s (x : Fld W S D F seed m ⟨n, c, s, t.a⟩) => age_f x ha ha'
  obtain ⟨x, hx⟩ : ∃ x, x = mixB seed key := ⟨_, rfl⟩
  rw [← hx] at pu nb ⊢
  simp only [← hx] at ad
  clear hx
  have HF : Hid (Fld w S D F seed m t) := h
  clear h
  obtain ⟨nn, hnn⟩ : ∃ nn, nn = nC t.c x m t.n := ⟨_, rfl⟩
  obtain ⟨cn', hcn⟩ : ∃ cn', cn' = cC t.c x m t.n := ⟨_, rfl⟩
  obtain ⟨ok, hok⟩ : ∃ ok, ok = okG (kc t.c x m) 4 := ⟨_, rfl⟩
  obtain ⟨s', hs'⟩ : ∃ s', s' = putS t.s x (2 * m) := ⟨_, rfl⟩
  simp only [← hnn, ← hcn, ← hok] at ad
  rw [← hs'] at pu
  rw [← hnn] at nb
  cases hh : hasS t.s x (2 * m) with
  | false =>
    rw [Fs.come_new hh, ← hs']
    rw [hh] at pu
    clear hh hs' hnn hcn hok ad nb cc ag
    unfold ptr at *
    go_enter Try.func43, Try.ntmps43
    go_wp2_with (first | (go_at_call 61; refine pu.mono ?_; rintro e w1 ⟨rfl, hd1, ho1⟩))
    (try simp only [Exit.inBlock, Exit.then]); refine bodyPost_ret (results_none rfl _ _ _) rfl ?_
    have h := HF.out
    exact ⟨rfl, ⟨D, h.sk.off ho1 (by omega), hd1, h.hd.off ho1 (by omega), q1, q2, r1, r2, h.n0, h.n1⟩, ho1.wide (by omega) (by omega)⟩
  | true =>
    rw [hh] at pu
    cases hg : agedC t.c x m t.n with
    | false =>
      rw [Fs.come_old hh hg, ← hs', ← hnn, ← hcn]
      simp only [hg] at ad
      clear hh hs' hnn hcn hok hg ag
      unfold ptr at *
      go_enter Try.func43, Try.ntmps43
      go_wp2_with (first | (go_at_call 61; refine pu.mono ?_; rintro e w1 ⟨rfl, hd1, ho1⟩; have c0 := cc _ ho1; clear cc) | (go_at_call 62; refine (ad _ ho1).mono ?_; rintro e w2 ⟨rfl, hs2, ho2⟩))
      go_end0
      have h := HF.out
      exact ⟨rfl, ⟨D, hs2, hd1.off ho2 (by omega), (h.hd.off ho1 (by omega)).off ho2 (by omega), q1, q2, r1, r2, nb.1, nb.2⟩, (ho1.wide (by omega) (by omega)).trans (ho2.wide (by omega) (by omega))⟩
    | true =>
      rw [Fs.come_age hh hg, ← hnn, ← hcn]
      simp only [hg] at ad
      clear hh hs' hnn hcn hok hg
      unfold ptr at *
      go_enter Try.func43, Try.ntmps43
      go_wp2_with (first | (go_at_call 61; refine pu.mono ?_; rintro e w1 ⟨rfl, hd1, ho1⟩; have c0 := cc _ ho1; clear cc) | (go_at_call 62; refine (ad _ ho1).mono ?_; rintro e w2 ⟨rfl, hs2, ho2⟩) | (go_at_call 63; refine (ag _ nn cn' s' ⟨hs2, hd1.off ho2 (by omega), (HF.out.hd.off ho1 (by omega)).off ho2 (by omega), q1, q2, r1, r2, nb.1, nb.2⟩).mono ?_; rintro e w3 ⟨rfl, hs3, ho3⟩))
      go_end0
      exact ⟨rfl, ⟨D, hs3⟩, ((ho1.wide (by omega) (by omega)).trans (ho2.wide (by omega) (by omega))).trans ho3⟩

theorem new_f (cap seed : Int) (w : World) (m : Nat) (h1 : 1 ≤ m) (h2 : m ≤ 4096) (hm : ceilI cap 16 65536 = 16 * (m : Int)) :
    Calls Try.prog 16 #[.int .i64 cap, .int .i64 seed] w fun e w' => ∃ F, e = .returned (ptr F) ∧ Fl w' w.heap.size F seed m Fs.zero ∧ Grown w w' := by
  have nw := new_c cap seed w m h2 hm
  have wi := fun (W : World) (h : Skc W w.heap.size seed 0 m (fun _ _ => 0)) => width_c h h2
  have dn := fun W => new_b (16 * (m : Int)) seed W (2 * m) (by omega) (by rw [ceil_again cap m hm]; omega)
  clear hm
  unfold ptr at *
  go_enter Try.func16, Try.ntmps16
  go_wp2_with (first | (go_at_call 31; refine nw.mono ?_; rintro e w1 ⟨rfl, hs, hg⟩) | (go_at_call 33; refine (wi _ hs).mono ?_; rintro e w' ⟨rfl, hw⟩; have hw := hw.symm; subst hw) | (go_at_call 32; refine (dn _).mono ?_; rintro e w2 ⟨rfl, hd, hg2⟩))
  go_ret
  have hgA : Grown w2 (w2.alloc (.cells #[ptr w.heap.size, ptr (w1.heap.size + 1), .int .i64 0] 70)) := (Grown.refl _).alloc _ _
  refine ⟨w2.heap.size, rfl, ⟨w1.heap.size, (hs.grown hg2).grown hgA, hd.grown hgA, ⟨blk_alloc_new _ _⟩, by have := hs.last; omega, by have := hd.last; omega, h1, h2, Int.le_refl _, by show (0 : Int) < _; omega⟩, grownTrans (grownTrans hg hg2) hgA⟩
end Go.Proofs.Ytlmcopenbeammaa

/-
  Laws over a filter's keys: a key that comes alone; keys that came since the last age; the small case.
-/
namespace Go.Proofs.Ytlmcopenbeammaa
open Go.RowKit Go.Deep

/-! ### a key alone -/
theorem putS_again (s : Nat → Bool) (x : BitVec 64) (m : Nat) : putS (putS s x m) x m = putS s x m := by
  funext j
  unfold putS
  cases s j <;> cases decide (j = Q x 0 m) <;> cases decide (j = Q x 1 m) <;> rfl
theorem cC_al (x : BitVec 64) (m : Nat) (k : Int) (e2 : agedC (al x m k) x m k = false) : cC (al x m k) x m k = al x m (up k) := by
  funext i j
  unfold cC incC; rw [e2, if_neg (by decide)]
  unfold al up
  by_cases e : j = P x i m
  · rw [if_pos e, if_pos e]; by_cases h : k < 15
    · rw [if_pos ⟨e, h⟩, if_pos h]
    · rw [if_neg (fun x => h x.2), if_neg h]
  · rw [if_neg e, if_neg e, if_neg (fun x => e x.1)]
theorem al0 (x : BitVec 64) (m : Nat) : (fun _ _ => 0) = al x m 0 := by funext i j; unfold al; split <;> rfl
/-- The filter when the key has come k + 1 times, alone. -/
def one (x : BitVec 64) (m k : Nat) : Fs := ⟨min k 15, al x m (min k 15), putS noS x (2 * m), 0⟩
theorem come_zero (x : BitVec 64) (m : Nat) : Fs.zero.come x m = one x m 0 := by
  rw [Fs.come_new (by rfl)]
  unfold Fs.zero one
  rw [al0 x m]; rfl
theorem come_one (x : BitVec 64) (m k : Nat) (h1 : 1 ≤ m) : (one x m k).come x m = one x m (k + 1) := by
  obtain ⟨K, hK⟩ : ∃ K : Int, K = min (k : Int) 15 := ⟨_, rfl⟩
  have hu : up K = min ((k + 1 : Nat) : Int) 15 := by rw [hK]; unfold up; split <;> omega
  have e1 := ok_al x m K
  have e2 : agedC (al x m K) x m K = false := by unfold agedC; rw [decide_eq_false (by omega)]; exact Bool.and_false _
  have e3 : nC (al x m K) x m K = up K := by
    unfold nC up; rw [e2, e1, if_neg (by decide)]; simp only [decide_eq_true_eq]
  have e4 := cC_al x m K e2
  unfold one
  rw [← hK, ← hu, Fs.come_old (t := ⟨K, al x m K, putS noS x (2 * m), 0⟩) (putS_self noS x (2 * m)) e2]
  show Fs.mk (nC (al x m K) x m K) (cC (al x m K) x m K) _ _ = _
  rw [e3, e4, putS_again]
theorem oft_zero (x : BitVec 64) (m : Nat) : Fs.zero.oft x m = 0 := by
  unfold Fs.oft Fs.zero
  simp only [hasS_no]
  rw [al0 x m, least_al]; rfl
theorem oft_one (x : BitVec 64) (m k : Nat) : (one x m k).oft x m = min ((k : Int) + 1) 16 := by
  unfold Fs.oft one
  simp only [putS_self, least_al]
  simp only [if_true]
  omega

/-- Each key that came since the f-th counts no less than it came: one time is the door's. -/
def Came (z : List Int) (seed : Int) (m : Nat) (t : Fs) (f k : Nat) : Prop := ∀ key, 1 ≤ occ z key k - occ z key f → hasS t.s (mixB seed key) (2 * m) = true ∧ min (occ z key k - occ z key f - 1) 15 ≤ leastK (kc t.c (mixB seed key) m) 4
theorem came_none (z : List Int) (seed : Int) (m : Nat) (t : Fs) (k : Nat) : Came z seed m t k k := fun key h => by omega
theorem Came.oft {w : World} {S F m : Nat} {seed : Int} {t : Fs} {z : List Int} {f k : Nat} (h : Came z seed m t f k) (hs : Fl w S F seed m t) (key : Int) : min (occ z key k - occ z key f) 16 ≤ t.oft (mixB seed key) m := by
  have b := hs.oft_bd (mixB seed key)
  by_cases h1 : 1 ≤ occ z key k - occ z key f
  · obtain ⟨g1, g2⟩ := h key h1
    unfold Fs.oft
    rw [g1, if_pos rfl]
    omega
  · omega
theorem cC_young {c : Nat → Nat → Int} {x : BitVec 64} {m : Nat} {n : Int} (h : agedC c x m n = false) : cC c x m n = incC c x m := by
  funext i j; unfold cC; rw [h]; rfl
theorem Came.next {w : World} {S F m : Nat} {seed : Int} {t : Fs} {z : List Int} {f k : Nat} (h : Came z seed m t f k) (hs : Fl w S F seed m t) (hy : t.ages (mixB seed (z.getD k 0)) m = false) : Came z seed m (t.come (mixB seed (z.getD k 0)) m) f (k + 1) := by
  intro key hN
  have hoc : occ z key (k + 1) = occ z key k + if z.getD k 0 = key then 1 else 0 := rfl
  have b := hs.bd (mixB seed key)
  cases hh : hasS t.s (mixB seed (z.getD k 0)) (2 * m) with
  | false =>
    rw [Fs.come_new hh]
    show hasS (putS t.s _ _) _ _ = true ∧ _ ≤ leastK (kc t.c _ _) 4
    by_cases e : z.getD k 0 = key
    · rw [if_pos e] at hoc
      rw [e] at hh ⊢
      refine ⟨putS_self _ _ _, ?_⟩
      have : ¬ 1 ≤ occ z key k - occ z key f := fun hc => by rw [(h key hc).1] at hh; cases hh
      omega
    · rw [if_neg e] at hoc
      obtain ⟨g1, g2⟩ := h key (by omega)
      exact ⟨putS_keep _ _ _ _ g1, by omega⟩
  | true =>
    have hg : agedC t.c (mixB seed (z.getD k 0)) m t.n = false := by unfold Fs.ages at hy; rw [hh] at hy; exact hy
    rw [Fs.come_old hh hg]
    show hasS (putS t.s _ _) _ _ = true ∧ _ ≤ leastK (kc (cC t.c _ _ _) _ _) 4
    rw [cC_young hg]
    by_cases e : z.getD k 0 = key
    · rw [if_pos e] at hoc
      rw [e]
      refine ⟨putS_self _ _ _, ?_⟩
      rw [least_self]
      by_cases h1 : 1 ≤ occ z key k - occ z key f
      · have g2 := (h key h1).2
        unfold up; split <;> omega
      · unfold up; split <;> omega
    · rw [if_neg e] at hoc
      obtain ⟨g1, g2⟩ := h key (by omega)
      have := least_le t.c (mixB seed (z.getD k 0)) (mixB seed key) m
      exact ⟨putS_keep _ _ _ _ g1, by omega⟩
theorem occ_mono (z : List Int) (key : Int) (f k : Nat) (h : f ≤ k) : occ z key f ≤ occ z key k ∧ occ z key k ≤ occ z key f + ((k : Int) - f) := by
  induction k with
  | zero => obtain rfl : f = 0 := by omega
            exact ⟨Int.le_refl _, by omega⟩
  | succ k ih =>
    by_cases e : f = k + 1
    · subst e; exact ⟨Int.le_refl _, by omega⟩
    · have := ih (by omega)
      rw [occ]; split <;> omega
end Go.Proofs.Ytlmcopenbeammaa
