/-
  What New, Record, Often, Ages and Better of package filter do when they are called.
-/
import Derived.Test.YtaelaikfpehciaaFtMem
namespace Go.Proofs.Ytaelaikfpehciaa
open Go.RowKit Go.Deep

/-- A filter at block F, with its sketch at S and its door at D. -/
structure Fld (w : World) (S D F : Nat) (seed : Int) (m : Nat) (t : Fs) : Prop where
  sk : Skc w S seed t.n m t.c
  dr : Drb w D seed (2 * m) t.s
  hd : Hd3 w F 45 S D t.a
  h1 : S + 5 ≤ D
  h2 : D + 2 ≤ F
  m1 : 1 ≤ m
  m2 : m ≤ 4096
  n0 : 0 ≤ t.n
  n1 : t.n < 160 * (m : Int)
/-- A filter at block F, all of it in the blocks from S to F. -/
def Fl (w : World) (S F : Nat) (seed : Int) (m : Nat) (t : Fs) : Prop := ∃ D, Fld w S D F seed m t

namespace Fld
variable {w w' : World} {S D F m : Nat} {seed : Int} {t : Fs}
theorem off {b k : Nat} (h : Fld w S D F seed m t) (g : Off b k w w') (hd : F < b ∨ b + k ≤ S) : Fld w' S D F seed m t :=
  ⟨h.sk.off g (by have := h.h1; have := h.h2; omega), h.dr.off g (by have := h.h1; have := h.h2; omega), h.hd.off g (by have := h.h1; have := h.h2; omega), h.h1, h.h2, h.m1, h.m2, h.n0, h.n1⟩
theorem grown (h : Fld w S D F seed m t) (g : Grown w w') : Fld w' S D F seed m t := h.off (Off.of_grown g 0 0) (by omega)
end Fld
namespace Fl
variable {w w' : World} {S F m : Nat} {seed : Int} {t : Fs}
theorem off {b k : Nat} (h : Fl w S F seed m t) (g : Off b k w w') (hd : F < b ∨ b + k ≤ S) : Fl w' S F seed m t := h.imp fun _ x => x.off g hd
theorem grown (h : Fl w S F seed m t) (g : Grown w w') : Fl w' S F seed m t := h.off (Off.of_grown g 0 0) (by omega)
theorem last (h : Fl w S F seed m t) : F < w.heap.size := by obtain ⟨D, h⟩ := h; exact h.hd.last
theorem lt (h : Fl w S F seed m t) : S < F := by obtain ⟨D, h⟩ := h; have := h.h1; have := h.h2; omega
theorem bd (h : Fl w S F seed m t) (x : BitVec 64) : 0 ≤ leastK (kc t.c x m) 4 ∧ leastK (kc t.c x m) 4 ≤ 15 := by obtain ⟨D, h⟩ := h; exact h.sk.count_bd h.m1 x
theorem oft_bd (h : Fl w S F seed m t) (x : BitVec 64) : 0 ≤ t.oft x m ∧ t.oft x m ≤ 16 := by have := h.bd x; unfold Fs.oft; split <;> omega
end Fl

variable {w : World} {S D F m : Nat} {seed : Int} {t : Fs}
theorem ages_f (h : Fl w S F seed m t) : Calls Try.prog 14 #[ptr F] w fun e w' => e = .returned (.int .i64 t.a) ∧ w' = w := by
  obtain ⟨D, h⟩ := h
  have c2 := h.hd.cell2
  clear h
  unfold ptr
  go_enter Try.func14, Try.ntmps14
  go_wp2
  go_ret
  exact ⟨rfl, rfl⟩

theorem often_f (h : Fl w S F seed m t) (key : Int) : Calls Try.prog 13 #[ptr F, .int .i64 key] w fun e w' => e = .returned (.int .i64 (t.oft (mixB seed key) m)) ∧ Grown w w' := by
  have hb := h.bd (mixB seed key)
  obtain ⟨D, h⟩ := h
  have c0 := h.hd.cell0
  have c1 := h.hd.cell1
  have ct := count_c h.sk h.m1 h.m2 key
  have hs := has_b h.dr (by have := h.m1; omega) (by have := h.m2; omega) key
  unfold Fs.oft
  obtain ⟨x, hx⟩ : ∃ x, x = mixB seed key := ⟨_, rfl⟩
  rw [← hx] at ct hs hb ⊢
  obtain ⟨k, hk⟩ : ∃ k, k = leastK (kc t.c x m) 4 := ⟨_, rfl⟩
  rw [← hk] at ct hb ⊢
  obtain ⟨b, hbe⟩ : ∃ b, b = hasS t.s x (2 * m) := ⟨_, rfl⟩
  rw [← hbe] at hs ⊢
  clear h hx hk hbe
  unfold ptr at *
  cases b
  all_goals
    go_enter Try.func13, Try.ntmps13
    go_wp2_with (first | (go_at_call 29; refine ct.mono ?_; rintro e w' ⟨rfl, hw⟩; have hw := hw.symm; subst hw) | (go_at_call 30; refine hs.mono ?_; rintro e w1 ⟨rfl, hg1⟩))
    go_ret
    exact ⟨rfl, hg1⟩

theorem better_f (h : Fl w S F seed m t) (k1 k2 : Int) : Calls Try.prog 15 #[ptr F, .int .i64 k1, .int .i64 k2] w fun e w' => e = .returned (.bool (decide (t.oft (mixB seed k2) m < t.oft (mixB seed k1) m))) ∧ Grown w w' := by
  have HF : Hid (Fl w S F seed m t) := h
  obtain ⟨g, hg⟩ : ∃ g : Int → Int, g = fun y => t.oft (mixB seed y) m := ⟨_, rfl⟩
  have of : ∀ W, Fl W S F seed m t → ∀ y, Calls Try.prog 13 #[ptr F, .int .i64 y] W fun e w' => e = .returned (.int .i64 (g y)) ∧ Grown W w' := fun W h y => by rw [hg]; exact often_f h y
  have hg1 : t.oft (mixB seed k1) m = g k1 := by rw [hg]
  have hg2 : t.oft (mixB seed k2) m = g k2 := by rw [hg]
  rw [hg1, hg2]
  clear hg hg1 hg2 h
  have T : Hid True := trivial
  unfold ptr at *
  go_enter Try.func15, Try.ntmps15
  go_wp2_with (first | (go_at_call 13; clear T; refine (of _ HF.out _).mono ?_; rintro e w1 ⟨rfl, hw1⟩) | (go_at_call 13; refine (of _ (HF.out.grown hw1) _).mono ?_; rintro e w2 ⟨rfl, hw2⟩))
  go_ret
  exact ⟨rfl, grownTrans hw1 hw2⟩

theorem age_f (h : Fld w S D F seed m t) (ha : 0 ≤ t.a) (ha' : t.a ≤ 4611686018427387903) : Calls Try.prog 23 #[ptr F] w fun e w' => e = .returned (.tuple #[]) ∧ Fld w' S D F seed m ⟨t.n, t.c, noS, t.a + 1⟩ ∧ Off S (F + 1 - S) w w' := by
  have c1 := h.hd.cell1
  have cl := clear_b h.dr (by have := h.m1; omega)
  obtain ⟨a, hae⟩ : ∃ a, a = t.a := ⟨_, rfl⟩
  have HF : Hid (Fld w S D F seed m t) := h
  have cc : ∀ W, Off D 2 w W → W.cell? ⟨F, 2, none⟩ = some (.int .i64 a) ∧ W.frozen? ⟨F, 2, none⟩ = false := fun W o => by
    have := h.hd.off o (by have := h.h2; omega)
    rw [hae]; exact ⟨this.cell2, this.frozen 2⟩
  rw [← hae] at ha ha' ⊢
  clear h
  have HA : Hid (a = t.a) := hae
  clear hae
  unfold ptr at *
  go_enter Try.func23, Try.ntmps23
  go_wp2_with (first | (go_at_call 38; refine cl.mono ?_; rintro e w1 ⟨rfl, hd1, ho1⟩; obtain ⟨cc1, cc2⟩ := cc _ ho1; clear cc))
  go_end0
  have h := HF.out
  have q1 := h.h1
  have q2 := h.h2
  have o2 : Off F 1 w1 (w1.setCell ⟨F, 2, none⟩ (.int .i64 (a + 1))) := (Off.refl F 1 w1).setCell (a := ⟨F, 2, none⟩) (Nat.le_refl _) (by show F < F + 1; omega) _
  refine ⟨rfl, ⟨(h.sk.off ho1 (by omega)).off o2 (by omega), hd1.off o2 (by omega), (h.hd.off ho1 (by omega)).set2 _, q1, q2, h.m1, h.m2, h.n0, h.n1⟩, (ho1.wide (by omega) (by omega)).trans (o2.wide (by omega) (by omega))⟩
theorem record_f (h : Fl w S F seed m t) (ha : 0 ≤ t.a) (ha' : t.a ≤ 4611686018427387903) (key : Int) : Calls Try.prog 10 #[ptr F, .int .i64 key] w fun e w' => e = .returned (.tuple #[]) ∧ Fl w' S F seed m (t.come (mixB seed key) m) ∧ Off S (F + 1 - S) w w' := by
  obtain ⟨D, h⟩ := h
  have c1 := h.hd.cell1
  have q1 := h.h1
  have q2 := h.h2
  have r1 := h.m1
  have r2 := h.m2
  have nb := nC_bd (c := t.c) (mixB seed key) h.n0 h.n1
  have pu := put_b h.dr (by omega) (by omega) key
  have cc : ∀ W, Off D 2 w W → W.cell? ⟨F, 0, none⟩ = some (.pointer (some ⟨S, 0, none⟩)) := fun W o => (h.hd.off o (by omega)).cell0
  have ad : ∀ W, Off D 2 w W → _ := fun W o => add_c (h.sk.off o (by omega)) h.m1 h.m2 h.n0 (by have := h.n1; omega) key
  have ag := fun (W : World) n c s (x : Fld W S D F seed m ⟨n, c, s, t.a⟩) => age_f x ha ha'
  obtain ⟨x, hx⟩ : ∃ x, x = mixB seed key := ⟨_, rfl⟩
  rw [← hx] at pu nb ⊢
  simp only [← hx] at ad
  clear hx
  have HF : Hid (Fld w S D F seed m t) := h
  clear h
  obtain ⟨nn, hnn⟩ : ∃ nn, nn = nC t.c x m t.n := ⟨_, rfl⟩
  obtain ⟨cn', hcn⟩ : ∃ cn', cn' = cC t.c x m t.n := ⟨_, rfl⟩
  obtain ⟨ok, hok⟩ : ∃ ok, ok = okG (kc t.c x m) 4 := ⟨_, rfl⟩
  obtain ⟨s', hs'⟩ : ∃ s', s' = putS t.s x (2 * m) := ⟨_, rfl⟩
  simp only [← hnn, ← hcn, ← hok] at ad
  rw [← hs'] at pu
  rw [← hnn] at nb
  cases hh : hasS t.s x (2 * m) with
  | false =>
    rw [Fs.come_new hh, ← hs']
    rw [hh] at pu
    clear hh hs' hnn hcn hok ad nb cc ag
    unfold ptr at *
    go_enter Try.func10, Try.ntmps10
    go_wp2_with (first | (go_at_call 21; refine pu.mono ?_; rintro e w1 ⟨rfl, hd1, ho1⟩))
    (try simp only [Exit.inBlock, Exit.then]); refine bodyPost_ret (results_none rfl _ _ _) rfl ?_
    have h := HF.out
    exact ⟨rfl, ⟨D, h.sk.off ho1 (by omega), hd1, h.hd.off ho1 (by omega), q1, q2, r1, r2, h.n0, h.n1⟩, ho1.wide (by omega) (by omega)⟩
  | true =>
    rw [hh] at pu
    cases hg : agedC t.c x m t.n with
    | false =>
      rw [Fs.come_old hh hg, ← hs', ← hnn, ← hcn]
      simp only [hg] at ad
      clear hh hs' hnn hcn hok hg ag
      unfold ptr at *
      go_enter Try.func10, Try.ntmps10
      go_wp2_with (first | (go_at_call 21; refine pu.mono ?_; rintro e w1 ⟨rfl, hd1, ho1⟩; have c0 := cc _ ho1; clear cc) | (go_at_call 22; refine (ad _ ho1).mono ?_; rintro e w2 ⟨rfl, hs2, ho2⟩))
      go_end0
      have h := HF.out
      exact ⟨rfl, ⟨D, hs2, hd1.off ho2 (by omega), (h.hd.off ho1 (by omega)).off ho2 (by omega), q1, q2, r1, r2, nb.1, nb.2⟩, (ho1.wide (by omega) (by omega)).trans (ho2.wide (by omega) (by omega))⟩
    | true =>
      rw [Fs.come_age hh hg, ← hnn, ← hcn]
      simp only [hg] at ad
      clear hh hs' hnn hcn hok hg
      unfold ptr at *
      go_enter Try.func10, Try.ntmps10
      go_wp2_with (first | (go_at_call 21; refine pu.mono ?_; rintro e w1 ⟨rfl, hd1, ho1⟩; have c0 := cc _ ho1; clear cc) | (go_at_call 22; refine (ad _ ho1).mono ?_; rintro e w2 ⟨rfl, hs2, ho2⟩) | (go_at_call 23; refine (ag _ nn cn' s' ⟨hs2, hd1.off ho2 (by omega), (HF.out.hd.off ho1 (by omega)).off ho2 (by omega), q1, q2, r1, r2, nb.1, nb.2⟩).mono ?_; rintro e w3 ⟨rfl, hs3, ho3⟩))
      go_end0
      exact ⟨rfl, ⟨D, hs3⟩, ((ho1.wide (by omega) (by omega)).trans (ho2.wide (by omega) (by omega))).trans ho3⟩

theorem new_f (cap seed : Int) (w : World) (m : Nat) (h1 : 1 ≤ m) (h2 : m ≤ 4096) (hm : ceilI cap 16 65536 = 16 * (m : Int)) :
    Calls Try.prog 8 #[.int .i64 cap, .int .i64 seed] w fun e w' => ∃ F, e = .returned (ptr F) ∧ Fl w' w.heap.size F seed m Fs.zero ∧ Grown w w' := by
  have nw := new_c cap seed w m h2 hm
  have wi := fun (W : World) (h : Skc W w.heap.size seed 0 m (fun _ _ => 0)) => width_c h h2
  have dn := fun W => new_b (16 * (m : Int)) seed W (2 * m) (by omega) (by rw [ceil_again cap m hm]; omega)
  clear hm
  unfold ptr at *
  go_enter Try.func8, Try.ntmps8
  go_wp2_with (first | (go_at_call 16; refine nw.mono ?_; rintro e w1 ⟨rfl, hs, hg⟩) | (go_at_call 18; refine (wi _ hs).mono ?_; rintro e w' ⟨rfl, hw⟩; have hw := hw.symm; subst hw) | (go_at_call 17; refine (dn _).mono ?_; rintro e w2 ⟨rfl, hd, hg2⟩))
  go_ret
  have hgA : Grown w2 (w2.alloc (.cells #[ptr w.heap.size, ptr (w1.heap.size + 1), .int .i64 0] 45)) := (Grown.refl _).alloc _ _
  refine ⟨w2.heap.size, rfl, ⟨w1.heap.size, (hs.grown hg2).grown hgA, hd.grown hgA, ⟨blk_alloc_new _ _⟩, by have := hs.last; omega, by have := hd.last; omega, h1, h2, Int.le_refl _, by show (0 : Int) < _; omega⟩, grownTrans (grownTrans hg hg2) hgA⟩
end Go.Proofs.Ytaelaikfpehciaa
