/-
  What New, Record and Often of the document's filter do when they are called; a filter and the document's, both in memory.
-/
import Derived.Test.YtaelaikfpehciaaFtLaws
import Derived.Test.YtaelaikfpehciaaDrPlay
namespace Go.Proofs.Ytaelaikfpehciaa
open Go.RowKit Go.Deep

/-- The document's filter at block F, with its sketch at S and its door at D. -/
structure Rld (w : World) (S D F : Nat) (seed : Int) (m : Nat) (t : Fs) : Prop where
  sk : Rf w S seed t.n (16 * m) t.c
  dr : Rd w D seed (2 * m) t.s
  hd : Hd3 w F 34 S D t.a
  h1 : S + 5 ≤ D
  h2 : D + 2 ≤ F
  m1 : 1 ≤ m
  m2 : m ≤ 4096
  n0 : 0 ≤ t.n
  n1 : t.n < 160 * (m : Int)
  cb : ∀ i, i < 4 → ∀ j, j < 16 * m → 0 ≤ t.c i j ∧ t.c i j ≤ 15
def Rl (w : World) (S F : Nat) (seed : Int) (m : Nat) (t : Fs) : Prop := ∃ D, Rld w S D F seed m t
namespace Rld
variable {w w' : World} {S D F m : Nat} {seed : Int} {t : Fs}
theorem off {b k : Nat} (h : Rld w S D F seed m t) (g : Off b k w w') (hd : F < b ∨ b + k ≤ S) : Rld w' S D F seed m t :=
  ⟨Tb.off h.sk g (by have := h.h1; have := h.h2; omega), Ow.off h.dr g (by have := h.h1; have := h.h2; omega), h.hd.off g (by have := h.h1; have := h.h2; omega), h.h1, h.h2, h.m1, h.m2, h.n0, h.n1, h.cb⟩
end Rld
namespace Rl
variable {w w' : World} {S F m : Nat} {seed : Int} {t : Fs}
theorem off {b k : Nat} (h : Rl w S F seed m t) (g : Off b k w w') (hd : F < b ∨ b + k ≤ S) : Rl w' S F seed m t := h.imp fun _ x => x.off g hd
theorem grown (h : Rl w S F seed m t) (g : Grown w w') : Rl w' S F seed m t := h.off (Off.of_grown g 0 0) (by omega)
theorem drewN (h : Rl w S F seed m t) (d : Nat) : Rl (w.drewN d) S F seed m t := h.grown (grownDrewN (Grown.refl _) d)
theorem cell2 (h : Rl w S F seed m t) : w.cell? ⟨F, 2, none⟩ = some (.int .i64 t.a) := by obtain ⟨D, h⟩ := h; exact h.hd.cell2
end Rl
theorem cC_bd {c : Nat → Nat → Int} {m M : Nat} (x : BitVec 64) (n : Int) (hb : ∀ i, i < 4 → ∀ j, j < M → 0 ≤ c i j ∧ c i j ≤ 15) : ∀ i, i < 4 → ∀ j, j < M → 0 ≤ cC c x m n i j ∧ cC c x m n i j ≤ 15 := by
  intro i hi j hj
  have := inc_bd (m := m) x hb i hi j hj
  unfold cC; split <;> omega

variable {w : World} {S D F m : Nat} {seed : Int} {t : Fs}
theorem rOften_f (h : Rl w S F seed m t) (key : Int) : Calls Try.prog 12 #[ptr F, .int .i64 key] w fun e w' => e = .returned (.int .i64 (t.oft (mixB seed key) m)) ∧ ∃ d, w' = w.drewN d := by
  obtain ⟨D, h⟩ := h
  have c0 := h.hd.cell0
  have c1 := h.hd.cell1
  have ct := refCount_c h.sk h.m1 h.m2 h.cb key
  have hs := fun d => rHas_any (h.dr.drewN d) (by have := h.m1; omega) (by have := h.m2; omega) key
  have hb := leastK_bd (g := kc t.c (mixB seed key) m) 4 (fun i hi => h.cb i hi _ (P_lt _ i m h.m1)) (by omega)
  unfold Fs.oft
  obtain ⟨x, hx⟩ : ∃ x, x = mixB seed key := ⟨_, rfl⟩
  rw [← hx] at ct hb ⊢
  simp only [← hx] at hs
  obtain ⟨k, hk⟩ : ∃ k, k = leastK (kc t.c x m) 4 := ⟨_, rfl⟩
  rw [← hk] at ct hb ⊢
  obtain ⟨b, hbe⟩ : ∃ b, b = hasS t.s x (2 * m) := ⟨_, rfl⟩
  simp only [← hbe] at hs
  rw [← hbe]
  clear h hx hk hbe
  unfold ptr at *
  cases b
  all_goals
    go_enter Try.func12, Try.ntmps12
    go_wp2_with (first | (go_at_call 27; refine ct.mono ?_; rintro e w1 ⟨rfl, d, rfl⟩) | (go_at_call 28; refine (hs _).mono ?_; rintro e w2 ⟨rfl, d2, rfl⟩))
    go_ret
    exact ⟨rfl, d + d2, rfl⟩

theorem rRecord_f (h : Rl w S F seed m t) (ha : 0 ≤ t.a) (ha' : t.a ≤ 4611686018427387903) (key : Int) : Calls Try.prog 11 #[ptr F, .int .i64 key] w fun e w' => e = .returned (.tuple #[]) ∧ Rl w' S F seed m (t.come (mixB seed key) m) ∧ Off S (F + 1 - S) w w' := by
  obtain ⟨D, h⟩ := h
  have c1 := h.hd.cell1
  have q1 := h.h1
  have q2 := h.h2
  have r1 := h.m1
  have r2 := h.m2
  have nb := nC_bd (c := t.c) (mixB seed key) h.n0 h.n1
  have HC : Hid (∀ i, i < 4 → ∀ j, j < 16 * m → 0 ≤ cC t.c (mixB seed key) m t.n i j ∧ cC t.c (mixB seed key) m t.n i j ≤ 15) := cC_bd _ _ h.cb
  have pu := rPut_any h.dr (by omega) (by omega) key
  have cc : ∀ W, Off D 2 w W → W.cell? ⟨F, 0, none⟩ = some (.pointer (some ⟨S, 0, none⟩)) := fun W o => (h.hd.off o (by omega)).cell0
  have cd : ∀ W W', Off D 2 w W → Off S 5 W W' → W'.cell? ⟨F, 1, none⟩ = some (.pointer (some ⟨D + 1, 0, none⟩)) := fun W W' o o' => ((h.hd.off o (by omega)).off o' (by omega)).cell1
  have ad : ∀ W, Off D 2 w W → _ := fun W o => refAdd_any (Tb.off h.sk o (by omega)) h.m1 h.m2 h.n0 (by have := h.n1; omega) h.cb key
  obtain ⟨a, hae⟩ : ∃ a, a = t.a := ⟨_, rfl⟩
  have ce : ∀ W W' W'', Off D 2 w W → Off S 5 W W' → Off D 2 W' W'' → W''.cell? ⟨F, 2, none⟩ = some (.int .i64 a) ∧ W''.frozen? ⟨F, 2, none⟩ = false := fun W W' W'' o o' o'' => by
    have := ((h.hd.off o (by omega)).off o' (by omega)).off o'' (by omega)
    rw [hae]; exact ⟨this.cell2, this.frozen 2⟩
  obtain ⟨x, hx⟩ : ∃ x, x = mixB seed key := ⟨_, rfl⟩
  rw [← hx] at pu nb HC ⊢
  simp only [← hx] at ad
  clear hx
  have HF : Hid (Rld w S D F seed m t) := h
  clear h
  obtain ⟨nn, hnn⟩ : ∃ nn, nn = nC t.c x m t.n := ⟨_, rfl⟩
  obtain ⟨cn', hcn⟩ : ∃ cn', cn' = cC t.c x m t.n := ⟨_, rfl⟩
  obtain ⟨ok, hok⟩ : ∃ ok, ok = okG (kc t.c x m) 4 := ⟨_, rfl⟩
  obtain ⟨s', hs'⟩ : ∃ s', s' = putS t.s x (2 * m) := ⟨_, rfl⟩
  simp only [← hnn, ← hcn, ← hok] at ad
  rw [← hs'] at pu
  rw [← hnn] at nb
  rw [← hcn] at HC
  have HA : Hid (a = t.a) := hae
  cases hh : hasS t.s x (2 * m) with
  | false =>
    rw [Fs.come_new hh, ← hs']
    rw [hh] at pu
    clear hh hs' hnn hcn hok ad nb cc cd ce HC hae
    unfold ptr at *
    go_enter Try.func11, Try.ntmps11
    go_wp2_with (first | (go_at_call 24; refine pu.mono ?_; rintro e w1 ⟨rfl, hd1, ho1⟩))
    (try simp only [Exit.inBlock, Exit.then]); refine bodyPost_ret (results_none rfl _ _ _) rfl ?_
    have h := HF.out
    exact ⟨rfl, ⟨D, Tb.off h.sk ho1 (by omega), hd1, h.hd.off ho1 (by omega), q1, q2, r1, r2, h.n0, h.n1, h.cb⟩, ho1.wide (by omega) (by omega)⟩
  | true =>
    rw [hh] at pu
    cases hg : agedC t.c x m t.n with
    | false =>
      rw [Fs.come_old hh hg, ← hs', ← hnn, ← hcn]
      simp only [hg] at ad
      clear hh hs' hnn hcn hok hg cd ce hae
      unfold ptr at *
      go_enter Try.func11, Try.ntmps11
      go_wp2_with (first | (go_at_call 24; refine pu.mono ?_; rintro e w1 ⟨rfl, hd1, ho1⟩; have c0 := cc _ ho1; clear cc) | (go_at_call 25; refine (ad _ ho1).mono ?_; rintro e w2 ⟨rfl, hs2, ho2⟩))
      go_end0
      have h := HF.out
      exact ⟨rfl, ⟨D, hs2, Ow.off hd1 ho2 (by omega), (h.hd.off ho1 (by omega)).off ho2 (by omega), q1, q2, r1, r2, nb.1, nb.2, HC.out⟩, (ho1.wide (by omega) (by omega)).trans (ho2.wide (by omega) (by omega))⟩
    | true =>
      rw [Fs.come_age hh hg, ← hnn, ← hcn]
      simp only [hg] at ad
      have cl := fun (W : World) (y : Rd W D seed (2 * m) s') => rClear_any y (by omega)
      rw [← hae] at ha ha' ⊢
      clear hh hs' hnn hcn hok hg hae
      unfold ptr at *
      go_enter Try.func11, Try.ntmps11
      go_wp2_with (first | (go_at_call 24; refine pu.mono ?_; rintro e w1 ⟨rfl, hd1, ho1⟩; have c0 := cc _ ho1; clear cc) | (go_at_call 25; refine (ad _ ho1).mono ?_; rintro e w2 ⟨rfl, hs2, ho2⟩; have d1 := cd _ _ ho1 ho2; clear cd) | (go_at_call 26; refine (cl _ (Ow.off hd1 ho2 (by omega))).mono ?_; rintro e w3 ⟨rfl, hd3, ho3⟩; obtain ⟨ce1, ce2⟩ := ce _ _ _ ho1 ho2 ho3; clear ce))
      go_end0
      have h := HF.out
      have o4 : Off F 1 w3 (w3.setCell ⟨F, 2, none⟩ (.int .i64 (a + 1))) := (Off.refl F 1 w3).setCell (a := ⟨F, 2, none⟩) (Nat.le_refl _) (by show F < F + 1; omega) _
      exact ⟨rfl, ⟨D, Tb.off (Tb.off hs2 ho3 (by omega)) o4 (by omega), Ow.off hd3 o4 (by omega), (((h.hd.off ho1 (by omega)).off ho2 (by omega)).off ho3 (by omega)).set2 _, q1, q2, r1, r2, nb.1, nb.2, HC.out⟩, (((ho1.wide (by omega) (by omega)).trans (ho2.wide (by omega) (by omega))).trans (ho3.wide (by omega) (by omega))).trans (o4.wide (by omega) (by omega))⟩

theorem rNew_f (cap seed : Int) (w : World) (m : Nat) (h1 : 1 ≤ m) (h2 : m ≤ 4096) (hm : ceilI cap 16 65536 = 16 * (m : Int)) :
    Calls Try.prog 9 #[.int .i64 cap, .int .i64 seed] w fun e w' => ∃ F, e = .returned (ptr F) ∧ Rl w' w.heap.size F seed m Fs.zero ∧ Grown w w' := by
  have nw := refNew_any cap seed w (16 * m) (by omega) (by rw [hm]; omega)
  obtain ⟨M, hM⟩ : ∃ M : Int, M = 16 * (m : Int) := ⟨_, rfl⟩
  have cw : ∀ W, Rf W w.heap.size seed 0 (16 * m) (fun _ _ => 0) → W.cell? ⟨w.heap.size, 0, none⟩ = some (.int .i64 M) := fun W h => by
    have := Tb.cellH h (k := 0) rfl
    rw [this, hM]; congr 2
  have dn := fun W => rNew_any M seed W (2 * m) (by omega) (by rw [hM, ceil_again cap m hm]; omega)
  clear hm hM
  unfold ptr at *
  go_enter Try.func9, Try.ntmps9
  go_wp2_with (first | (go_at_call 19; refine nw.mono ?_; rintro e w1 ⟨rfl, hs, hg⟩; have cw1 := cw _ hs; clear cw) | (go_at_call 20; refine (dn _).mono ?_; rintro e w2 ⟨rfl, hd, hg2⟩))
  go_ret
  have hgA : Grown w2 (w2.alloc (.cells #[ptr w.heap.size, ptr (w1.heap.size + 1), .int .i64 0] 34)) := (Grown.refl _).alloc _ _
  refine ⟨w2.heap.size, rfl, ⟨w1.heap.size, Tb.grown (Tb.grown hs hg2) hgA, Ow.grown hd hgA, ⟨blk_alloc_new _ _⟩, by have := Tb.last hs; omega, by have := Ow.last hd; omega, h1, h2, Int.le_refl _, by show (0 : Int) < _; omega, fun _ _ _ _ => ⟨Int.le_refl _, by show (0 : Int) ≤ 15; decide⟩⟩, grownTrans (grownTrans hg hg2) hgA⟩

/-- A filter and the document's, one behind the other, that are alike. -/
structure BothF (w : World) (SX FX SY FY : Nat) (seed : Int) (m : Nat) (t : Fs) : Prop where
  x : Fl w SX FX seed m t
  y : Rl w SY FY seed m t
  apart : FX < SY
namespace BothF
variable {w w' w'' : World} {SX FX SY FY m : Nat} {seed : Int} {t t' : Fs}
theorem grown (h : BothF w SX FX SY FY seed m t) (g : Grown w w') : BothF w' SX FX SY FY seed m t := ⟨h.x.grown g, h.y.grown g, h.apart⟩
theorem drewN (h : BothF w SX FX SY FY seed m t) (d : Nat) : BothF (w.drewN d) SX FX SY FY seed m t := h.grown (grownDrewN (Grown.refl _) d)
theorem keepY (h : BothF w SX FX SY FY seed m t) (o : Off SX (FX + 1 - SX) w w') : Rl w' SY FY seed m t := h.y.off o (by have := h.apart; have := h.x.lt; omega)
theorem mk2 (h : BothF w SX FX SY FY seed m t) (hx : Fl w' SX FX seed m t') (hy : Rl w'' SY FY seed m t') (o : Off SY (FY + 1 - SY) w' w'') : BothF w'' SX FX SY FY seed m t' :=
  ⟨hx.off o (by have := h.apart; omega), hy, h.apart⟩
end BothF
end Go.Proofs.Ytaelaikfpehciaa
