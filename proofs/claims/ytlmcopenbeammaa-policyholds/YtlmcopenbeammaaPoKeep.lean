/-
  Where all fits none goes. Mathematics alone, but for events in a slice that came in. No condition but those told at each sentence.
-/
import Derived.Test.YtlmcopenbeammaaPoPlay
import Derived.Test.YtlmcopenbeammaaGenArgs
namespace Go.Proofs.Ytlmcopenbeammaa.Po
open Go.RowKit Go.Deep Cm
variable {C seed : Int} {mw : Nat} {y : Ps}
/-- What the first k events weigh. -/
def evsum (z : Nat → Nat → Int) : Nat → Int
  | 0 => 0
  | k + 1 => evsum z k + z k 3
theorem ev_keeps (h : Fine C y) (d n k v : Int) (hv : 0 ≤ v) (ht : y.t.tot 3 + v ≤ C) : (y.ev C seed mw d n k v).2 = [] ∧ (y.ev C seed mw d n k v).1.t.tot 3 ≤ y.t.tot 3 + v ∧ (y.ev C seed mw d n k v).1.t.cnt 3 ≤ y.t.cnt 3 + 1 := by
  have hc := wh_le C
  rw [h.cap] at hc
  have hn := h.n
  unfold Ps.ev
  by_cases hz : refE y C d n v = 0
  · rw [if_pos hz]
    rcases refE_zero hz with ⟨rfl, n1, n2, hhv, hk⟩ | ⟨rfl, hk, hhv⟩ | ⟨rfl, hk⟩ | ⟨rfl, hk⟩
    · rw [if_pos rfl]
      obtain ⟨v0, v1, v2⟩ := heavy_zero hhv
      have h1 := (h.half.rec1 (seed := seed) (mw := mw) k).hit false
      have s := hit_sm (C := C) (y := y.rec1 seed mw k) h.wf false
      have st := s.tot
      have sc := s.cnt
      rw [show (y.rec1 seed mw k).t.n = 3 from h.n] at st sc
      have st : ((y.rec1 seed mw k).hit C false).t.tot 3 = y.t.tot 3 := st
      have sc : ((y.rec1 seed mw k).hit C false).t.cnt 3 = y.t.cnt 3 := sc
      obtain ⟨hb, hp⟩ := h1.put n k v ⟨n1, n2⟩ ⟨v0, v1⟩ hk (by rw [st]; omega)
      have hb : Half C (y.ad C seed mw n k v) := hb
      have hp : (y.ad C seed mw n k v).t = ((y.rec1 seed mw k).hit C false).t.push 0 n v := hp
      obtain ⟨p1, p2⟩ := Ds.tot_push ((y.rec1 seed mw k).hit C false).t 0 n v 3
      rw [if_pos (by decide), st, ← hp] at p1
      rw [if_pos (by decide), sc, ← hp] at p2
      have g := set_ok (seed := seed) (mw := mw) hb
      have u := hb.wf.shed_sm 0 (y.ad C seed mw n k v).q.x
      have ut := u.tot
      have uc := u.cnt
      rw [hb.n] at ut uc
      obtain ⟨g1, g2⟩ := g.none (by show ((y.ad C seed mw n k v).t.shed 0 _).tot 3 ≤ C; rw [ut, p1]; omega)
      refine ⟨g1, ?_, ?_⟩
      · rw [g2]; show ((y.ad C seed mw n k v).t.shed 0 _).tot 3 ≤ _; rw [ut, p1]; exact Int.le_refl _
      · rw [g2]; show ((y.ad C seed mw n k v).t.shed 0 _).cnt 3 ≤ _; rw [uc, p2]; exact Nat.le_refl _
    · rw [if_neg (by decide), if_pos rfl]
      obtain ⟨v0, v1, v2⟩ := heavy_zero hhv
      obtain ⟨hw, hwt⟩ := h.half.wtd n v ⟨v0, v1⟩ hk (by omega)
      have hf : (y.t.find n).isSome = true := by rw [← h.keys n]; exact hk
      obtain ⟨i, w0, hm⟩ := (h.wf.find_iff n).1 hf
      have hw0 := (h.wf.els i _ hm).2.2.1
      have hi := h.wf.lt hm
      obtain ⟨t1, t2⟩ := Ds.tot_reweigh h.wf (w := v) hm 3
      rw [if_pos (by omega), if_pos (by omega), ← hwt] at t1
      rw [← hwt] at t2
      have s := rd_sm (C := C) (seed := seed) (mw := mw) hw.wf n
      have st := s.tot
      have sc := s.cnt
      rw [hw.n] at st sc
      have hb := hw.rd (seed := seed) (mw := mw) n
      have g := set_ok (seed := seed) (mw := mw) hb
      have u := hb.wf.shed_sm 0 ((y.wtd n v).rd C seed mw n).q.x
      have ut := u.tot
      have uc := u.cnt
      rw [hb.n] at ut uc
      obtain ⟨g1, g2⟩ := g.none (by show (((y.wtd n v).rd C seed mw n).t.shed 0 _).tot 3 ≤ C; rw [ut, st]; omega)
      refine ⟨g1, ?_, ?_⟩
      · rw [g2]; show (((y.wtd n v).rd C seed mw n).t.shed 0 _).tot 3 ≤ _; rw [ut, st]; omega
      · rw [g2]; show (((y.wtd n v).rd C seed mw n).t.shed 0 _).cnt 3 ≤ _; rw [uc, sc]; omega
    · rw [if_neg (by decide), if_neg (by decide), if_pos rfl]
      have s := rd_sm (C := C) (seed := seed) (mw := mw) h.wf n
      have st := s.tot
      have sc := s.cnt
      rw [h.n] at st sc
      exact ⟨rfl, by show (y.rd C seed mw n).t.tot 3 ≤ _; omega, by show (y.rd C seed mw n).t.cnt 3 ≤ _; omega⟩
    · rw [if_neg (by decide), if_neg (by decide), if_neg (by decide)]
      have hf : (y.t.find n).isSome = true := by rw [← h.keys n]; exact hk
      obtain ⟨i, w0, hm⟩ := (h.wf.find_iff n).1 hf
      obtain ⟨_, _, r3, r4, _⟩ := rm_facts h.wf h.n hm
      have := (h.wf.els i _ hm).2.2.1
      exact ⟨rfl, by show (y.rm n).t.tot 3 ≤ _; omega, by show (y.rm n).t.cnt 3 ≤ _; omega⟩
  · rw [if_neg hz]
    exact ⟨rfl, by show y.t.tot 3 ≤ _; omega, by show y.t.cnt 3 ≤ _; omega⟩
theorem evsum_mono {z : Nat → Nat → Int} {len : Nat} (hz : ∀ i, i < len → 0 ≤ z i 3) : ∀ k, k ≤ len → 0 ≤ evsum z k ∧ evsum z k ≤ evsum z len := by
  have up : ∀ d k, k + d = len → evsum z k ≤ evsum z len := fun d => by
    induction d with
    | zero => intro k hk; rw [show k = len by omega]; exact Int.le_refl _
    | succ d ih =>
      intro k hk
      have h1 := ih (k + 1) (by omega)
      have h2 := hz k (by omega)
      have e : evsum z (k + 1) = evsum z k + z k 3 := rfl
      omega
  intro k hk
  refine ⟨?_, up (len - k) k (by omega)⟩
  induction k with
  | zero => exact Int.le_refl _
  | succ k ih =>
    have h1 := ih (by omega)
    have h2 := hz k (by omega)
    show 0 ≤ evsum z k + z k 3
    omega
theorem pl_keeps {z : Nat → Nat → Int} {len : Nat} (h : Fine C y) (h0 : y.t.tot 3 = 0 ∧ y.t.cnt 3 = 0 ∧ 0 ≤ y.f.a) (hz : ∀ i, i < len → 0 ≤ z i 3) (hC : evsum z len ≤ C) : ∀ k, k ≤ len → (pl C seed mw z y k).2 = [] ∧ (pl C seed mw z y k).1.t.tot 3 ≤ evsum z k ∧ (pl C seed mw z y k).1.t.cnt 3 ≤ k
  | 0, _ => ⟨rfl, by show y.t.tot 3 ≤ 0; omega, by show y.t.cnt 3 ≤ 0; omega⟩
  | k + 1, hk => by
    obtain ⟨h1, h2, h3⟩ := pl_keeps h h0 hz hC k (by omega)
    have hf := (pl_ok (seed := seed) (mw := mw) (z := z) h h0.2.2 k).1
    have m := evsum_mono hz (k + 1) hk
    have e : evsum z (k + 1) = evsum z k + z k 3 := rfl
    obtain ⟨e1, e2, e3⟩ := ev_keeps (seed := seed) (mw := mw) hf (z k 0) (z k 1) (z k 2) (z k 3) (hz k (by omega)) (by omega)
    refine ⟨?_, ?_, ?_⟩
    · show (pl C seed mw z y k).2 ++ _ = []
      rw [h1, e1]; rfl
    · show (Ps.ev _ C seed mw _ _ _ _).1.t.tot 3 ≤ evsum z k + z k 3
      omega
    · show (Ps.ev _ C seed mw _ _ _ _).1.t.cnt 3 ≤ k + 1
      omega
theorem evs_in1 {w w0 : World} {a : Option Addr} {len cap : Nat} {z : Nat → Nat → Int} {Φ : Nat → Prop} (hg : IsGrid .i64 4 w0 a len cap z) (g : Grown w0 w) (hb : ∀ k, Φ k → w0.heap.size ≤ k) (hl : ∀ k, Φ k → k < w.heap.size) : ∃ b, Evs w a len z b ∧ ¬ Φ b := by
  by_cases h0 : len = 0
  · exact ⟨w.heap.size, .inl h0, fun h => Nat.lt_irrefl _ (hl _ h)⟩
  · rcases grid_open (by decide) hg with h | ⟨b, off, rfl, hbl, hc⟩
    · exact absurd h h0
    · refine ⟨b, .inr ⟨off, rfl, Nat.lt_of_lt_of_le hbl g.2.2, fun i hi => ⟨fun j hj => ?_, ?_⟩⟩, fun h => by have := hb b h; omega⟩
      · rw [cell_same (grown_block g hbl)]; exact hc i hi j hj
      · rcases hg with ⟨h, _⟩ | ⟨x, _, _, _, hq⟩
        · cases h
        · exact (hq i hi 1 (by decide)).2
end Go.Proofs.Ytlmcopenbeammaa.Po
