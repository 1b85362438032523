/-
  Sums of two slices behind one another; append of a slice of numbers to one that has a block of its own. No condition but those told at each sentence.
-/
import Derived.Test.YtjdaacmopgfolaaDoorWgSmall
namespace Go.Proofs.YtjdaacmopgfolaaDoor
open Go.RowKit Go.Deep

/-- The one's n, then the other's. -/
def cat (z y : Nat → Int) (n j : Nat) : Int := if j < n then z j else y (j - n)
theorem sum_cat1 (z y : Nat → Int) (n k : Nat) (h : k ≤ n) : sumTo (cat z y n) k = sumTo z k := by
  induction k with
  | zero => rfl
  | succ k ih =>
    rw [sumTo, sumTo, ih (by omega), cat, if_pos (by omega)]
theorem cat2 (z y : Nat → Int) (n k : Nat) : cat z y n (n + k) = y k := by
  unfold cat; rw [if_neg (by omega)]; congr 1; omega
theorem sum_cat2 (z y : Nat → Int) (n k : Nat) : sumTo (cat z y n) (n + k) = sumTo z n + sumTo y k := by
  induction k with
  | zero => rw [Nat.add_zero, sum_cat1 z y n n (Nat.le_refl n)]; simp [sumTo]
  | succ k ih =>
    rw [← Nat.add_assoc, sumTo, sumTo, ih, cat2]; omega
theorem fine_cat1 {z y : Nat → Int} {n k : Nat} (h : Fine z k) (hk : k ≤ n) : Fine (cat z y n) k := fun i hi => by
  rw [sum_cat1 z y n i (by omega), cat, if_pos (by omega)]; exact h i hi
theorem Fine.le {z : Nat → Int} {n : Nat} (h : Fine z n) (k d : Nat) (hk : k + d ≤ n) : sumTo z k ≤ sumTo z (k + d) := by
  induction d with
  | zero => exact Int.le_refl _
  | succ d ih =>
    have h1 := ih (by omega)
    have h2 := (adx_zero (h (k + d) (by omega))).1
    rw [← Nat.add_assoc, sumTo]; omega
theorem Fine.nonneg {z : Nat → Int} {n i : Nat} (h : Fine z n) (hi : i < n) : 0 ≤ z i := (adx_zero (h i hi)).1
theorem adx_of {s x : Int} (h0 : 0 ≤ x) (h1 : x ≤ 4611686018427387903 - s) : adx s x = 0 := by
  unfold adx; rw [if_neg (by omega), if_neg (by omega)]
theorem adx_two {s x : Int} (h0 : 0 ≤ x) (h1 : adx s x ≠ 0) : adx s x = 2 := by
  unfold adx at h1 ⊢
  rw [if_neg (by omega)] at h1 ⊢
  split
  · rfl
  · rename_i h; rw [if_neg h] at h1; exact absurd rfl h1

theorem sums_cat {z y : Nat → Int} {n m : Nat} {x e a1 m1 v f a2 m2 s g a3 m3 : Int} (h1 : Tot z n x e a1 m1) (h2 : Tot y m v f a2 m2) (h3 : Tot (cat z y n) (n + m) s g a3 m3) :
    (e ≠ 0 → g ≠ 0 ∧ s = 0) ∧ (e = 0 → f ≠ 0 → g ≠ 0 ∧ s = 0) ∧ (e = 0 → f = 0 → 0 ≤ x ∧ x ≤ 4611686018427387903 ∧ 0 ≤ v ∧ v ≤ 4611686018427387903 ∧ (4611686018427387903 - v < x → g = 2 ∧ s = 0) ∧ (¬ 4611686018427387903 - v < x → g = 0 ∧ s = x + v)) := by
  rcases h1 with ⟨fz, rfl, rfl, rfl, rfl⟩ | ⟨k, hk, fk, gk, rfl, rfl, rfl, rfl⟩
  · refine ⟨fun h => absurd rfl h, fun _ hf => ?_, fun _ hf => ?_⟩
    · rcases h2 with ⟨_, _, rfl, _, _⟩ | ⟨k, hk, fk, gk, rfl, rfl, rfl, rfl⟩
      · exact absurd rfl hf
      · rcases h3 with ⟨fc, _⟩ | ⟨i, hi, fi, gi, rfl, rfl, _, _⟩
        · have h := adx_zero (fc (n + k) (by omega))
          rw [sum_cat2, cat2] at h
          have hb := fz.bd
          exact absurd (adx_of h.1 (by omega)) gk
        · exact ⟨gi, rfl⟩
    · rcases h2 with ⟨fy, rfl, rfl, rfl, rfl⟩ | ⟨k, hk, fk, gk, rfl, rfl, rfl, rfl⟩
      · have b1 := fz.bd
        have b2 := fy.bd
        refine ⟨b1.1, b1.2, b2.1, b2.2, fun hx => ?_, fun hx => ?_⟩
        · rcases h3 with ⟨fc, _⟩ | ⟨i, hi, fi, gi, rfl, rfl, _, _⟩
          · have b3 := fc.bd
            rw [sum_cat2] at b3
            omega
          · refine ⟨adx_two ?_ gi, rfl⟩
            unfold cat
            split
            · exact fz.nonneg (by omega)
            · exact fy.nonneg (by omega)
        · have fc : Fine (cat z y n) (n + m) := fun i hi => by
            by_cases h : i < n
            · exact fine_cat1 (y := y) fz (Nat.le_refl n) i h
            · obtain ⟨k, rfl⟩ : ∃ k, i = n + k := ⟨i - n, by omega⟩
              rw [sum_cat2, cat2]
              have l := fy.le (k + 1) (m - (k + 1)) (by omega)
              rw [show k + 1 + (m - (k + 1)) = m by omega, sumTo] at l
              exact adx_of (fy.nonneg (by omega)) (by omega)
          obtain ⟨r1, r2, _, _⟩ := h3.same (.inl ⟨fc, rfl, rfl, rfl, rfl⟩)
          exact ⟨r2, r1.trans (sum_cat2 z y n m)⟩
      · exact absurd hf gk
  · have hb : adx (sumTo (cat z y n) k) (cat z y n k) = adx (sumTo z k) (z k) := by rw [sum_cat1 z y n k (by omega), cat, if_pos hk]
    obtain ⟨r1, r2, _, _⟩ := h3.same (.inr ⟨k, by omega, fine_cat1 fk (by omega), by rw [hb]; exact gk, rfl, rfl, rfl, rfl⟩)
    refine ⟨fun _ => ⟨by rw [r2, hb]; exact gk, r1⟩, fun h => absurd h gk, fun h => absurd h gk⟩

theorem infoInt : (Tryd.prog.info? 3).map (fun i => (i.zero, i.size, i.bytes)) = some (some (.int .i64 0), 1, 8) := by kernel_rfl
theorem vec_empty (w : World) (z : Nat → Int) : Vec (w.alloc (.cells #[] 3)) 3 1 (some ⟨w.heap.size, 0, none⟩) 0 0 (fun j => .int .i64 (z j)) :=
  Or.inr ⟨w.heap.size, #[], rfl, blk_alloc_new _ _, Nat.le_refl _, Nat.zero_le _, rfl, fun j hj => absurd hj (by omega)⟩
theorem Vec.cap_ge {w : World} {e : TypeId} {s : Nat} {p : Option Addr} {n c : Nat} {f : Nat → Value} (h : Vec w e s p n c f) : n ≤ c := by
  rcases h with ⟨_, rfl, rfl⟩ | ⟨_, _, _, _, h, _⟩
  · exact Nat.le_refl _
  · exact h
theorem run_append_sl {w : World} (ty : TypeId) {p : Option Addr} {n c : Nat} {z : Nat → Int} (h : Vec w 3 1 p n c (fun j => .int .i64 (z j))) {q : Option Addr} {m cq : Nat} {y : Nat → Int} (hs : Sl w q m y) (hnm : n + m ≤ 1000) :
    ∃ p' c' w', (Builtin.append_ #[32, 32] ty #[.slice p n c, .slice q m cq]).run Tryd.prog w = .ok (.slice p' (n + m) c') w' ∧ Vec w' 3 1 p' (n + m) c' (fun j => .int .i64 (cat z y n j)) ∧ Out (In p) w w' ∧ (p' = p ∨ p' = some ⟨w.heap.size, 0, none⟩) := by
  by_cases hm : m = 0
  · subst hm
    obtain ⟨i, hi, _⟩ := info_parts infoInt
    have hle := h.cap_ge
    refine ⟨p, c, w, ?_, h.congr (fun j hj => by unfold cat; rw [if_pos (by omega)]), Out.refl _ _, .inl rfl⟩
    cases p <;> cases q <;> simp [Builtin.append_, run_underlying Tryd.underlying32, sizeOf, typeInfo, hi, hle, storeCells, Builtin.lenOf, Builtin.firstCells, loadCells, loadCellsFrom]
  · rcases hs with h0 | ⟨b, off, rfl, _, hc⟩
    · exact absurd h0 hm
    · obtain ⟨p', c', w', hr, hv, ho, hp⟩ := run_append_vec (P := Tryd.prog) (cx := cq) ty Tryd.underlying32 infoInt rfl h (ad := ⟨b, off, none⟩) (m := m) (g := fun j => .int .i64 (y j)) (by omega) (fun j hj => by
        have e : (⟨b, off, none⟩ : Addr).add j = ⟨b, off + j, none⟩ := by unfold Addr.add; split <;> simp_all
        rw [e]; exact hc j (by omega)) (fun _ _ => rfl) (by omega) (by omega)
      exact ⟨p', c', w', hr, hv.congr (fun j _ => by unfold cat; rw [Nat.mul_one]; split <;> rfl), ho, hp⟩
theorem wpList_append_sl {w : World} {ops : Array Oper} {rest : List Oper} {o : Oper} {a : Act} {Q : Exit → Act → World → Prop}
    (hg : o.guard = none) (so xo : Operand) (hop : o.op = Op.call { callee := Callee.builtin Builtin.append, args := #[so, xo], argTypes := #[32, 32] })
    {p : Option Addr} {n c : Nat} {z : Nat → Int} (hs : a.eval so = .slice p n c) (h : Vec w 3 1 p n c (fun j => .int .i64 (z j)))
    {q : Option Addr} {m cq : Nat} {y : Nat → Int} (hx : a.eval xo = .slice q m cq) (hq : Sl w q m y) (hnm : n + m ≤ 1000)
    (hK : ∀ p' c' w', Vec w' 3 1 p' (n + m) c' (fun j => .int .i64 (cat z y n j)) → Out (In p) w w' → (p' = p ∨ p' = some ⟨w.heap.size, 0, none⟩) → wpList Tryd.prog ops Q rest (a.put o.dst (.slice p' (n + m) c')) w') :
    wpList Tryd.prog ops Q (o :: rest) a w := by
  refine wpList_plain hg fun K hK' => ?_
  obtain ⟨p', c', w', hr, h2, h3, h4⟩ := run_append_sl (cq := cq) o.type h hq hnm
  unfold Oper.wp execOp
  simp only [hop, resolve, invoke, builtin, Sem.run_bind, Sem.run_pure, Result.andThen_ok, List.map_toArray, List.map_cons, List.map_nil, hs, hx, hr]
  exact hK' _ _ (hK p' c' w' h2 h3 h4)
theorem append_keeps {w W w' : World} {cs : Array Value} {t : TypeId} {p : Option Addr} (g : Grown w W) (o : Out (In (some ⟨W.heap.size, 0, none⟩)) (W.alloc (.cells cs t)) w') (q : p = some ⟨W.heap.size, 0, none⟩ ∨ p = some ⟨(W.alloc (.cells cs t)).heap.size, 0, none⟩) :
    Grown w w' ∧ ∀ i, In p i → w.heap.size ≤ i := by
  refine ⟨o.grown (g.alloc _ _) (fun i hi => by rw [hi.eq]; exact g.2.2), fun i hi => ?_⟩
  have h := g.2.2
  rcases q with rfl | rfl
  · rw [hi.eq]; exact h
  · rw [hi.eq, size_new]; omega
theorem tot_ex (z : Nat → Int) (len : Nat) : ∃ s n a m, Tot z len s n a m := by
  have h : Fine z len ∨ ∃ k : Nat, k < len ∧ Fine z k ∧ adx (sumTo z k) (z k) ≠ 0 := by
    induction len with
    | zero => exact .inl (Fine.zero z)
    | succ len ih =>
      rcases ih with h | ⟨k, hk, h⟩
      · by_cases e : adx (sumTo z len) (z len) = 0
        · exact .inl (h.succ e)
        · exact .inr ⟨len, by omega, h, e⟩
      · exact .inr ⟨k, by omega, h⟩
  rcases h with h | ⟨k, hk, h, e⟩
  · exact ⟨_, _, _, _, .inl ⟨h, rfl, rfl, rfl, rfl⟩⟩
  · exact ⟨_, _, _, _, .inr ⟨k, hk, h, e, rfl, rfl, rfl, rfl⟩⟩
/-- Total where what it tells is known. -/
theorem total_any (W : World) (p : Option Addr) (len cap : Nat) (z : Nat → Int) (w : World) (hs : Sl w p len z) (hlen : len ≤ 1000) (hg : Grown W w) {s n a m : Int} (h : Tot z len s n a m) :
    Calls Tryd.prog 13 #[.slice p len cap] w fun e w' => ∃ v, e = .returned (.tuple #[.int .i64 s, v]) ∧ FaultIs w' v n a m ∧ Grown W w' :=
  (total_c p len cap z w hs hlen).mono fun e w' ⟨s', n', a', m', v, he, ht, hf, hg'⟩ => by
    obtain ⟨rfl, rfl, rfl, rfl⟩ := ht.same h
    exact ⟨v, he, hf, grownTrans hg hg'⟩
theorem total_nil (W : World) (p : Option Addr) (len cap : Nat) (z : Nat → Int) (w : World) (hs : Sl w p len z) (hlen : len ≤ 1000) (hg : Grown W w) {s n a m : Int} (h : Tot z len s n a m) (hn : n = 0) :
    Calls Tryd.prog 13 #[.slice p len cap] w fun e w' => e = .returned (.tuple #[.int .i64 s, .nilIface]) ∧ Grown W w' :=
  (total_any W p len cap z w hs hlen hg h).mono fun e w' ⟨v, he, hf, hg'⟩ => by
    subst hn
    obtain rfl := hf.nil
    exact ⟨he, hg'⟩
theorem total_bad (W : World) (p : Option Addr) (len cap : Nat) (z : Nat → Int) (w : World) (hs : Sl w p len z) (hlen : len ≤ 1000) (hg : Grown W w) {s n a m : Int} (h : Tot z len s n a m) (hn : n ≠ 0) :
    Calls Tryd.prog 13 #[.slice p len cap] w fun e w' => ∃ b, e = .returned (.tuple #[.int .i64 s, .iface 46 (.pointer (some ⟨b, 0, none⟩))]) ∧ FaultIs w' (.iface 46 (.pointer (some ⟨b, 0, none⟩))) n a m ∧ Grown W w' :=
  (total_any W p len cap z w hs hlen hg h).mono fun e w' ⟨v, he, hf, hg'⟩ => by
    obtain ⟨b, rfl, _⟩ := hf.some hn
    exact ⟨b, he, hf, hg'⟩
theorem vec_first {w : World} {p : Option Addr} {n c : Nat} {y : Nat → Int} (h : Vec w 3 1 p (0 + n) c (fun j => .int .i64 (cat (fun _ => 0) y 0 j))) : Vec w 3 1 p n c (fun j => .int .i64 (y j)) := by
  rw [Nat.zero_add] at h
  exact h.congr (fun j _ => by unfold cat; rw [if_neg (by omega)]; rfl)
end Go.Proofs.YtjdaacmopgfolaaDoor
