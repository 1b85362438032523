/-
  Append of any slice, nothing too; events held against each other; two policies and a slice that is appended to. No condition but those told at each sentence.
-/
import Derived.Test.YtlmcopenbeammaaGreatPoTwo
import Derived.Test.YtlmcopenbeammaaGreatPoTell
namespace Go.Proofs.YtlmcopenbeammaaGreat.Po
open Go.RowKit Go.Deep Cm
theorem infoEv : (Tryz.prog.info? 32).map (fun i => (i.zero, i.size, i.bytes)) = some (some (.agg #[.int .i64 0, .int .i64 0, .int .i64 0, .int .i64 0]), 4, 32) := by kernel_rfl
theorem guardEv : Tryz.prog.eqGuardType Tryz.prog.depth 32 = false := by kernel_rfl
theorem eqEv (a b c d x y z u : Int) (w : World) : (Op.equalIn 10000 32 (.agg #[.int .i64 a, .int .i64 b, .int .i64 c, .int .i64 d]) (.agg #[.int .i64 x, .int .i64 y, .int .i64 z, .int .i64 u])).run Tryz.prog w = .ok (a == x && b == y && c == z && d == u) w := by
  have u3 := Tryz.underlying3
  have a3 := Tryz.isAgg3
  have z3 := Tryz.sizeOf3
  rw [show (10000 : Nat) = 9999 + 1 from rfl, Op.equalIn]
  simp only [Sem.run_bind, run_underlying Tryz.underlying32, Result.andThen_ok]
  go_simp
  by_cases h : a = x <;> by_cases k : b = y <;> by_cases l : c = z <;> by_cases m : d = u <;> simp [h, k, l, m]
theorem wpList_append_any {P : Program} {w : World} {ops : Array Oper} {rest : List Oper} {o : Oper} {a : Act} {Q : Exit → Act → World → Prop}
    (hg : o.guard = none) (so xo : Operand) (t : TypeId) (hop : o.op = Op.call { callee := Callee.builtin Builtin.append, args := #[so, xo], argTypes := #[t, t] })
    {e : TypeId} {z : Value} {s bytes : Nat} (ht : P.underlying t = some (.slice e)) (hinfo : (P.info? e).map (fun i => (i.zero, i.size, i.bytes)) = some (some z, s, bytes)) (hzs : z.cells.size = s)
    {p q : Option Addr} {n c m cx : Nat} {f g : Nat → Value} (hs : a.eval so = .slice p n c) (h : Vec w e s p n c f)
    (hx : a.eval xo = .slice q m cx) (hq : m = 0 ∨ ∃ ad, q = some ad ∧ ∀ j, j < m * s → w.cell? (ad.add j) = some (g j)) (h1 : ∀ j, j < m * s → (g j).oneCell' = true) (hb : (n + m) * bytes ≤ 140737488355328) (h63 : n + m ≤ 9223372036854775807)
    (hK : ∀ p' c' w', Vec w' e s p' (n + m) c' (fun j => if j < n * s then f j else g (j - n * s)) → Out (In p) w w' → (p' = p ∨ p' = some ⟨w.heap.size, 0, none⟩) → wpList P ops Q rest (a.put o.dst (.slice p' (n + m) c')) w') :
    wpList P ops Q (o :: rest) a w := by
  by_cases hm : m = 0
  · subst hm
    refine wpList_append_nothing hg so xo t hop ht hinfo hs hx (vec_le h) ?_
    exact hK p c w (h.congr fun j hj => (if_pos hj).symm) (Out.refl _ _) (.inl rfl)
  · rcases hq with e | ⟨ad, rfl, hc⟩
    · exact absurd e hm
    · exact wpList_append_vec hg so xo t hop ht hinfo hzs hs h hx (by omega) hc h1 hb h63 hK
variable {W w w' : World} {A B : Nat} {C seed : Int} {mw : Nat} {y x : Ps} {vs : List Vd}
/-- The slice at the head is written to, or another one takes its place. -/
theorem Two.write {V V' : Vd} (h : Two W w A B C seed mw y x (V :: vs)) (o : Out (In V.p) w w') (hd : ∀ U ∈ vs, ∀ k, In U.p k → ¬ In V.p k) (hV' : V'.On w') (hp : V'.p = V.p ∨ ∀ k, In V'.p k → w.heap.size ≤ k) : Two W w' A B C seed mw y x (V' :: vs) := by
  obtain ⟨Φ, Ψ, h1, h2, h3, h4, h5, h6, h7⟩ := h.ex
  obtain ⟨v1, v2⟩ := h7 V (List.mem_cons_self ..)
  refine ⟨Φ, Ψ, h1.out o (fun k hk hv => (v2 k hv).1 hk), h2.out o (fun k hk hv => (v2 k hv).2.1 hk), o.grown h3 (fun k hk => (v2 k hk).2.2), h4, h5, h6, fun U hU => ?_⟩
  rcases List.mem_cons.1 hU with rfl | hU
  · refine ⟨hV', fun k hk => ?_⟩
    rcases hp with e | e
    · rw [e] at hk; exact v2 k hk
    · have := e k hk
      exact ⟨fun hf => by have := h1.lt hf; omega, fun hf => by have := h2.lt hf; omega, Nat.le_trans h3.2.2 this⟩
  · obtain ⟨u1, u2⟩ := h7 U (List.mem_cons_of_mem _ hU)
    exact ⟨Vec.out u1 o (hd U hU), u2⟩
/-- Events in a slice of their own. -/
def evD (z : Nat → Nat → Int) (j : Nat) : Value := .int .i64 (z (j / 4) (j % 4))
def evS (p : Option Addr) (n c : Nat) (z : Nat → Nat → Int) : Vd := ⟨32, 4, p, n, c, evD z⟩
theorem evS_cell {w : World} {p : Option Addr} {n c k : Nat} {z : Nat → Nat → Int} (h : (evS p n c z).On w) (hk : k < n) : ∃ b, p = some ⟨b, 0, none⟩ ∧ b < w.heap.size ∧ ∀ i, i < n → ∀ j, j < 4 → w.cell? ⟨b, 0 + (i * 4 + j), none⟩ = some (.int .i64 (z i j)) := by
  obtain ⟨b, e, hb, hc, _⟩ := Vec.opens h (show 0 < n by omega)
  refine ⟨b, e, hb, fun i hi j hj => ?_⟩
  have := hc (i * 4 + j) (by show i * 4 + j < n * 4; omega)
  rw [Nat.zero_add, this]
  show some (evD z (i * 4 + j)) = _
  unfold evD
  rw [show (i * 4 + j) / 4 = i by omega, show (i * 4 + j) % 4 = j by omega]
theorem play_in (h : Two W w A B C seed mw y x vs) (hf : Fine C y) (ha : 0 ≤ y.f.a ∧ y.f.a ≤ 1152921504606846976) {p : Option Addr} {len cap : Nat} {z : Nat → Nat → Int} (hV : evS p len cap z ∈ vs) (hw : ∀ i, i < len → (Lit.int .i64 (z i 1)).wf = true) (hl : len ≤ 100000) :
    Calls Tryz.prog 8 #[ptr A, .slice p len cap] w fun e w' => ∃ q g c, e = .returned (.slice q g c) ∧ g = (pl C seed mw z y len).2.length ∧ Two W w' A B C seed mw (pl C seed mw z y len).1 x (nums q g c (pl C seed mw z y len).2 :: vs) := by
  obtain ⟨Φ, Ψ, h1, h2, h3, h4, h5, h6, h7⟩ := h.ex
  have he : ∃ b, Evs w p len z b ∧ ¬ Φ b := by
    by_cases h0 : len = 0
    · exact ⟨w.heap.size, .inl h0, fun hf => Nat.lt_irrefl _ (h1.lt hf)⟩
    · obtain ⟨b, e, hb, hc⟩ := evS_cell (h7 _ hV).1 (show 0 < len by omega)
      exact ⟨b, .inr ⟨0, e, hb, fun i hi => ⟨hc i hi, hw i hi⟩⟩, ((h7 _ hV).2 b (by show In p b; rw [e]; exact In.self b)).1⟩
  obtain ⟨b, hb1, hb2⟩ := he
  refine (play_q h1 hf ha p len cap b z hb1 hb2 hl).mono ?_
  rintro e w' ⟨q, g, c, Φ', rfl, hg, hv, hp, hs, hi⟩
  exact ⟨q, g, c, rfl, hg, two_step h2 h3 h4 h5 h6 h7 hp hs hv hi⟩
theorem Two.lt (h : Two W w A B C seed mw y x vs) {V : Vd} (hV : V ∈ vs) {k : Nat} (hk : In V.p k) : k < w.heap.size := Vec.lt (h.on hV) hk
theorem copy_ev {w w0 : World} {a : Option Addr} {len cap : Nat} {z : Nat → Nat → Int} (hz : IsGrid .i64 4 w0 a len cap z) (g : Grown w0 w) : len = 0 ∨ ∃ ad, a = some ad ∧ ∀ j, j < len * 4 → w.cell? (ad.add j) = some (evD z j) := by
  rcases grid_open (by decide) hz with h | ⟨b, off, rfl, hb, hc⟩
  · exact .inl h
  · refine .inr ⟨_, rfl, fun j hj => ?_⟩
    have e : (⟨b, off, none⟩ : Addr).add j = ⟨b, off + j, none⟩ := by unfold Addr.add; split <;> simp_all
    rw [e, cell_same (grown_block g hb)]
    have := hc (j / 4) (by omega) (j % 4) (by omega)
    rw [show off + (j / 4 * 4 + j % 4) = off + j by omega] at this
    rw [this]; rfl
theorem copied {w w' : World} {u : Nat → Value} {p' : Option Addr} {len c' : Nat} {z : Nat → Nat → Int} (hv : Vec w' 32 4 p' (0 + len) c' (fun j => if j < 0 * 4 then u j else evD z (j - 0 * 4))) (o : Out (In (some ⟨w.heap.size, 0, none⟩)) (w.alloc (.cells #[] 32)) w')
    (hp : p' = some ⟨w.heap.size, 0, none⟩ ∨ p' = some ⟨(w.alloc (.cells #[] 32)).heap.size, 0, none⟩) : (evS p' len c' z).On w' ∧ Grown w w' ∧ ∀ k, In p' k → w.heap.size ≤ k := by
  have g1 : Grown w (w.alloc (.cells #[] 32)) := (Grown.refl _).alloc _ _
  refine ⟨?_, o.grown g1 (fun k hk => by have := hk.eq; omega), fun k hk => ?_⟩
  · rw [Nat.zero_add] at hv
    exact hv.congr fun j _ => by simp; rfl
  · rcases hp with e | e
    · rw [e] at hk; have := hk.eq; omega
    · rw [e] at hk; have := hk.eq; have := g1.2.2; omega
theorem nums_cells (h : Two W w A B C seed mw y x vs) {q : Option Addr} {m d : Nat} {E : List Int} (hV : nums q m d E ∈ vs) : m = 0 ∨ ∃ ad, q = some ad ∧ ∀ j, j < m * 1 → w.cell? (ad.add j) = some (idL E j) := by
  by_cases h0 : m = 0
  · exact .inl h0
  · have hv : Vec w 3 1 q m d (idL E) := h.on hV
    obtain ⟨b, rfl, _⟩ := hv.opens (by omega)
    exact .inr ⟨_, rfl, vec_cells hv⟩
theorem all_add {p p' q : Option Addr} {N m c d c' : Nat} {L E : List Int} {base : List Vd} (h : Two W w A B C seed mw y x (nums q m d E :: nums p N c L :: base)) (ap : ∀ U ∈ base, ∀ j, In U.p j → ¬ In p j) (hN : N = L.length)
    (hv : Vec w' 3 1 p' (N + m) c' (fun j => if j < N * 1 then idL L j else idL E (j - N * 1))) (o : Out (In p) w w') (hp : p' = p ∨ p' = some ⟨w.heap.size, 0, none⟩) :
    Two W w' A B C seed mw y x (nums p' (N + m) c' (L ++ E) :: base) ∧ ∀ U ∈ base, ∀ j, In U.p j → ¬ In p' j := by
  have h' := h.less (us := nums p N c L :: base) fun V hV => List.mem_cons_of_mem _ hV
  refine ⟨h'.write o ap (V' := nums p' (N + m) c' (L ++ E)) ?_ ?_, fun U hU j hj => ?_⟩
  · show Vec w' 3 1 p' (N + m) c' (idL (L ++ E))
    exact hv.congr fun j _ => by rw [hN]; exact idL_append L E j
  · rcases hp with e | e
    · exact .inl e
    · exact .inr fun k hk => by have hk : In p' k := hk; rw [e] at hk; have := hk.eq; omega
  · rcases hp with e | e
    · rw [e]; exact ap U hU j hj
    · rw [e]; intro hk
      have h1 := hk.eq
      have h2 := h'.lt (List.mem_cons_of_mem _ hU) hj
      omega
/-- Two slices of the same numbers, longer ones. -/
theorem ints_w {w : World} {p q : Option Addr} {n c d : Nat} {l : List Int} (hp : Vec w 3 1 p n c (idL l)) (hq : Vec w 3 1 q n d (idL l)) (hn : n ≤ 100000000) :
    Calls Tryz.prog 10 #[.slice p n c, .slice q n d] w fun e w' => e = .returned (.bool true) ∧ ∃ m, w' = w.drewN m := by
  have hx : ((n : Int) != (n : Int)) = false := by simp
  go_enter Tryz.func10, Tryz.ntmps10
  go_wp2
  go_loopw [5] (fun i wr => ∃ k d : Nat, k ≤ n ∧ i = .int .i64 k ∧ wr = w.drewN d) (fun i _ => n - (intOf i).toNat)
  case atStart => exact ⟨0, 0, by omega, rfl, rfl⟩
  case round =>
    obtain ⟨k, m, hk, rfl, rfl⟩ := hrel
    by_cases hlt : k < n
    · obtain ⟨A, rfl, lA, hA, _, nA⟩ := hp.opens (by omega)
      obtain ⟨B, rfl, lB, hB, _, nB⟩ := hq.opens (by omega)
      have c1 : w.cell? ⟨A, k, none⟩ = some (.int .i64 (l.getD k 0)) := hA k (by omega)
      have c2 : w.cell? ⟨B, k, none⟩ = some (.int .i64 (l.getD k 0)) := hB k (by omega)
      obtain ⟨z, hz⟩ : ∃ z, z = l.getD k 0 := ⟨_, rfl⟩
      rw [← hz] at c1 c2
      have hd : decide ((k : Int) < (n : Int)) = true := by rw [decide_eq_true_eq]; omega
      have hzz : (z != z) = false := by simp
      clear hp hq hA hB hz
      go_wp2
      go_quiet (fail)
      go_wp2
      go_roundw
      case rel => exact ⟨k + 1, _, by omega, by go_num, rfl⟩
      case measure => simp [intOf]; omega
    · obtain rfl : k = n := by omega
      have hd : decide ((k : Int) < (k : Int)) = false := by rw [decide_eq_false_iff_not]; omega
      go_wp2
      go_ret
      exact ⟨rfl, _, rfl⟩
theorem ints_tw (h : Two W w A B C seed mw y x vs) {p q : Option Addr} {n c d : Nat} {l : List Int} (hp : nums p n c l ∈ vs) (hq : nums q n d l ∈ vs) (hn : n ≤ 100000000) :
    Calls Tryz.prog 10 #[.slice p n c, .slice q n d] w fun e w' => e = .returned (.bool true) ∧ Two W w' A B C seed mw y x vs :=
  (ints_w (l := l) (show Vec w 3 1 p n c (idL l) from h.on hp) (show Vec w 3 1 q n d (idL l) from h.on hq) hn).mono fun _ _ ⟨a, m, b⟩ => ⟨a, by rw [b]; exact h.grown (grownDrewN (Grown.refl _) m)⟩
theorem quota_two (h : Two W w A B C seed mw y x vs) : Calls Tryz.prog 13 #[ptr A] w fun e w' => e = .returned (.agg #[.int .i64 C, .int .i64 y.q.x, .int .i64 (pr C y.q.x)]) ∧ Two W w' A B C seed mw y x vs := by
  have h' := h
  obtain ⟨Φ, Ψ, h1, _⟩ := h.ex
  exact (quota_q h1).mono fun e w' ⟨e1, g⟩ => ⟨e1, h'.grown g⟩
end Go.Proofs.YtlmcopenbeammaaGreat.Po
