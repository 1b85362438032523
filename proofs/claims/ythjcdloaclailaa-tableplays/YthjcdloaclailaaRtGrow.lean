/-
  The document's own table made, and made twice as large; an entry stored into a row; a row copied. What New of package pantryref15 does when it is called. No condition but those told at each sentence.
-/
import Derived.Test.YthjcdloaclailaaRtAll
import Derived.Test.YthjcdloaclailaaRtMove
import Derived.Laws.CopyOwn
namespace Go.Proofs.Ythjcdloaclailaa.Tb
open Go.RowKit Go.Deep Us
variable {W w w' : World} {key : Int} {e r : En} {J X n : Nat} {q q1 q2 : List En} {l m : List Ob} {i j c : Nat} {p : Option Addr} {u v : Rt}

theorem infoSE : (Try.prog.info? 41).map (fun i => (i.zero, i.size, i.bytes)) = some (some (.slice none 0 0), 1, 24) := by kernel_rfl
theorem madeSl (N : Nat) : (madeCells #[Value.slice none 0 0] N).size = N := by simp [madeCells]
/-- Twice as many buckets, the new ones in block N. -/
def Rt.gr (u : Rt) (N : Nat) : Rt := ⟨u.X, N, u.P, u.A.gr, fun x => if x.1 = true then u.r (false, x.2) else (none, 0), none⟩
theorem gr_live {A : Rp} {p : Bool × Nat} (h : A.gr.live p) : (p.1 = true ∧ p.2 < A.n) ∨ (p.1 = false ∧ p.2 < 2 * A.n) := by
  obtain ⟨b, j⟩ := p
  cases b with
  | false => exact .inr ⟨rfl, h⟩
  | true =>
    have h : 0 ≤ j ∧ j < A.n := h
    exact .inl ⟨rfl, h.2⟩
theorem gr_RM (h : RM w u) (hn : u.h = none) (h6 : u.A.n < 65536) (o : Out (fun k => k = u.X) w w') (hx : w'.heap[u.X]? = some (.cells (headC (u.gr w.heap.size)) 37 (0, 0))) (hN : w'.heap[w.heap.size]? = some (.cells (madeCells #[.slice none 0 0] (2 * u.A.n)) 41 (0, 0))) : RM w' (u.gr w.heap.size) := by
  obtain ⟨cur, b1, b2, b3⟩ := h.out false (fun x => by cases x)
  have lv : ∀ p : Bool × Nat, p.1 = true → p.2 < u.A.n → u.lv (false, p.2) := fun p _ hp => ⟨hp, by rw [hn]; exact fun x => by cases x⟩
  have hwk := h.wk
  refine ⟨⟨by show 8 ≤ 2 * u.A.n; omega, by show 2 * u.A.n ≤ 131072; omega, Nat.zero_le _, by show u.A.n ≤ 2 * u.A.n; omega⟩, hx, fun b _ => ?_, fun p hp => ?_, fun p p' hp hp' hne k hk hk' => ?_, fun _ => ?_⟩
  · cases b with
    | false =>
      refine ⟨_, hN, madeSl _, fun j hj => ?_⟩
      have hj : j < 2 * u.A.n := hj
      exact madeOne _ _ _ hj
    | true =>
      refine ⟨cur, (o.block _ (lt_of b1) (fun x => h.bk_ne (b := false) (fun x => by cases x) x.symm)).trans b1, b2, fun j hj => ?_⟩
      rcases gr_live hj with ⟨_, g⟩ | ⟨g, _⟩
      · exact b3 j g
      · cases g
  · obtain ⟨b, j⟩ := p
    rcases gr_live hp.1 with ⟨rfl, g⟩ | ⟨rfl, g⟩
    · have h2 := lv (true, j) rfl g
      exact (h.inn (false, j) h2).out o fun k hk x => h.row_X h2 (by rw [← x]; exact hk)
    · exact Vec.nil _ _ _ _
  · obtain ⟨b, j⟩ := p
    obtain ⟨b', j'⟩ := p'
    rcases gr_live hp.1 with ⟨rfl, g⟩ | ⟨rfl, g⟩
    · rcases gr_live hp'.1 with ⟨rfl, g'⟩ | ⟨rfl, g'⟩
      · exact h.ap (false, j) (false, j') (lv (true, j) rfl g) (lv (true, j') rfl g') (fun x => hne (by cases x; rfl)) k hk hk'
      · exact In.no hk'
    · exact In.no hk
  · show w.heap.size ≠ u.P
    have := lt_of b1
    have e : u.bk false = u.P := rfl
    omega
theorem gr_s (h : Apt W w l) (hi : l[i]? = some (obR u)) (hn : u.h = none) (h6 : u.A.n < 65536) (o : Out (fun k => k = u.X) w w') (hx : w'.heap[u.X]? = some (.cells (headC (u.gr w.heap.size)) 37 (0, 0))) (hN : w'.heap[w.heap.size]? = some (.cells (madeCells #[.slice none 0 0] (2 * u.A.n)) 41 (0, 0))) : Apt W w' (l.set i (obR (u.gr w.heap.size))) := by
  have hR : RM w u := h.all i _ hi
  refine h.upd hi (gr_RM hR hn h6 o hx hN) ⟨o.wide fun k _ hk => by rw [hk]; exact .inl rfl, fun k hk => ?_⟩
  rcases hk with hk | hk | ⟨_, hk⟩ | ⟨p, hp, hk⟩
  · exact .inl (.inl hk)
  · exact .inr (by rw [hk]; exact Nat.le_refl _)
  · exact .inl (.inr (.inl hk))
  · obtain ⟨b, j⟩ := p
    rcases gr_live hp.1 with ⟨rfl, g⟩ | ⟨rfl, g⟩
    · exact .inl (.inr (.inr (.inr ⟨(false, j), ⟨g, by rw [hn]; exact fun x => by cases x⟩, hk⟩)))
    · exact absurd hk In.no
/-- A table that is made. -/
def Rt.new (X P : Nat) (s : Int) : Rt := ⟨X, P, 0, ⟨s, 8, 0, 0, fun _ => []⟩, fun _ => (none, 0), none⟩
set_option maxRecDepth 4000 in
theorem rnew_s (s : Int) (h : Apt W w l) : Calls Try.prog 11 #[.int .i64 s] w fun e w' => ∃ u : Rt, e = .returned (.pointer (some ⟨u.X, 0, none⟩)) ∧ Apt W w' (l ++ [obR u]) ∧ u.A = ⟨s, 8, 0, 0, fun _ => []⟩ ∧ u.h = none := by
  have hmk := run_make_row' (P := Try.prog) 35 41 (.slice none 0 0) 24 Try.underlying35 infoSE rfl .i64 .i64 8 (by omega) (by omega)
  rw [show ((8 : Nat) : Int) = 8 from rfl] at hmk
  have hE : Hid (∀ w', w' = (w.alloc (.cells (madeCells #[.slice none 0 0] 8) 41)).alloc (.cells #[.slice (some ⟨w.heap.size, 0, none⟩) 8 8, .slice none 0 0, .int .i64 0, .int .i64 s] 37) → Apt W w' (l ++ [obR (Rt.new (w.heap.size + 1) w.heap.size s)])) := fun w' e => by
    subst e
    refine h.add (((Grown.refl _).alloc _ _).alloc _ _) ?_ fun k hk => ?_
    · refine ⟨⟨Nat.le_refl _, by show 8 ≤ 131072; omega, Nat.le_refl _, Nat.zero_le _⟩, ?_, fun b hb => ?_, fun p hp => ?_, fun p p' hp hp' hne k hk => absurd hk In.no, fun x => absurd x (Nat.lt_irrefl 0)⟩
      · have := blk_alloc_new (w.alloc (.cells (madeCells #[.slice none 0 0] 8) 41)) (.cells #[.slice (some ⟨w.heap.size, 0, none⟩) 8 8, .slice none 0 0, .int .i64 0, .int .i64 s] 37)
        rw [nblk_alloc] at this
        exact this
      · cases b with
        | false =>
          refine ⟨_, (blk_alloc_lt _ _ _ (by rw [nblk_alloc]; exact Nat.lt_succ_self _)).trans (blk_alloc_new w (.cells (madeCells #[.slice none 0 0] 8) 41)), madeSl _, fun j hj => ?_⟩
          have hj : j < 8 := hj
          exact madeOne _ _ _ hj
        | true => exact absurd (hb rfl) (Nat.lt_irrefl 0)
      · exact Vec.nil _ _ _ _
    · rcases hk with hk | hk | ⟨h0, _⟩ | ⟨p, _, hk⟩
      · rw [hk]; show w.heap.size ≤ w.heap.size + 1; omega
      · rw [hk]; exact Nat.le_refl _
      · exact absurd h0 (Nat.lt_irrefl 0)
      · exact absurd hk In.no
  clear h
  go_enter Try.func11, Try.ntmps11
  go_wp2
  go_ret
  exact ⟨Rt.new (w.heap.size + 1) w.heap.size s, rfl, hE.out _ rfl, rfl, rfl⟩
/-- What a row brings to append. -/
theorem vec_src (hv : Vec w 30 4 p n c (enL q)) : 0 < n → ∃ ad, p = some ad ∧ ∀ j, j < n * 4 → w.cell? (ad.add j) = some (enL q j) := fun hn => by
  obtain ⟨B, rfl, _, hc, _, _⟩ := hv.opens hn
  exact ⟨_, rfl, fun j hj => by rw [add0, Nat.zero_add]; exact hc j hj⟩
theorem wpList_app {ops : Array Oper} {rest : List Oper} {o : Oper} {a : Act} {Q : Exit → Act → World → Prop} (hg : o.guard = none) (so xo : Operand) (hop : o.op = Op.call { callee := Callee.builtin Builtin.append, args := #[so, xo], argTypes := #[41, 41] })
    (h : Apt W w (l ++ m)) (hj : m[j]? = some (obE p c q1)) {xp : Option Addr} {cx n1 n2 n : Nat} (hs : a.eval so = .slice p n1 c) (hxe : a.eval xo = .slice xp n2 cx) (h1 : q1.length = n1) (h2 : q2.length = n2) (hn : n1 + n2 = n) (hb : n ≤ 2000000) (hx : 0 < n2 → ∃ ad, xp = some ad ∧ ∀ j, j < n2 * 4 → w.cell? (ad.add j) = some (enL q2 j))
    (hK : ∀ p' c' w', Hid (Apt W w' (l ++ m.set j (obE p' c' (q1 ++ q2)))) → wpList Try.prog ops Q rest (a.put o.dst (.slice p' n c')) w') : wpList Try.prog ops Q (o :: rest) a w := by
  have hi : (l ++ m)[l.length + j]? = some (obE p c q1) := by rw [at_n]; exact hj
  have hv : Vec w 30 4 p q1.length c (enL q1) := h.all _ _ hi
  subst h1 h2 hn
  refine wpList_append_any hg so xo _ hop Try.underlying41 infoEn rfl hs hv hxe hx (fun j _ => enL_one q2 j) (by omega) (by omega) fun p' c' w' hv' ho hp => hK p' c' w' ?_
  have hv2 : Vec w' 30 4 p' (q1 ++ q2).length c' (enL (q1 ++ q2)) := by
    rw [List.length_append]
    exact hv'.congr (enL_app q1 q2)
  have := h.upd hi (o' := obE p' c' (q1 ++ q2)) hv2 ⟨ho, fun k hk => by
    rcases hp with rfl | rfl
    · exact .inl hk
    · have hk : In (some ⟨w.heap.size, 0, none⟩) k := hk
      rw [hk.eq]; exact .inr (Nat.le_refl _)⟩
  rw [set_n] at this
  exact this
/-- An entry stored over one of a row. -/
theorem wpList_store_at {ops : Array Oper} {rest : List Oper} {o : Oper} {a : Act} {Q : Exit → Act → World → Prop} (hgd : o.guard = none) (hd : o.dst = none) (x y : Operand) (ho : o.op = .store 30 x y)
    (B : Nat) (hx : a.eval x = .pointer (some ⟨B, J * 4, none⟩)) (hy : a.eval y = .agg #[.int .i64 e.k, .int .i64 e.a, .int .i64 e.x, .int .i64 e.n]) (h : Apt W w (l ++ m)) (hj : m[j]? = some (obE (some ⟨B, 0, none⟩) c q)) (hJ : J < q.length)
    (hK : ∀ w', Hid (Apt W w' (l ++ m.set j (obE (some ⟨B, 0, none⟩) c (q.set J e)))) → wpList Try.prog ops Q rest a w') : wpList Try.prog ops Q (o :: rest) a w := by
  have hi : (l ++ m)[l.length + j]? = some (obE (some ⟨B, 0, none⟩) c q) := by rw [at_n]; exact hj
  have hv : Vec w 30 4 (some ⟨B, 0, none⟩) q.length c (enL q) := h.all _ _ hi
  obtain ⟨_, hB, _, hc, hf, _⟩ := hv.opens (by omega)
  cases hB
  refine wpList_store_mid hgd 30 x y ho B (J * 4) _ hx hy ?_ sizeEn (by simp [Value.oneCell']) ?_
  · intro k hk
    have hk : k < 4 := hk
    exact ⟨by rw [hc (J * 4 + k) (by omega)]; rfl, hf _⟩
  · rw [hd]
    refine hK _ ?_
    have hv2 := (((hv.set (J * 4) (.int .i64 e.k)).set (J * 4 + 1) (.int .i64 e.a)).set (J * 4 + 2) (.int .i64 e.x)).set (J * 4 + 3) (.int .i64 e.n)
    have hv3 : Vec ((((w.setCell ⟨B, J * 4, none⟩ (.int .i64 e.k)).setCell ⟨B, J * 4 + 1, none⟩ (.int .i64 e.a)).setCell ⟨B, J * 4 + 2, none⟩ (.int .i64 e.x)).setCell ⟨B, J * 4 + 3, none⟩ (.int .i64 e.n)) 30 4 (some ⟨B, 0, none⟩) (q.set J e).length c (enL (q.set J e)) := by
      rw [List.length_set]
      refine hv2.congr fun k hk => ?_
      by_cases g : k / 4 = J
      · have e1 : (q.set J e).getD (k / 4) e0 = e := by rw [List.getD_eq_getElem?_getD, g, List.getElem?_set_self hJ]; rfl
        have h4 : k % 4 < 4 := Nat.mod_lt _ (by decide)
        have h5 := Nat.div_add_mod k 4
        unfold enL
        rw [e1]
        generalize hr : k % 4 = s at h4 h5 ⊢
        rcases s with _ | _ | _ | _ | s
        · rw [if_neg (by omega), if_neg (by omega), if_neg (by omega), if_pos (by omega)]; rfl
        · rw [if_neg (by omega), if_neg (by omega), if_pos (by omega)]; rfl
        · rw [if_neg (by omega), if_pos (by omega)]; rfl
        · rw [if_pos (by omega)]; rfl
        · omega
      · have e1 : (q.set J e).getD (k / 4) e0 = q.getD (k / 4) e0 := by rw [List.getD_eq_getElem?_getD, List.getD_eq_getElem?_getD, List.getElem?_set_ne (fun x => g x.symm)]
        rw [if_neg (by omega), if_neg (by omega), if_neg (by omega), if_neg (by omega)]
        unfold enL
        rw [e1]
    have o4 : Out (In (some ⟨B, 0, none⟩)) w ((((w.setCell ⟨B, J * 4, none⟩ (.int .i64 e.k)).setCell ⟨B, J * 4 + 1, none⟩ (.int .i64 e.a)).setCell ⟨B, J * 4 + 2, none⟩ (.int .i64 e.x)).setCell ⟨B, J * 4 + 3, none⟩ (.int .i64 e.n)) := ((((Out.refl (In (some ⟨B, 0, none⟩)) w).setCell (a := ⟨B, J * 4, none⟩) (In.self B) _).setCell (a := ⟨B, J * 4 + 1, none⟩) (In.self B) _).setCell (a := ⟨B, J * 4 + 2, none⟩) (In.self B) _).setCell (a := ⟨B, J * 4 + 3, none⟩) (In.self B) _
    have h6 := h.upd hi (o' := obE (some ⟨B, 0, none⟩) c (q.set J e)) hv3 ⟨o4, fun _ hk => .inl hk⟩
    rw [set_n] at h6
    exact h6
end Go.Proofs.Ythjcdloaclailaa.Tb
