/-
  What move of package pantryref15 does when it is called. No condition but those told at each sentence.
-/
import Derived.Test.YthjcdloaclailaaRtSet
namespace Go.Proofs.Ythjcdloaclailaa.Tb
open Go.RowKit Go.Deep Us
variable {W w w' : World} {key : Int} {e r : En} {J X n : Nat} {q : List En} {l : List Ob} {i c : Nat} {p : Option Addr} {u v : Rt}

def headC (u : Rt) : Array Value := #[.slice (some ⟨u.P, 0, none⟩) u.A.n u.A.n, .slice u.oP u.A.k u.A.k, .int .i64 (u.A.m : Int), .int .i64 u.A.s]
/-- The struct alone turns; rows may go. -/
theorem RM.rehead (h : RM w u) (hX : v.X = u.X) (o : Out (fun k => k = u.X) w w') (hx : w'.heap[u.X]? = some (.cells (headC v) 37 (0, 0))) (hw : v.A.m ≤ v.A.k ∧ v.A.k ≤ v.A.n) (hP : v.P = u.P) (hQ : v.Q = u.Q) (hr : v.r = u.r) (hL : v.A.L = u.A.L) (hn : v.A.n = u.A.n) (hk : 0 < v.A.k → v.A.k = u.A.k) (hlv : ∀ p, v.lv p → u.lv p) (hli : ∀ p, v.A.live p → u.A.live p) : RM w' v ∧ ∀ k, v.G k → u.G k := by
  have hwk := h.wk
  have hb : ∀ b, (b = true → 0 < v.A.k) → (b = true → 0 < u.A.k) := fun b h1 h2 => by have := h1 h2; have := hk this; omega
  refine ⟨⟨by rw [hn]; exact ⟨hwk.1, hwk.2.1, hw.1, by rw [← hn]; exact hw.2⟩, by rw [hX]; exact hx, fun b hb' => ?_, fun p hp => ?_, fun p p' hp hp' => ?_, fun h0 => ?_⟩, fun k hk' => ?_⟩
  · obtain ⟨cur, h1, h2, h3⟩ := h.out b (hb b hb')
    have e1 : v.bk b = u.bk b := by unfold Rt.bk; rw [hP, hQ]
    have e2 : v.sz b = u.sz b := by
      unfold Rt.sz
      cases b with
      | false => exact hn
      | true => exact hk (hb' rfl)
    refine ⟨cur, by rw [e1]; exact (o.block _ (lt_of h1) (fun x => h.bk_ne (hb b hb') x.symm)).trans h1, h2.trans e2.symm, fun j hj => ?_⟩
    rw [h3 j (hli _ hj)]
    unfold Rt.sl
    rw [hr, hL]
  · rw [hr, hL]
    exact (h.inn p (hlv p hp)).out o fun k hk x => h.row_X (hlv p hp) (by rw [← x]; exact hk)
  · rw [hr]
    exact h.ap p p' (hlv p hp) (hlv p' hp')
  · rw [hP, hQ]
    exact h.ne (by have := hk h0; omega)
  · rcases hk' with g | g | ⟨g0, g⟩ | ⟨p, hp, g⟩
    · exact .inl (g.trans hX)
    · exact .inr (.inl (g.trans hP))
    · exact .inr (.inr (.inl ⟨by have := hk g0; omega, g.trans hQ⟩))
    · rw [hr] at g
      exact .inr (.inr (.inr ⟨p, hlv p hp, g⟩))
theorem head_o (h : RM w u) : w.heap[u.X]? = some (.cells (headC u) 37 (0, 0)) := h.head
/-- The same, in an object that lies apart. -/
theorem rehead_s (h : Apt W w l) (hi : l[i]? = some (obR u)) (o : Out (fun k => k = u.X) w w') (hv : RM w' v ∧ ∀ k, v.G k → u.G k) : Apt W w' (l.set i (obR v)) :=
  h.upd hi hv.1 ⟨o.wide fun k _ hk => by rw [hk]; exact .inl rfl, fun k hk => .inl (hv.2 k hk)⟩
/-- The first old row that is left goes out of the table. -/
def Rt.up (u : Rt) : Rt := { u with A := u.A.up, h := none }
theorem up_s (h : Apt W w l) (hi : l[i]? = some (obR u)) (hn : u.h = none) (hm : u.A.m < u.A.k) : Apt W (w.setCell ⟨u.X, 2, none⟩ (.int .i64 ((u.A.m + 1 : Nat) : Int))) (l.set i (obR u.up) ++ [obE (u.r (true, u.A.m)).1 (u.r (true, u.A.m)).2 (u.A.L (true, u.A.m))]) := by
  have hlt := (List.getElem?_eq_some_iff.1 hi).1
  have h2 := take_s h hi (pl := (true, u.A.m)) ⟨Nat.le_refl _, hm⟩ hn
  have hi2 : (l.set i (obR (u.hole (true, u.A.m))) ++ [obE (u.r (true, u.A.m)).1 (u.r (true, u.A.m)).2 (u.A.L (true, u.A.m))])[i]? = some (obR (u.hole (true, u.A.m))) := by
    rw [List.getElem?_append_left (by simpa using hlt), List.getElem?_set_self hlt]
  have hR : RM w (u.hole (true, u.A.m)) := h2.all i _ hi2
  have hwk := hR.wk
  have o : Out (fun k => k = u.X) w (w.setCell ⟨u.X, 2, none⟩ (.int .i64 ((u.A.m + 1 : Nat) : Int))) := (Out.refl (fun k => k = u.X) w).setCell (a := ⟨u.X, 2, none⟩) rfl _
  have hli : ∀ p, u.up.A.live p → u.A.live p ∧ p ≠ (true, u.A.m) := fun p hp => by
    obtain ⟨b, j⟩ := p
    cases b with
    | false => exact ⟨hp, fun x => by cases x⟩
    | true =>
      have hp : u.A.m + 1 ≤ j ∧ j < u.A.k := hp
      exact ⟨⟨by show u.A.m ≤ j; omega, hp.2⟩, fun x => by have := congrArg Prod.snd x; simp at this; omega⟩
  have h3 := rehead_s (v := u.up) h2 hi2 o (hR.rehead rfl o (blk_set hR.head 2 _) ⟨by show u.A.m + 1 ≤ u.A.k; omega, hwk.2.2.2⟩ rfl rfl rfl rfl rfl (fun _ => rfl) (fun p hp => ⟨(hli p hp.1).1, fun x => (hli p hp.1).2 (Option.some.inj x).symm⟩) (fun p hp => (hli p hp).1))
  rw [List.set_append_left (h := by simpa using hlt), List.set_set] at h3
  exact h3
/-- All old rows are moved: they go. -/
def Rt.cl (u : Rt) : Rt := { u with A := { u.A with k := 0, m := 0 } }
theorem cl_s (h : Apt W w l) (hi : l[i]? = some (obR u)) : Apt W ((w.setCell ⟨u.X, 1, none⟩ (.slice none 0 0)).setCell ⟨u.X, 2, none⟩ (.int .i64 0)) (l.set i (obR u.cl)) := by
  have hR : RM w u := h.all i _ hi
  have o : Out (fun k => k = u.X) w ((w.setCell ⟨u.X, 1, none⟩ (.slice none 0 0)).setCell ⟨u.X, 2, none⟩ (.int .i64 0)) := ((Out.refl (fun k => k = u.X) w).setCell (a := ⟨u.X, 1, none⟩) rfl _).setCell (a := ⟨u.X, 2, none⟩) rfl _
  have hli : ∀ p, u.cl.A.live p → u.A.live p := fun p hp => by
    obtain ⟨b, j⟩ := p
    cases b with
    | false => exact hp
    | true =>
      have hp : 0 ≤ j ∧ j < 0 := hp
      omega
  exact rehead_s h hi o (hR.rehead (v := u.cl) rfl o (blk_set (blk_set hR.head 1 _) 2 _) ⟨Nat.le_refl _, Nat.zero_le _⟩ rfl rfl rfl rfl rfl (fun x => absurd x (Nat.lt_irrefl 0)) (fun p hp => ⟨hli p hp.1, hp.2⟩) hli)
/-- A calm operation that loads an entry of a row. -/
theorem exec_load_at {o : Oper} {A : Act} {w : World} {B n c J : Nat} (x : Operand) (ho : o.op = .load 30 x) (hx : A.eval x = .pointer (some ⟨B, J * 4, none⟩)) (hv : Vec w 30 4 (some ⟨B, 0, none⟩) n c (enL q)) (hJ : J < n) (hr : q[J]? = some r) :
    (execOp A.eval o).run Try.prog w = .ok (.value (.agg #[.int .i64 r.k, .int .i64 r.a, .int .i64 r.x, .int .i64 r.n])) w := by
  obtain ⟨k0, k1, k2, k3⟩ := en_cell hv hJ hr
  have hr := run_loadAt_mid (P := Try.prog) w B (J * 4) 30 [.int .i64 r.k, .int .i64 r.a, .int .i64 r.x, .int .i64 r.n] _ (fun j u hu => by
    rcases j with _ | _ | _ | _ | j
    · cases hu; exact k0
    · cases hu; exact k1
    · cases hu; exact k2
    · cases hu; exact k3
    · simp at hu) Try.underlying30 rfl sizeEn
  unfold execOp
  simp only [ho, hx, Sem.run_bind, hr, Result.andThen_ok, Sem.run_pure]
/-- append(x[k], e), and what is stored then. -/
theorem grow_row {pl : Bool × Nat} {tmp : Array Value} {y : TypeId} {p' : Option Addr} {c' : Nat} {w2 : World} (h : Apt W w l) (hi : l[i]? = some (obR v)) (hh : v.h = none) (hl : v.A.live pl) (hv : Vec w2 30 4 p' ((v.A.L pl).length + 1) c' (fun j => if j < (v.A.L pl).length * 4 then enL (v.A.L pl) j else (cs r).getD (j - (v.A.L pl).length * 4) undef)) (o : Out (In (v.r pl).1) (w.alloc (.cells tmp y)) w2) (hp : p' = (v.r pl).1 ∨ p' = some ⟨(w.alloc (.cells tmp y)).heap.size, 0, none⟩) :
    Hid (Apt W w2 (l.set i (obR (v.hole pl)) ++ [obE p' c' (v.A.L pl ++ [r])])) ∧ Hid (Apt W (w2.setCell ⟨v.bk pl.1, pl.2, none⟩ (.slice p' ((v.A.L pl).length + 1) c')) (l.set i (obR (v.st pl (v.A.L pl ++ [r]) p' c')))) := by
  have hlt := (List.getElem?_eq_some_iff.1 hi).1
  have h2 := appended_e (take_s h hi hl hh) (at_end _ _) hv o hp
  rw [set_end] at h2
  have h3 := put_back h2 (u := v.hole pl) (pl := pl) (by rw [List.getElem?_set_self hlt]) hl rfl
  rw [List.set_set, List.length_append] at h3
  exact ⟨h2, h3⟩
theorem cs_one (r : En) : ∀ j, j < 1 * 4 → ((cs r).getD j undef).oneCell' = true := fun j hj => by
  rcases j with _ | _ | _ | _ | j
  · rfl
  · rfl
  · rfl
  · rfl
  · omega
theorem fold_le (q : List En) (A : Rp) (j : Nat) (p : Bool × Nat) : (((q.take j).foldl Rp.ap A).L p).length ≤ ((q.foldl Rp.ap A).L p).length := by
  obtain ⟨_, _, _, _, h1⟩ := Rp.fold_ap (q.take j) A
  obtain ⟨_, _, _, _, h2⟩ := Rp.fold_ap q A
  rw [h1 p, h2 p]
  by_cases c : p.1 = true
  · rw [if_pos c, if_pos c]; exact Nat.le_refl _
  · rw [if_neg c, if_neg c, List.length_append, List.length_append]
    exact Nat.add_le_add_left ((List.take_sublist j q).filter _).length_le _
theorem take_snoc {α : Type} {q : List α} {j : Nat} {r : α} (hr : q[j]? = some r) : q.take (j + 1) = q.take j ++ [r] := by
  rw [List.take_add_one, hr]; rfl
theorem mv_no (A : Rp) (h : ¬ A.m < A.k) : A.mv = A := if_neg h
theorem mv_yes (A : Rp) (h : A.m < A.k) : A.mv = ((A.L (true, A.m)).foldl Rp.ap A.up).cl := if_pos h
theorem move_no_r (h : RM w u) (hm : ¬ u.A.m < u.A.k) : Calls Try.prog 34 #[.pointer (some ⟨u.X, 0, none⟩)] w fun e w' => e = .returned (.tuple #[]) ∧ ∃ d, w' = w.drewN d := by
  have lf := left_r h
  have hd : ((( u.A.k - u.A.m : Nat) : Int) == 0) = true := by rw [beq_iff_eq]; omega
  clear h
  go_enter Try.func34, Try.ntmps34
  go_wp2_with (go_at_call 22; refine lf.mono ?_; rintro e w' ⟨rfl, d, rfl⟩)
  (try simp only [Exit.inBlock, Exit.then])
  refine bodyPost_ret (results_none rfl _ _ _) rfl ?_
  exact ⟨rfl, _, rfl⟩
set_option maxRecDepth 8000 in
set_option maxHeartbeats 4000000 in
theorem move_yes_r (h : Apt W w l) (hi' : l[i]? = some (obR u)) (hn : u.h = none) (hm : u.A.m < u.A.k) (hN : (u.A.L (true, u.A.m)).length ≤ 1000000) (hf : ∀ p, (((u.A.L (true, u.A.m)).foldl Rp.ap u.A.up).L p).length ≤ 1000000) : Calls Try.prog 34 #[.pointer (some ⟨u.X, 0, none⟩)] w fun e w' => e = .returned (.tuple #[]) ∧ ∃ u', Apt W w' (l.set i (obR u')) ∧ u'.X = u.X ∧ u'.A = u.A.mv ∧ u'.h = none := by
  have hlt : Hid (i < l.length) := (List.getElem?_eq_some_iff.1 hi').1
  have hi : Hid (l[i]? = some (obR u)) := hi'
  have hR : RM w u := h.all i _ hi'
  obtain ⟨c0, c1, c2, c3⟩ := hR.cells
  have lX := lt_of hR.head
  have hwk := hR.wk
  have lf := left_r hR
  obtain ⟨r1, r2, _⟩ := hR.cell (pl := (true, u.A.m)) ⟨Nat.le_refl _, hm⟩
  have ho : u.oP = some ⟨u.Q, 0, none⟩ := if_neg (by omega)
  rw [ho] at c1
  have upd : Hid (∀ d, Apt W ((w.drewN d).setCell ⟨u.X, 2, none⟩ (.int .i64 ((u.A.m + 1 : Nat) : Int))) (l.set i (obR u.up) ++ [obE (u.r (true, u.A.m)).1 (u.r (true, u.A.m)).2 (u.A.L (true, u.A.m))])) := fun d => up_s (h.drewN d) hi' hn hm
  change w.cell? ⟨u.Q, u.A.m, none⟩ = some (.slice (u.r (true, u.A.m)).1 (u.A.L (true, u.A.m)).length (u.r (true, u.A.m)).2) at r1
  change u.Q < _ at r2
  have f2 : w.frozen? ⟨u.X, 2, none⟩ = false := fr0 hR.head 2
  have hn0 : Hid (u.h = none) := hn
  have hmv : Hid (u.A.mv = ((u.A.L (true, u.A.m)).foldl Rp.ap u.A.up).cl) := mv_yes _ hm
  have hf : Hid (∀ p, (((u.A.L (true, u.A.m)).foldl Rp.ap u.A.up).L p).length ≤ 1000000) := hf
  clear h hR c0 c3 hi' hn ho
  generalize hrow : u.A.L (true, u.A.m) = row at *
  obtain ⟨N, hN1⟩ : ∃ N, Hid (N = row.length) := ⟨_, rfl⟩
  rw [← hN1.out] at r1 hN
  generalize (u.r (true, u.A.m)).1 = rp at *
  generalize (u.r (true, u.A.m)).2 = rc at *
  have hd : ((( u.A.k - u.A.m : Nat) : Int) == 0) = false := by rw [beq_eq_false_iff_ne]; omega
  have hI : (u.A.m : Int) < (u.A.k : Int) := by omega
  have hw : wrap64 ((u.A.m : Int) + 1) = ((u.A.m + 1 : Nat) : Int) := up_w _ (by omega)
  obtain ⟨k, hk⟩ : ∃ k, Hid (u.A.k = k) := ⟨_, rfl⟩
  obtain ⟨m, hm1⟩ : ∃ m, Hid (u.A.m = m) := ⟨_, rfl⟩
  obtain ⟨X, hX⟩ : ∃ X, Hid (u.X = X) := ⟨_, rfl⟩
  have hkn : Hid (u.A.k ≤ u.A.n ∧ u.A.n ≤ 131072 ∧ 8 ≤ u.A.n) := ⟨hwk.2.2.2, hwk.2.1, hwk.1⟩
  clear hrow hwk
  rw [hX.out] at c1 c2 lX lf f2 upd ⊢
  rw [hk.out] at c1 lf hd hI
  rw [hm1.out] at c2 r1 lf hd hI hw upd
  go_enter Try.func34, Try.ntmps34
  go_wp2_with (go_at_call 22; refine lf.mono ?_; rintro e w' ⟨rfl, d, rfl⟩; clear lf)
  go_quiet (fail)
  go_wp2
  obtain ⟨n, hn⟩ : ∃ n, Hid (u.A.n = n) := ⟨_, rfl⟩
  obtain ⟨sd, hsd⟩ : ∃ sd, Hid (u.A.s = sd) := ⟨_, rfl⟩
  rw [hn.out] at hkn
  go_loopw [3, 4] (fun jv _ wr => ∃ (j : Nat) (v : Rt), j ≤ N ∧ jv = .int .i64 (j : Int) ∧ Hid (v.X = X) ∧ Hid (v.h = none) ∧ Hid (v.A = (row.take j).foldl Rp.ap u.A.up) ∧ Hid (Apt W wr (l.set i (obR v) ++ [obE rp rc row]))) (fun jv _ _ => N - (intOf jv).toNat)
  case atStart => exact ⟨0, u.up, by omega, rfl, hX, rfl, rfl, upd.out _⟩
  case round =>
    clear c1 c2 r1 r2 lX f2 upd hd hI hw
    obtain ⟨j, v, hj, rfl, hv, hh, hA, hx⟩ := hrel
    have hiv : Hid ((l.set i (obR v) ++ [obE rp rc row])[i]? = some (obR v)) := by
      show _ = _
      rw [List.getElem?_append_left (by simpa using hlt.out), List.getElem?_set_self hlt.out]
    have hiE : Hid ((l.set i (obR v) ++ [obE rp rc row])[l.length]? = some (obE rp rc row)) := by
      have := at_end (l.set i (obR v)) (obE rp rc row)
      rw [List.length_set] at this
      exact this
    have hRv : RM wr v := hx.out.all i _ hiv.out
    obtain ⟨g1, g2, g3, g4, _⟩ := Rp.fold_ap (row.take j) u.A.up
    rw [← hA.out] at g1 g2 g3 g4
    have vs : v.A.s = sd := g1.trans hsd.out
    have vn : v.A.n = n := g2.trans hn.out
    have vk : v.A.k = k := g3.trans hk.out
    have vm : v.A.m = m + 1 := g4.trans (by rw [← hm1.out]; rfl)
    obtain ⟨c0, c1, c2, _⟩ := hRv.cells
    have lX := lt_of hRv.head
    rw [hv.out] at lX
    rw [hv.out, vn] at c0
    rw [hv.out, vk] at c1
    rw [hv.out, vm] at c2
    by_cases hjn : j < N
    · have hd3 : decide ((j : Int) < (N : Int)) = true := by rw [decide_eq_true_eq]; omega
      have hjI : (j : Int) < (N : Int) := by omega
      obtain ⟨r, hr0⟩ : ∃ r, row[j]? = some r := ⟨_, List.getElem?_eq_getElem (by rw [← hN1.out]; exact hjn)⟩
      have hr : Hid (row[j]? = some r) := hr0
      have vE : Vec wr 30 4 rp N rc (enL row) := by
        have : Vec wr 30 4 rp row.length rc (enL row) := hx.out.all _ _ hiE.out
        rw [← hN1.out] at this
        exact this
      obtain ⟨B, rfl, lB, hcA, hfz, hcn⟩ := vE.opens (by omega)
      have k0 := (en_cell vE hjn hr0).1
      have ar := fun (d : Nat) => at_r (w := wr.drewN d) (u := v) (hRv.keep fun _ _ => rfl) r.k n (by have := hkn.out; omega) (by have := hkn.out; omega)
      rw [vs, hv.out] at ar
      obtain ⟨g, hg⟩ : ∃ g, Hid (ub sd r.k % n = g) := ⟨_, rfl⟩
      have hgn : g < n := by rw [← hg.out]; exact Nat.mod_lt _ (by have := hkn.out; omega)
      rw [hg.out] at ar
      clear hr0 hcA hfz hcn vE hRv c1 c2 g1 g2 g3 g4
      go_wp2
      go_quiet (first | (go_at_call 47; exact Calls.quiet_of_same (ar _)))
      go_wp2
      clear ar k0 c0 lX lB
      have h2 : Hid (Apt W (wr.drewN nq).drew (l.set i (obR v) ++ [obE (some ⟨B, 0, none⟩) rc row])) := (hx.out.drewN nq).drew
      clear hx
      have gl : Hid (v.A.live (false, g)) := by show g < v.A.n; rw [vn]; exact hgn
      obtain ⟨P, hP⟩ : ∃ P, Hid (v.P = P) := ⟨_, rfl⟩
      have gI : (g : Int) < (n : Int) := by omega
      obtain ⟨qg, hqg⟩ : ∃ q, Hid (v.A.L (false, g) = q) := ⟨_, rfl⟩
      obtain ⟨pg, hpg⟩ : ∃ q, Hid ((v.r (false, g)).1 = q) := ⟨_, rfl⟩
      obtain ⟨cg, hcg⟩ : ∃ q, Hid ((v.r (false, g)).2 = q) := ⟨_, rfl⟩
      obtain ⟨ng, hng⟩ : ∃ q, Hid (qg.length = q) := ⟨_, rfl⟩
      have hng2 : ng ≤ 1000000 := by
        rw [← hng.out, ← hqg.out, hA.out]
        exact Nat.le_trans (fold_le _ _ _ _) (hf.out _)
      have facts : Hid (∀ W', RM W' v → W'.cell? ⟨X, 0, none⟩ = some (.slice (some ⟨P, 0, none⟩) n n) ∧ X < W'.heap.size ∧ W'.cell? ⟨P, g, none⟩ = some (.slice pg ng cg) ∧ P < W'.heap.size ∧ W'.frozen? ⟨P, g, none⟩ = false) := fun W' h => by
        obtain ⟨a, _⟩ := h.cells
        obtain ⟨b, b2, b3⟩ := h.cell gl.out
        have e := lt_of h.head
        unfold Rt.sl at b
        rw [hqg.out, hpg.out, hcg.out, hng.out] at b
        change W'.cell? ⟨v.P, g, none⟩ = _ at b
        change v.P < _ at b2
        change W'.frozen? ⟨v.P, g, none⟩ = _ at b3
        rw [hP.out] at b b2 b3
        rw [hv.out, hP.out, vn] at a
        rw [hv.out] at e
        exact ⟨a, e, b, b2, b3⟩
      have vecs : Hid (∀ W' l', Apt W W' l' → l'[l.length]? = some (obE (some ⟨B, 0, none⟩) rc row) → Vec W' 30 4 (some ⟨B, 0, none⟩) N rc (enL row) ∧ B < W'.heap.size) := fun W' l' h hi => by
        have : Vec W' 30 4 (some ⟨B, 0, none⟩) row.length rc (enL row) := h.all _ _ hi
        rw [← hN1.out] at this
        exact ⟨this, this.lt (In.self B)⟩
      refine region_fill [16, 17, 19] [(43, .pointer (some ⟨X, 0, none⟩)), (44, .pointer (some ⟨X, 0, none⟩)), (45, .pointer (some ⟨X, 0, none⟩)), (46, .slice (some ⟨P, 0, none⟩) n n), (47, .int .i64 (g : Int)), (48, .pointer (some ⟨X, 0, none⟩)), (49, .pointer (some ⟨X, 0, none⟩)), (50, .pointer (some ⟨X, 0, none⟩)), (51, .slice (some ⟨P, 0, none⟩) n n), (52, .int .i64 (g : Int)), (53, .pointer (some ⟨P, g, none⟩)), (54, .slice pg ng cg), (55, .slice (some ⟨B, 0, none⟩) N rc), (56, .int .i64 (j : Int)), (57, .pointer (some ⟨B, j * 4, none⟩)), (58, .agg #[.int .i64 r.k, .int .i64 r.a, .int .i64 r.x, .int .i64 r.n]), (61, .pointer (some ⟨P, g, none⟩))] hmx (by kernel_rfl) (by kernel_rfl) ?_
      simp only [fills, Act.put, List.setIfInBounds_toArray, List.set_cons_zero, List.set_cons_succ]
      generalize (wr.drewN nq).drew = W2 at h2 ⊢
      obtain ⟨c0, lX, cP, lP, fP⟩ := facts.out _ (h2.out.all i _ hiv.out)
      obtain ⟨vE2, lB⟩ := vecs.out _ _ h2.out hiE.out
      refine flow_val (some 59) (.slice (some ⟨W2.heap.size, 0, none⟩) 1 1) (W2.alloc (.cells #[.int .i64 r.k, .int .i64 r.a, .int .i64 r.x, .int .i64 r.n] 30)) _ rfl rfl ?run (by go_simp) ?_
      case run =>
        intro i o ho hi
        iterate 20 (rcases i with _ | i; · first | (exact absurd hi (by decide)) | (cases ho; exact exec_load_at _ rfl rfl vE2 hjn hr.out) | (cases ho; go_simp; done))
        cases ho
      simp only [Act.put, List.setIfInBounds_toArray, List.set_cons_zero, List.set_cons_succ]
      have vE3 := vE2.grown ((Grown.refl W2).alloc #[.int .i64 r.k, .int .i64 r.a, .int .i64 r.x, .int .i64 r.n] 30)
      have v3 : Vec (W2.alloc (.cells #[.int .i64 r.k, .int .i64 r.a, .int .i64 r.x, .int .i64 r.n] 30)) 30 4 pg ng cg (enL qg) := by
        have : Vec W2 30 4 (v.r (false, g)).1 (v.A.L (false, g)).length (v.r (false, g)).2 (enL (v.A.L (false, g))) := (h2.out.all i _ hiv.out : RM W2 v).inn _ ⟨gl.out, by rw [hh.out]; exact fun x => by cases x⟩
        rw [hqg.out, hpg.out, hcg.out, hng.out] at this
        exact this.grown ((Grown.refl W2).alloc _ _)
      obtain ⟨p', c', W4, hr4, hv4, ho4, hp4⟩ := run_append_vec (P := Try.prog) 41 Try.underlying41 infoEn rfl v3 (m := 1) (cx := 1) (g := fun j => (cs r).getD j undef) (by decide) (new_four W2 r _) (cs_one r) (by omega) (by omega)
      rw [← hng.out, ← hqg.out] at hv4
      rw [← hpg.out] at ho4 hp4
      obtain ⟨h4, h5⟩ := grow_row h2.out hiv.out hh.out gl.out hv4 ho4 hp4
      have hl2 : Hid ((l.set i (obR v) ++ [obE (some ⟨B, 0, none⟩) rc row]).set i (obR (v.hole (false, g))) = l.set i (obR (v.hole (false, g))) ++ [obE (some ⟨B, 0, none⟩) rc row]) := by
        show _ = _
        rw [List.set_append_left (h := by simpa using hlt.out), List.set_set]
      have hl3 : Hid (∀ v' : Rt, (l.set i (obR v) ++ [obE (some ⟨B, 0, none⟩) rc row]).set i (obR v') = l.set i (obR v') ++ [obE (some ⟨B, 0, none⟩) rc row]) := fun v' => by
        rw [List.set_append_left (h := by simpa using hlt.out), List.set_set]
      rw [hl2.out] at h4
      rw [hl3.out, hqg.out, hng.out] at h5
      change Hid (Apt W (W4.setCell ⟨v.P, g, none⟩ (.slice p' (ng + 1) c')) (l.set i (obR (v.st (false, g) (qg ++ [r]) p' c')) ++ [obE (some ⟨B, 0, none⟩) rc row])) at h5
      rw [hP.out] at h5
      have a4 : RM W4 (v.hole (false, g)) := h4.out.all i _ (by rw [List.append_assoc, List.getElem?_append_left (by simpa using hlt.out), List.getElem?_set_self hlt.out])
      have b4 : (l.set i (obR (v.hole (false, g))) ++ [obE (some ⟨B, 0, none⟩) rc row] ++ [obE p' c' (v.A.L (false, g) ++ [r])])[l.length]? = some (obE (some ⟨B, 0, none⟩) rc row) := by
        have := at_mid (l.set i (obR (v.hole (false, g)))) (obE (some ⟨B, 0, none⟩) rc row) (obE p' c' (v.A.L (false, g) ++ [r]))
        rw [List.length_set] at this
        exact this
      have f4 : W4.cell? ⟨X, 0, none⟩ = some (.slice (some ⟨P, 0, none⟩) n n) ∧ X < W4.heap.size ∧ W4.cell? ⟨P, g, none⟩ = some (.slice pg ng cg) ∧ P < W4.heap.size ∧ W4.frozen? ⟨P, g, none⟩ = false := by
        obtain ⟨a, _⟩ := a4.cells
        obtain ⟨b, b2, b3⟩ := a4.cell (pl := (false, g)) gl.out
        have e := lt_of a4.head
        change W4.cell? ⟨v.P, g, none⟩ = some (.slice (v.r (false, g)).1 (v.A.L (false, g)).length (v.r (false, g)).2) at b
        change W4.cell? ⟨v.X, 0, none⟩ = some (.slice (some ⟨v.P, 0, none⟩) v.A.n v.A.n) at a
        change v.X < _ at e
        change v.P < _ at b2
        change W4.frozen? ⟨v.P, g, none⟩ = _ at b3
        rw [hqg.out, hpg.out, hcg.out, hng.out, hP.out] at b
        rw [hP.out] at b2 b3
        rw [hv.out, hP.out, vn] at a
        rw [hv.out] at e
        exact ⟨a, e, b, b2, b3⟩
      obtain ⟨vE4, lB4⟩ := vecs.out _ _ h4.out b4
      clear hv4 ho4 hp4 a4 b4 hl2 h4
      refine flow_val (some 60) (.slice p' (ng + 1) c') W4 _ rfl rfl ?run (exec_append rfl rfl rfl hr4) ?_
      case run =>
        clear hr4 f4
        intro i o ho hi
        iterate 20 (rcases i with _ | i; · first | (exact absurd hi (by decide)) | (cases ho; exact exec_load_at _ rfl rfl vE3 hjn hr.out) | (cases ho; go_simp; done))
        cases ho
      simp only [Act.put, List.setIfInBounds_toArray, List.set_cons_zero, List.set_cons_succ]
      clear hr4 c0 lX cP lP fP vE2 vE3 lB v3 h2
      obtain ⟨c0, lX, cP, lP, fP⟩ := f4
      refine flow_cons _ undef (W4.setCell ⟨P, g, none⟩ (.slice p' (ng + 1) c')) rfl ?run (by first | (left; go_simp; done) | (right; refine ⟨?_, rfl⟩; go_simp; done)) ?_
      case run =>
        intro i o ho hi
        iterate 20 (rcases i with _ | i; · first | (exact absurd hi (by decide)) | (cases ho; exact exec_load_at _ rfl rfl vE4 hjn hr.out) | (cases ho; go_simp; done))
        cases ho
      simp only [Act.put]
      first | show Exit.then _ _ Exit.normal _ _ | show Exit.inBlock _ _ Exit.normal _ _ | simp only [Flow]
      go_wp2
      go_roundw
      case rel =>
        refine ⟨j + 1, v.st (false, g) (qg ++ [r]) p' c', by omega, by go_num, hv, rfl, ?_, h5⟩
        show v.A.st (false, g) (qg ++ [r]) = _
        rw [take_snoc hr.out, List.foldl_append, List.foldl_cons, List.foldl_nil, ← hA.out, ← hqg.out]
        unfold Rp.ap
        rw [vs, vn, hg.out]
      case measure => simp [intOf]; omega
    · obtain rfl : j = N := by omega
      have hd3 : decide ((j : Int) < (j : Int)) = false := by rw [decide_eq_false_iff_not]; omega
      have hA2 : Hid (v.A = row.foldl Rp.ap u.A.up) := by
        show _ = _
        rw [hA.out, hN1.out, List.take_length]
      have fz1 : wr.frozen? ⟨X, 1, none⟩ = false := by rw [← hv.out]; exact fr0 hRv.head 1
      have fz2 : wr.frozen? ⟨X, 2, none⟩ = false := by rw [← hv.out]; exact fr0 hRv.head 2
      have hiv2 : Hid ((l.set i (obR v))[i]? = some (obR v)) := List.getElem?_set_self hlt.out
      have vmk : Hid (v.A.m = m + 1 ∧ v.A.k = k) := ⟨vm, vk⟩
      clear hRv g1 g2 g3 g4 c0 vs vn vk vm hd3
      by_cases hmk : m + 1 = k
      · have hd4 : (((m + 1 : Nat) : Int) == (k : Int)) = true := by rw [beq_iff_eq]; omega
        have hd5 : (((m : Int) + 1) == (k : Int)) = true := by rw [beq_iff_eq]; omega
        have hd3 : decide ((j : Int) < (j : Int)) = false := by rw [decide_eq_false_iff_not]; omega
        change Hid (m + 1 = k) at hmk
        go_wp2
        go_quiet (fail)
        go_wp2
        go_end0
        refine ⟨rfl, v.cl, ?_, hv.out, ?_, hh.out⟩
        · have h6 := cl_s ((hx.out.drewN nq).front) hiv2.out
          rw [hv.out, List.set_set] at h6
          exact h6
        · rw [hmv.out, ← hA2.out]
          unfold Rp.cl
          rw [if_pos (vmk.out.1.trans (hmk.out.trans vmk.out.2.symm))]
          rfl
      · have hd4 : (((m + 1 : Nat) : Int) == (k : Int)) = false := by rw [beq_eq_false_iff_ne]; omega
        have hd5 : (((m : Int) + 1) == (k : Int)) = false := by rw [beq_eq_false_iff_ne]; omega
        have hd3 : decide ((j : Int) < (j : Int)) = false := by rw [decide_eq_false_iff_not]; omega
        change Hid (¬ m + 1 = k) at hmk
        go_wp2
        go_quiet (fail)
        go_wp2
        go_end0
        refine ⟨rfl, v, (hx.out.drewN nq).front, hv.out, ?_, hh.out⟩
        rw [hmv.out, ← hA2.out]
        unfold Rp.cl
        rw [if_neg (fun x => hmk.out (vmk.out.1.symm.trans (x.trans vmk.out.2)))]
/-- What move makes of it. -/
theorem move_r (h : Apt W w l) (hi : l[i]? = some (obR u)) (hX : u.X = X) (hn : u.h = none) (hN : (u.A.L (true, u.A.m)).length ≤ 1000000) (hf : ∀ p, (u.A.mv.L p).length ≤ 1000000) : Calls Try.prog 34 #[.pointer (some ⟨X, 0, none⟩)] w fun e w' => e = .returned (.tuple #[]) ∧ ∃ u', Apt W w' (l.set i (obR u')) ∧ u'.X = X ∧ u'.A = u.A.mv ∧ u'.h = none := by
  subst hX
  by_cases hm : u.A.m < u.A.k
  · refine move_yes_r h hi hn hm hN fun p => ?_
    have := hf p
    rw [mv_yes _ hm] at this
    unfold Rp.cl at this
    split at this
    · exact this
    · exact this
  · refine (move_no_r (h.all i _ hi) hm).mono ?_
    rintro e w' ⟨rfl, d, rfl⟩
    refine ⟨rfl, u, ?_, rfl, (mv_no _ hm).symm, hn⟩
    have : l.set i (obR u) = l := by
      refine List.ext_getElem? fun j => ?_
      rw [List.getElem?_set]
      by_cases e : i = j
      · subst e
        rw [if_pos rfl, if_pos (List.getElem?_eq_some_iff.1 hi).1, hi]
      · rw [if_neg e]
    rw [this]
    exact h.drewN d
end Go.Proofs.Ythjcdloaclailaa.Tb
