/-
  The document's own lists: what New of package pantryref07 does when it is called; the lists by their rows and blocks.
-/
import Derived.Test.YtecnlciogcanmaaRqAll
namespace Go.Proofs.Ytecnlciogcanmaa
open Go.RowKit Go.Deep
variable {w w' : World} {R P : Nat} {pl : Option Addr} {cl : Nat} {q : Nat → Option Addr × Nat} {t : Ds}

def noQ (_ : Nat) : Option Addr × Nat := (none, 0)
theorem rstart (w : World) : RqM (w.alloc (.cells #[.slice none 0 0] 55)) w.heap.size none 0 noQ (Ds.zero 0) :=
  ⟨blk_alloc_new _ _, Vec.nil _ _ _ _, fun i hi => absurd hi (Nat.not_lt_zero i), fun i _ hi => absurd hi (Nat.not_lt_zero i)⟩
theorem infoRowI : (Try.prog.info? 61).map (fun i => (i.zero, i.size, i.bytes)) = some (some (.slice none 0 0), 1, 24) := by kernel_rfl
/-- One empty row more. -/
theorem RqM.grew {n : Nat} (h : RqM w R pl cl noQ (Ds.zero n)) {w2 : World} {p' : Option Addr} {c' : Nat} {tmp : Array Value} {y : TypeId}
    (hv : Vec w2 61 1 p' (n + 1) c' (fun j => if j < n * 1 then .slice none 0 0 else .slice none 0 0)) (o : Out (In pl) (w.alloc (.cells tmp y)) w2) (hp : p' = pl ∨ p' = some ⟨(w.alloc (.cells tmp y)).heap.size, 0, none⟩) :
    (w2.cell? ⟨R, 0, none⟩ = some (.slice pl n cl) ∧ w2.frozen? ⟨R, 0, none⟩ = false) ∧ RqM (w2.setCell ⟨R, 0, none⟩ (.slice p' (n + 1) c')) R p' c' noQ (Ds.zero (n + 1)) ∧ Out (qfoot R pl noQ n) w (w2.setCell ⟨R, 0, none⟩ (.slice p' (n + 1) c')) ∧ ∀ k, qfoot R p' noQ (n + 1) k → qfoot R pl noQ n k ∨ w.heap.size ≤ k := by
  have hx : ¬ In pl R := vec_ne h.outer h.head (by decide)
  have hold : Hold w R 55 #[.slice pl n cl] [⟨61, 1, pl, n, cl, fun _ => .slice none 0 0⟩] := by
    refine ⟨h.head, fun i V hi => ?_, fun i V hi => ?_, fun i j V U hi hj hij => ?_⟩
    · rcases i with _ | i
      · cases hi; exact h.outer
      · simp at hi
    · rcases i with _ | i
      · cases hi; exact hx
      · simp at hi
    · rcases i with _ | i
      · rcases j with _ | j
        · exact absurd rfl hij
        · simp at hj
      · simp at hi
  obtain ⟨a1, a2, a3, a4⟩ := hold.append (i := 0) (k := 0) rfl rfl hv o hp
  refine ⟨⟨a1, a2⟩, ⟨a3.head, ?_, fun i _ => Vec.nil _ _ _ _, fun i j _ _ _ k hk => absurd hk In.no⟩, ⟨a4.out.os, a4.out.output, a4.out.froz, a4.out.size, fun k hk hf => a4.out.block k hk fun f => ?_⟩, fun k hk => ?_⟩
  · have hv3 : Vec (w2.setCell ⟨R, 0, none⟩ (.slice p' (n + 1) c')) 61 1 p' (n + 1) c' (fun j => if j < n * 1 then .slice none 0 0 else .slice none 0 0) := a3.vec 0 _ rfl
    exact hv3.congr fun j _ => by split <;> rfl
  · rcases f with f | ⟨i, V, hi, f⟩
    · exact hf (Or.inl f)
    · rcases i with _ | i
      · cases hi; exact hf (Or.inr (Or.inl f))
      · simp at hi
  · rcases hk with hk | hk | ⟨i, _, hk⟩
    · exact Or.inl (Or.inl hk)
    · rcases hp with rfl | rfl
      · exact Or.inl (Or.inr (Or.inl hk))
      · have := hk.eq
        rw [nblk_alloc] at this
        exact Or.inr (by omega)
    · exact absurd hk In.no
set_option maxHeartbeats 2000000 in
theorem rnew_m (lists : Int) (w : World) :
    Calls Try.prog 10 #[.int .i64 lists] w fun e w' => ∃ R pl cl, e = .returned (ptr R) ∧ RqM w' R pl cl noQ (Ds.zero (rowsI lists)) ∧ Grown w w' ∧ ∀ k, qfoot R pl noQ (rowsI lists) k → w.heap.size ≤ k := by
  have h0 : ((rowsI lists : Nat) : Int) = min (max lists 0) 16 := by unfold rowsI; omega
  have hle := rowsI_le lists
  have HS : Hid (∃ pl cl, RqM (w.alloc (.cells #[.slice none 0 0] 55)) w.heap.size pl cl noQ (Ds.zero 0) ∧ Grown w (w.alloc (.cells #[.slice none 0 0] 55)) ∧ ∀ k, qfoot w.heap.size pl noQ 0 k → w.heap.size ≤ k) := by
    refine ⟨none, 0, rstart w, (Grown.refl _).alloc _ _, ?_⟩
    rintro k (e | e | ⟨i, hi, _⟩)
    · omega
    · exact absurd e In.no
    · exact absurd hi (Nat.not_lt_zero i)
  obtain ⟨N, HN⟩ : ∃ N, Hid (N = rowsI lists) := ⟨_, rfl⟩
  rw [← HN.out] at h0 hle ⊢
  have HB : Hid ((N : Int) = min (max lists 0) 16) := h0
  clear h0
  go_enter Try.func10, Try.ntmps10
  go_wp2
  go_loopw [4] (fun iv wr => ∃ (k : Nat) (pl : Option Addr) (cl : Nat), k ≤ N ∧ iv = .int .i64 (k : Int) ∧ RqM wr w.heap.size pl cl noQ (Ds.zero k) ∧ Grown w wr ∧ ∀ x, qfoot w.heap.size pl noQ k x → w.heap.size ≤ x) (fun iv _ => N - (intOf iv).toNat)
  case atStart =>
    obtain ⟨pl, cl, h1, h3, h4⟩ := HS.out
    exact ⟨0, pl, cl, by omega, rfl, h1, h3, h4⟩
  case round =>
    clear HS
    obtain ⟨k, pl, cl, hkN, rfl, hd, hgr, hft⟩ := hrel
    by_cases hlt : k < N
    · have d1 : decide ((k : Int) < lists) = true := by rw [decide_eq_true_eq]; have := HB.out; omega
      have d2 : decide ((k : Int) < 16) = true := by rw [decide_eq_true_eq]; omega
      have c0 : wr.cell? ⟨w.heap.size, 0, none⟩ = some (.slice pl k cl) := hd.cell0
      have lR := lt_of hd.head
      have fR := froz_of hd.head
      have HV : Hid (∀ c y, Vec (wr.alloc (.cells c y)) 61 1 pl k cl (fun _ => .slice none 0 0)) := fun c y => hd.outer.grown ((Grown.refl _).alloc c y)
      have HW : Hid (∀ (w2 : World) (p' : Option Addr) (c' : Nat) (tmp : Array Value) (y : TypeId), Vec w2 61 1 p' (k + 1) c' (fun j => if j < k * 1 then .slice none 0 0 else .slice none 0 0) → Out (In pl) (wr.alloc (.cells tmp y)) w2 → (p' = pl ∨ p' = some ⟨(wr.alloc (.cells tmp y)).heap.size, 0, none⟩) →
          (w2.cell? ⟨w.heap.size, 0, none⟩ = some (.slice pl k cl) ∧ w2.frozen? ⟨w.heap.size, 0, none⟩ = false) ∧ ∃ X3, w2.setCell ⟨w.heap.size, 0, none⟩ (.slice p' (k + 1) c') = X3 ∧ Hid (∃ pl cl, RqM X3 w.heap.size pl cl noQ (Ds.zero (k + 1)) ∧ Grown w X3 ∧ ∀ x, qfoot w.heap.size pl noQ (k + 1) x → w.heap.size ≤ x)) := fun w2 p' c' tmp y hv ho hp => by
        obtain ⟨a1, a2, a3, a4⟩ := hd.grew hv ho hp
        refine ⟨a1, _, rfl, p', c', a2, a3.grown hgr hft, fun x hx => ?_⟩
        rcases a4 x hx with e | e
        · exact hft x e
        · exact Nat.le_trans hgr.2.2 e
      clear hd hft
      go_wp2_with (first | (at_builtin; refine wpList_append_vec rfl (.tmp 20) (.tmp 21) 53 rfl Try.underlying53 infoRowI rfl rfl (HV.out _ _) rfl (by decide) (new_ptr _ _ _) (fun _ _ => rfl) (by omega) (by omega) ?_; intro p' c' w2 hv2 ho2 hp2; obtain ⟨⟨g1, g2⟩, X3, hX3, HX⟩ := HW.out _ _ _ _ _ hv2 ho2 hp2; clear hv2 ho2 hp2))
      go_roundw
      case rel =>
        obtain ⟨pl', cl', h1, h3, h4⟩ := HX.out
        exact ⟨k + 1, pl', cl', by omega, by go_num, h1, h3, h4⟩
      case measure => simp [intOf]; omega
    · obtain rfl : k = N := by omega
      have hc : decide ((k : Int) < lists) = false ∨ (decide ((k : Int) < lists) = true ∧ decide ((k : Int) < 16) = false) := by
        have := HB.out
        by_cases h : (k : Int) < lists
        · exact Or.inr ⟨decide_eq_true h, decide_eq_false (by omega)⟩
        · exact Or.inl (decide_eq_false h)
      rcases hc with d1 | ⟨d1, d2⟩
      all_goals
        go_wp2
        go_ret
        exact ⟨_, _, _, rfl, hd, hgr, hft⟩

/-- The document's lists at block R with those rows, their blocks F. -/
def Rq (w : World) (R : Nat) (F : Nat → Prop) (t : Ds) : Prop := ∃ pl cl q, RqM w R pl cl q t ∧ F = qfoot R pl q t.n
variable {F : Nat → Prop}
namespace Rq
theorem lt (h : Rq w R F t) {k : Nat} (hk : F k) : k < w.heap.size := by
  obtain ⟨pl, cl, q, h, rfl⟩ := h
  exact h.foot_lt hk
theorem keep (h : Rq w R F t) (hk : ∀ k, F k → w'.heap[k]? = w.heap[k]?) : Rq w' R F t := by
  obtain ⟨pl, cl, q, h, rfl⟩ := h
  exact ⟨pl, cl, q, h.keep hk, rfl⟩
theorem out {G : Nat → Prop} (h : Rq w R F t) (o : Out G w w') (hF : ∀ k, F k → ¬ G k) : Rq w' R F t := h.keep fun k hk => o.block k (h.lt hk) (hF k hk)
theorem grown (h : Rq w R F t) (g : Grown w w') : Rq w' R F t := h.keep fun _ hk => grown_block g (h.lt hk)
end Rq
theorem rnew_a (lists : Int) (w : World) : Calls Try.prog 10 #[.int .i64 lists] w fun e w' => ∃ R F, e = .returned (ptr R) ∧ Rq w' R F (Ds.zero (rowsI lists)) ∧ Grown w w' ∧ ∀ k, F k → w.heap.size ≤ k := by
  refine (rnew_m lists w).mono ?_
  rintro e w' ⟨R, pl, cl, rfl, h, g, b⟩
  exact ⟨R, _, rfl, ⟨pl, cl, noQ, h, rfl⟩, g, b⟩
theorem rpush_a (h : Rq w R F t) (hw : t.Wf) (hlen : ∀ i, (t.L i).length ≤ 65536) (l id wt : Int) : Calls Try.prog 12 #[ptr R, .int .i64 l, .int .i64 id, .int .i64 wt] w fun e w' => e = .returned (.int .i64 (t.pushE l id wt)) ∧ ∃ F', Rq w' R F' (t.pushI l id wt) ∧ Step F F' w w' := by
  obtain ⟨pl, cl, q, h, rfl⟩ := h
  unfold Ds.pushI
  cases hb : (t.has l && Ds.mayBe id && Ds.mayWeigh wt) with
  | false =>
    have e1 : t.pushE l id wt = 1 := by unfold Ds.pushE; rw [hb]; rfl
    rw [e1, if_neg (by omega)]
    refine (rpush_arg h l id wt hb).mono ?_
    rintro e w' ⟨rfl, hw'⟩
    exact ⟨rfl, _, ⟨pl, cl, q, by rw [hw']; exact h, rfl⟩, step_same hw'⟩
  | true =>
    have hb' := hb
    rw [Bool.and_eq_true, Bool.and_eq_true] at hb'
    obtain ⟨⟨q1, q2⟩, q3⟩ := hb'
    have q1' := of_decide_eq_true q1
    have q2' := of_decide_eq_true q2
    cases hf : t.find id with
    | none =>
      have e1 : t.pushE l id wt = 0 := by unfold Ds.pushE; rw [hb, hf]; rfl
      rw [e1, if_pos rfl]
      obtain ⟨i, rfl⟩ : ∃ i : Nat, l = i := ⟨l.toNat, by omega⟩
      refine (rpush_ok h hw hlen i id wt (by omega) q2' q3 hf).mono ?_
      rintro e w' ⟨rfl, q', h1, h2⟩
      exact ⟨rfl, _, ⟨pl, cl, q', h1, rfl⟩, h2⟩
    | some p =>
      obtain ⟨i, v⟩ := p
      have e1 : t.pushE l id wt = 5 := by unfold Ds.pushE; rw [hb, hf]; rfl
      rw [e1, if_neg (by omega)]
      refine (rpush_twice h hw hlen l id wt q1 q2' q3 hf).mono ?_
      rintro e w' ⟨rfl, hw'⟩
      exact ⟨rfl, _, ⟨pl, cl, q, by rw [hw']; exact h, rfl⟩, step_same hw'⟩
theorem runlink_a (h : Rq w R F t) (hw : t.Wf) (hlen : ∀ i, (t.L i).length ≤ 65536) (id : Int) : Calls Try.prog 14 #[ptr R, .int .i64 id] w fun e w' => e = .returned (.int .i64 (t.unlinkE id)) ∧ ∃ F', Rq w' R F' (t.unlinkI id) ∧ Step F F' w w' := by
  obtain ⟨pl, cl, q, h, rfl⟩ := h
  unfold Ds.unlinkI Ds.unlinkE
  cases hf : t.find id with
  | none =>
    refine (runlink_no h hw hlen hf).mono ?_
    rintro e w' ⟨rfl, hw'⟩
    exact ⟨rfl, _, ⟨pl, cl, q, by rw [hw']; exact h, rfl⟩, step_same hw'⟩
  | some p =>
    obtain ⟨i, v⟩ := p
    refine (runlink_ok h hw hlen hf).mono ?_
    rintro e w' ⟨rfl, q', h1, h2⟩
    exact ⟨rfl, _, ⟨pl, cl, q', h1, rfl⟩, h2⟩
theorem rmove_a (h : Rq w R F t) (hw : t.Wf) (hlen : ∀ i, (t.L i).length ≤ 65536) (id l : Int) : Calls Try.prog 16 #[ptr R, .int .i64 id, .int .i64 l] w fun e w' => e = .returned (.int .i64 (t.moveE id l)) ∧ ∃ F', Rq w' R F' (t.moveI id l) ∧ Step F F' w w' := by
  obtain ⟨pl, cl, q, h, rfl⟩ := h
  unfold Ds.moveI
  cases hf : t.find id with
  | none =>
    have e1 : t.moveE id l = 3 := by unfold Ds.moveE; rw [hf]; rfl
    rw [e1, if_neg (by omega)]
    refine (rmove_no h hw hlen l hf).mono ?_
    rintro e w' ⟨rfl, hw'⟩
    exact ⟨rfl, _, ⟨pl, cl, q, by rw [hw']; exact h, rfl⟩, step_same hw'⟩
  | some p =>
    obtain ⟨i, v⟩ := p
    cases hl : t.has l with
    | false =>
      have e1 : t.moveE id l = 1 := by unfold Ds.moveE; rw [hf, hl]; rfl
      rw [e1, if_neg (by omega)]
      refine (rmove_arg h hw hlen l hf hl).mono ?_
      rintro e w' ⟨rfl, hw'⟩
      exact ⟨rfl, _, ⟨pl, cl, q, by rw [hw']; exact h, rfl⟩, step_same hw'⟩
    | true =>
      have e1 : t.moveE id l = 0 := by unfold Ds.moveE; rw [hf, hl]; rfl
      rw [e1, if_pos rfl]
      have hl2 := of_decide_eq_true hl
      obtain ⟨j, rfl⟩ : ∃ j : Nat, l = j := ⟨l.toNat, by omega⟩
      refine (rmove_ok h hw hlen j hf (by omega)).mono ?_
      rintro e w' ⟨rfl, q', h1, h2⟩
      exact ⟨rfl, _, ⟨pl, cl, q', h1, rfl⟩, h2⟩
theorem rreweigh_a (h : Rq w R F t) (hw : t.Wf) (hlen : ∀ i, (t.L i).length ≤ 65536) (id wt : Int) : Calls Try.prog 18 #[ptr R, .int .i64 id, .int .i64 wt] w fun e w' => e = .returned (.int .i64 (t.reweighE id wt)) ∧ ∃ F', Rq w' R F' (t.reweighI id wt) ∧ Step F F' w w' := by
  obtain ⟨pl, cl, q, h, rfl⟩ := h
  unfold Ds.reweighI
  cases hf : t.find id with
  | none =>
    have e1 : t.reweighE id wt = 3 := by unfold Ds.reweighE; rw [hf]; rfl
    rw [e1, if_neg (by omega)]
    refine (rreweigh_no h hw hlen wt hf).mono ?_
    rintro e w' ⟨rfl, hw'⟩
    exact ⟨rfl, _, ⟨pl, cl, q, by rw [hw']; exact h, rfl⟩, step_same hw'⟩
  | some p =>
    obtain ⟨i, v⟩ := p
    cases hl : Ds.mayWeigh wt with
    | false =>
      have e1 : t.reweighE id wt = 1 := by unfold Ds.reweighE; rw [hf, hl]; rfl
      rw [e1, if_neg (by omega)]
      refine (rreweigh_arg h hw hlen wt hf hl).mono ?_
      rintro e w' ⟨rfl, hw'⟩
      exact ⟨rfl, _, ⟨pl, cl, q, by rw [hw']; exact h, rfl⟩, step_same hw'⟩
    | true =>
      have e1 : t.reweighE id wt = 0 := by unfold Ds.reweighE; rw [hf, hl]; rfl
      rw [e1, if_pos rfl]
      refine (rreweigh_ok h hw hlen wt hf hl).mono ?_
      rintro e w' ⟨rfl, h1, h2⟩
      exact ⟨rfl, _, ⟨pl, cl, q, h1, rfl⟩, h2, fun _ => Or.inl⟩
theorem rof_a (h : Rq w R F t) (hw : t.Wf) (hlen : ∀ i, (t.L i).length ≤ 65536) (id : Int) : Calls Try.prog 20 #[ptr R, .int .i64 id] w fun e w' => e = .returned (.tuple #[.int .i64 (t.ofL id), .int .i64 (t.ofW id)]) ∧ Grown w w' := by
  obtain ⟨pl, cl, q, h, rfl⟩ := h
  unfold Ds.ofL Ds.ofW
  cases hf : t.find id with
  | none => exact (rof_no h hw hlen hf).mono fun e w' ⟨a, d, b⟩ => ⟨a, by rw [b]; exact grownDrewN (Grown.refl _) d⟩
  | some p =>
    obtain ⟨i, v⟩ := p
    exact (rof_yes h hw hlen hf).mono fun e w' ⟨a, d, b⟩ => ⟨a, by rw [b]; exact grownDrewN (Grown.refl _) d⟩
end Go.Proofs.Ytecnlciogcanmaa
