/-
  Lists of package deque and the document's own beside them, and slices apart from both, all in new memory: what each call leaves of all; what the statements' own agree tells.
-/
import Derived.Test.YtecnlciogcanmaaRqNew
namespace Go.Proofs.Ytecnlciogcanmaa
open Go.RowKit Go.Deep

/-- Lists, the document's, and slices, all apart and made since W; of what W held nothing has turned. -/
def Duo (W w : World) (X R : Nat) (t u : Ds) (vs : List Vd) : Prop :=
  ∃ F G, Dq w X F t ∧ Rq w R G u ∧ (∀ k, F k → ¬ G k) ∧ (∀ V ∈ vs, V.On w ∧ ∀ k, In V.p k → ¬ F k ∧ ¬ G k ∧ W.heap.size ≤ k) ∧ Grown W w ∧ (∀ k, F k → W.heap.size ≤ k) ∧ ∀ k, G k → W.heap.size ≤ k
variable {W w w' : World} {X R : Nat} {t t' u u' : Ds} {vs : List Vd}
namespace Duo
theorem wf (h : Duo W w X R t u vs) : t.Wf := by obtain ⟨F, G, h, _⟩ := h; exact h.wf
theorem old (h : Duo W w X R t u vs) : Grown W w := by obtain ⟨F, G, _, _, _, _, h, _⟩ := h; exact h
theorem on (h : Duo W w X R t u vs) {V : Vd} (hV : V ∈ vs) : V.On w := by obtain ⟨F, G, _, _, _, h, _⟩ := h; exact (h V hV).1
theorem less (h : Duo W w X R t u vs) {us : List Vd} (hs : ∀ V ∈ us, V ∈ vs) : Duo W w X R t u us := by
  obtain ⟨F, G, h1, h2, h3, h4, h5⟩ := h
  exact ⟨F, G, h1, h2, h3, fun V hV => h4 V (hs V hV), h5⟩
theorem grown (h : Duo W w X R t u vs) (g : Grown w w') : Duo W w' X R t u vs := by
  obtain ⟨F, G, h1, h2, h3, h4, h5, h6⟩ := h
  exact ⟨F, G, h1.grown g, h2.grown g, h3, fun V hV => ⟨Vec.grown (h4 V hV).1 g, (h4 V hV).2⟩, grownTrans h5 g, h6⟩
theorem drewN (h : Duo W w X R t u vs) (d : Nat) : Duo W (w.drewN d) X R t u vs := h.grown (grownDrewN (Grown.refl _) d)
theorem add (h : Duo W w X R t u vs) {V : Vd} (g : Grown w w') (hV : V.On w') (hn : ∀ k, In V.p k → w.heap.size ≤ k) : Duo W w' X R t u (V :: vs) := by
  obtain ⟨F, G, h1, h2, h3, h4, h5, h6, h7⟩ := h
  refine ⟨F, G, h1.grown g, h2.grown g, h3, fun U hU => ?_, grownTrans h5 g, h6, h7⟩
  rcases List.mem_cons.1 hU with rfl | hU
  · exact ⟨hV, fun k hk => ⟨fun hf => by have := h1.lt hf; have := hn k hk; omega, fun hf => by have := h2.lt hf; have := hn k hk; omega, Nat.le_trans h5.2.2 (hn k hk)⟩⟩
  · exact ⟨Vec.grown (h4 U hU).1 g, (h4 U hU).2⟩
theorem cells (h : Duo W w X R t u vs) : ∃ pl cl, w.cell? ⟨R, 0, none⟩ = some (.slice pl u.n cl) ∧ R < w.heap.size := by
  obtain ⟨F, G, _, ⟨pl, cl, q, h, _⟩, _⟩ := h
  exact ⟨pl, cl, h.cell0, lt_of h.head⟩
end Duo
theorem duo_x {P : Program} {fn : FuncId} {args : Array Value} {v : Value} (h : Duo W w X R t u vs) (hc : ∀ F, Dq w X F t → Calls P fn args w fun e w' => e = .returned v ∧ ∃ F', Dq w' X F' t' ∧ Step F F' w w') : Calls P fn args w fun e w' => e = .returned v ∧ Duo W w' X R t' u vs := by
  obtain ⟨F, G, h1, h2, h3, h4, h5, h6, h7⟩ := h
  refine (hc F h1).mono ?_
  rintro e w' ⟨rfl, F', k1, k2⟩
  have hG := k2.apart (G := G) (fun k hk => h2.lt hk) (fun k hk hf => h3 k hf hk)
  refine ⟨rfl, F', G, k1, h2.out k2.out (fun k hk hf => h3 k hf hk), fun k hf hg => hG k hg hf, fun V hV => ⟨Vec.out (h4 V hV).1 k2.out fun k hk => ((h4 V hV).2 k hk).1, fun k hk => ⟨?_, ((h4 V hV).2 k hk).2⟩⟩, (k2.keeps h5 h6).1, (k2.keeps h5 h6).2, h7⟩
  exact k2.apart (G := In V.p) (fun _ hk => Vec.lt (h4 V hV).1 hk) (fun k hk => ((h4 V hV).2 k hk).1) k hk
theorem duo_r {P : Program} {fn : FuncId} {args : Array Value} {v : Value} (h : Duo W w X R t u vs) (hc : ∀ G, Rq w R G u → Calls P fn args w fun e w' => e = .returned v ∧ ∃ G', Rq w' R G' u' ∧ Step G G' w w') : Calls P fn args w fun e w' => e = .returned v ∧ Duo W w' X R t u' vs := by
  obtain ⟨F, G, h1, h2, h3, h4, h5, h6, h7⟩ := h
  refine (hc G h2).mono ?_
  rintro e w' ⟨rfl, G', k1, k2⟩
  have hF := k2.apart (G := F) (fun k hk => h1.lt hk) h3
  refine ⟨rfl, F, G', h1.out k2.out h3, k1, hF, fun V hV => ⟨Vec.out (h4 V hV).1 k2.out fun k hk => ((h4 V hV).2 k hk).2.1, fun k hk => ⟨((h4 V hV).2 k hk).1, ?_, ((h4 V hV).2 k hk).2.2⟩⟩, (k2.keeps h5 h7).1, h6, (k2.keeps h5 h7).2⟩
  exact k2.apart (G := In V.p) (fun _ hk => Vec.lt (h4 V hV).1 hk) (fun k hk => ((h4 V hV).2 k hk).2.1) k hk
theorem duo_xg {P : Program} {fn : FuncId} {args : Array Value} {v : Value} (h : Duo W w X R t u vs) (hc : ∀ F, Dq w X F t → Calls P fn args w fun e w' => e = .returned v ∧ Grown w w') : Calls P fn args w fun e w' => e = .returned v ∧ Duo W w' X R t u vs := by
  have h' := h
  obtain ⟨F, G, h1, _⟩ := h
  exact (hc F h1).mono fun e w' ⟨a, b⟩ => ⟨a, h'.grown b⟩
theorem duo_rg {P : Program} {fn : FuncId} {args : Array Value} {v : Value} (h : Duo W w X R t u vs) (hc : ∀ G, Rq w R G u → Calls P fn args w fun e w' => e = .returned v ∧ Grown w w') : Calls P fn args w fun e w' => e = .returned v ∧ Duo W w' X R t u vs := by
  have h' := h
  obtain ⟨F, G, _, h2, _⟩ := h
  exact (hc G h2).mono fun e w' ⟨a, b⟩ => ⟨a, h'.grown b⟩
theorem duo_row (h : Duo W w X R t u vs) (l M : Int) (hM : 1 ≤ M) : Calls Try.prog 22 #[ptr X, .int .i64 l, .int .i64 M] w fun e w' => ∃ p c, e = .returned (.slice p (min (t.rowI l).length M.toNat) c) ∧ Duo W w' X R t u (ids p (min (t.rowI l).length M.toNat) c (t.rowI l) :: vs) := by
  have h' := h
  obtain ⟨F, G, h1, _⟩ := h
  refine (row_tells h1 l M hM).mono ?_
  rintro e w' ⟨p, c, k, rfl, hk, hv, hg, hn⟩
  subst hk
  exact ⟨p, c, rfl, h'.add (V := ids p _ c (t.rowI l)) hg hv hn⟩
theorem duo_all (h : Duo W w X R t u vs) (hw : u.Wf) (hlen : ∀ i, (u.L i).length ≤ 65536) (l : Int) : Calls Try.prog 37 #[ptr R, .int .i64 l] w fun e w' => ∃ p c, e = .returned (.slice p (u.rowI l).length c) ∧ Duo W w' X R t u (ids p (u.rowI l).length c (u.rowI l) :: vs) := by
  have h' := h
  obtain ⟨F, G, _, ⟨pl, cl, q, h2, _⟩, _⟩ := h
  refine (rall_m2 h2 hw hlen l).mono ?_
  rintro e w' ⟨p, c, rfl, hv, hg, hn⟩
  exact ⟨p, c, rfl, h'.add (V := ids p _ c (u.rowI l)) hg hv hn⟩
theorem duo_ints (h : Duo W w X R t u vs) {p q : Option Addr} {n c d : Nat} {D : List (Int × Int)} (hp : ids p n c D ∈ vs) (hq : ids q n d D ∈ vs) (hn : n ≤ 65536) :
    Calls Try.prog 27 #[.slice p n c, .slice q n d] w fun e w' => e = .returned (.bool true) ∧ Duo W w' X R t u vs :=
  (ints_vec (D := D) (show Vec w 3 1 p n c (idsC D) from h.on hp) (show Vec w 3 1 q n d (idsC D) from h.on hq) hn).mono fun _ _ ⟨a, m, b⟩ => ⟨a, by rw [b]; exact h.drewN m⟩
theorem Ds.Short.row {n m : Nat} (h : t.Short n m) (l : Int) : (t.rowI l).length ≤ m := by
  unfold Ds.rowI
  split
  · exact h.2 _
  · simp
set_option maxHeartbeats 4000000 in
theorem agree_d {n m : Nat} (h : Duo W w X R t t vs) (hs : t.Short n m) (hm : m ≤ 1000) :
    Calls Try.prog 21 #[ptr X, ptr R] w fun e w' => e = .returned (.bool true) ∧ Duo W w' X R t t vs := by
  have hw := h.wf
  have hcap := hw.cap
  have hlen : ∀ i, (t.L i).length ≤ 65536 := fun i => by have := hs.2 i; omega
  have HW : Hid (t.Wf ∧ ∀ i, (t.L i).length ≤ 65536) := ⟨hw, hlen⟩
  have HS : Hid (∀ l : Int, (t.rowI l).length ≤ m) := fun l => hs.row l
  obtain ⟨N, HN⟩ : ∃ N, Hid (N = t.n) := ⟨_, rfl⟩
  rw [← HN.out] at hcap
  clear hw hlen hs
  unfold ptr
  go_enter Try.func21, Try.ntmps21
  go_wp2
  go_loopw [5] (fun iv wr => ∃ k : Nat, k ≤ N + 2 ∧ iv = .int .i64 ((k : Int) - 1) ∧ Duo W wr X R t t vs) (fun iv _ => (N + 2) - (intOf iv + 1).toNat)
  case atStart => exact ⟨0, by omega, rfl, h⟩
  case round =>
    clear h
    obtain ⟨k, hk, rfl, h⟩ := hrel
    obtain ⟨pl, cl, c0, lR⟩ := h.cells
    rw [← HN.out] at c0
    by_cases hlt : k < N + 2
    · obtain ⟨l, Hl⟩ : ∃ l : Int, Hid (l = (k : Int) - 1) := ⟨_, rfl⟩
      have hlI : l ≤ (N : Int) := by have := Hl.out; omega
      have hl0 : -1 ≤ l := by have := Hl.out; omega
      rw [← Hl.out]
      have d1 : decide (l ≤ (N : Int)) = true := by rw [decide_eq_true_eq]; exact hlI
      have hL := HS.out l
      have hmin : min (t.rowI l).length (1000 : Int).toNat = (t.rowI l).length := by
        show min (t.rowI l).length 1000 = _
        omega
      have ro := fun W' vs' (h : Duo W W' X R t t vs') => duo_row h l 1000 (by omega)
      rw [hmin] at ro
      have al := fun W' vs' (h : Duo W W' X R t t vs') => duo_all h HW.out.1 HW.out.2 l
      have fx := fun W' vs' (h : Duo W W' X R t t vs') => duo_xg h fun _ h => front_a h l
      have fr := fun W' vs' (h : Duo W W' X R t t vs') => duo_rg h fun _ ⟨_, _, _, h, _⟩ => rfront_m h HW.out.1 HW.out.2 l
      have bx := fun W' vs' (h : Duo W W' X R t t vs') => duo_xg h fun _ h => back_a h l
      have br := fun W' vs' (h : Duo W W' X R t t vs') => duo_rg h fun _ ⟨_, _, _, h, _⟩ => rback_m h HW.out.1 HW.out.2 l
      have wx := fun W' vs' (h : Duo W W' X R t t vs') => duo_xg h fun _ h => weight_a h l
      have wr' := fun W' vs' (h : Duo W W' X R t t vs') => duo_rg h fun _ ⟨_, _, _, h, _⟩ => (rweight_m h HW.out.1 HW.out.2 l).mono fun e w' ⟨a, b⟩ => ⟨a, by rw [b]; exact Grown.refl _⟩
      have lx := fun W' vs' (h : Duo W W' X R t t vs') => duo_xg h fun _ h => len_a h l
      have lr := fun W' vs' (h : Duo W W' X R t t vs') => duo_rg h fun _ ⟨_, _, _, h, _⟩ => rlen_m2 h HW.out.1 HW.out.2 l
      have HIn : Hid (∀ W' p c p' c', Duo W W' X R t t (ids p' (t.rowI l).length c' (t.rowI l) :: ids p (t.rowI l).length c (t.rowI l) :: vs) → Calls Try.prog 27 #[.slice p (t.rowI l).length c, .slice p' (t.rowI l).length c'] W' fun e w' => e = .returned (.bool true) ∧ Duo W w' X R t t vs) := fun W' p c p' c' h => (duo_ints h (D := t.rowI l) (by simp) (by simp) (by omega)).mono fun e w' ⟨a, b⟩ => ⟨a, b.less fun V hV => by simp [hV]⟩
      obtain ⟨D, HD⟩ : ∃ D, Hid (D = t.rowI l) := ⟨_, rfl⟩
      rw [← HD.out] at ro al fx fr bx br wx wr' lx lr HIn hL
      obtain ⟨L, HL⟩ : ∃ L, Hid (L = D.length) := ⟨_, rfl⟩
      rw [← HL.out] at ro al lx lr HIn hL
      obtain ⟨f, Hf⟩ : ∃ f, Hid (f = (D.map (·.1)).headD 0) := ⟨_, rfl⟩
      obtain ⟨b, Hb⟩ : ∃ b, Hid (b = (D.map (·.1)).getLastD 0) := ⟨_, rfl⟩
      obtain ⟨v, Hv⟩ : ∃ v, Hid (v = sumI (D.map (·.2))) := ⟨_, rfl⟩
      rw [← Hf.out] at fx fr
      rw [← Hb.out] at bx br
      rw [← Hv.out] at wx wr'
      have q1 : (f != f) = false := by simp
      have q2 : (b != b) = false := by simp
      have q3 : (v != v) = false := by simp
      have q4 : ((L : Int) != (L : Int)) = false := by simp
      clear hmin HS HW
      unfold ptr at ro al fx fr bx br wx wr' lx lr
      go_wp2_with (first | (go_at_call 22; refine (ro _ _ h).mono ?_; rintro e w1 ⟨p1, c1, rfl, h1⟩) | (go_at_call 37; refine (al _ _ h1).mono ?_; rintro e w2 ⟨p2, c2, rfl, h2⟩) | (go_at_call 27; refine (HIn.out _ _ _ _ _ h2).mono ?_; rintro e w3 ⟨rfl, h3⟩) | (go_at_call 26; refine (fx _ _ h3).mono ?_; rintro e w4 ⟨rfl, h4⟩) | (go_at_call 38; refine (fr _ _ h4).mono ?_; rintro e w5 ⟨rfl, h5⟩) | (go_at_call 25; refine (bx _ _ h5).mono ?_; rintro e w6 ⟨rfl, h6⟩) | (go_at_call 39; refine (br _ _ h6).mono ?_; rintro e w7 ⟨rfl, h7⟩) | (go_at_call 24; refine (wx _ _ h7).mono ?_; rintro e w8 ⟨rfl, h8⟩) | (go_at_call 40; refine (wr' _ _ h8).mono ?_; rintro e w9 ⟨rfl, h9⟩) | (go_at_call 23; refine (lx _ _ h9).mono ?_; rintro e w10 ⟨rfl, h10⟩) | (go_at_call 41; refine (lr _ _ h10).mono ?_; rintro e w11 ⟨rfl, h11⟩))
      go_roundw
      case rel => exact ⟨k + 1, by omega, by have := Hl.out; subst this; go_num, h11⟩
      case measure => have := Hl.out; simp [intOf]; omega
    · have hkk : k = N + 2 := by omega
      subst hkk
      have hx : (((N + 2 : Nat) : Int) - 1) = (N : Int) + 1 := by omega
      rw [hx]
      have d1 : decide ((N : Int) + 1 ≤ (N : Int)) = false := by rw [decide_eq_false_iff_not]; omega
      go_wp2
      go_ret
      exact ⟨rfl, h⟩
end Go.Proofs.Ytecnlciogcanmaa
