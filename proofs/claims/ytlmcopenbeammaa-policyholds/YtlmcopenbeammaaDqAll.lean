/-
  What All gives of a row, and what the statements' own Row tells of it.
-/
import Derived.Test.YtlmcopenbeammaaDqIter
namespace Go.Proofs.Ytlmcopenbeammaa
open Go.RowKit Go.Deep
attribute [local go_sem] Oper.semAt_some

variable {w w' : World} {X : Nat} {pr : Option Addr} {cr M : Nat} {g : Gh} {m : Int → Option Nat}
theorem row_goes (h : DqM w X pr cr M g m) (l : Int) :
    Calls Try.prog 54 #[ptr X, .int .i64 l] w fun e w' => ∃ R H E B, e = .returned (ptr R) ∧ Goes w' R H E B ∧ B.map (fun b => (E b).id) = (g.rowI l).map (·.1) ∧ Grown w w' ∧ ∀ k, gfoot R H B k → dfoot X pr M g k ∨ w.heap.size ≤ k := by
  by_cases hl : 0 ≤ l ∧ l < (g.n : Int)
  · obtain ⟨i, rfl⟩ : ∃ i : Nat, l = i := ⟨l.toNat, by omega⟩
    have hi : i < g.n := by omega
    refine (row_in h hi).mono ?_
    rintro e w' ⟨rfl, rfl⟩
    have hw := h.core.wf
    refine ⟨g.r i, g.h i, g.E, g.B i, rfl, ⟨⟨_, h.core.rows i hi⟩, h.core.els i hi, hw.ring i hi, hw.hd i hi, fun b hb => (hw.els i hi b hb).1, hw.len hi⟩, ?_, Grown.refl _, fun k hk => Or.inl (Or.inr (Or.inr (Or.inr ⟨i, hi, hk⟩)))⟩
    unfold Gh.rowI
    rw [if_pos hl, show (i : Int).toNat = i by omega]
    unfold Gh.row
    rw [List.map_map]; rfl
  · refine (row_no h hl).mono ?_
    rintro e w' ⟨rfl, h1, h2, h3⟩
    refine ⟨_, w.heap.size, fun _ => ⟨0, 0, 0, w.heap.size, w.heap.size⟩, [], rfl, ⟨⟨_, h2⟩, fun b hb => ?_, ⟨rfl, rfl, trivial⟩, rfl, fun b hb => absurd hb List.not_mem_nil, by simp⟩, ?_, h3, fun k hk => Or.inr ?_⟩
    · simp at hb; rw [hb]; exact h1
    · unfold Gh.rowI; rw [if_neg hl]; rfl
    · rcases hk with hk | hk
      · omega
      · simp at hk; omega

def idE (x : Int) : Array Value := #[.int .i64 x]
/-- The blocks that All's function value reads. -/
def afoot (b1 b2 X : Nat) (pr : Option Addr) (M : Nat) (g : Gh) (k : Nat) : Prop := k = b1 ∨ k = b2 ∨ dfoot X pr M g k
set_option maxRecDepth 100000 in
set_option maxHeartbeats 4000000 in
theorem all_it {b1 b2 : Nat} {li : Int} (hb1 : w.heap[b1]? = some (.cells #[ptr X] 45 (0, 0))) (hb2 : w.heap[b2]? = some (.cells #[.int .i64 li] 3 (0, 0))) (h : DqM w X pr cr M g m) :
    Iter Try.prog 53 #[ptr b1, ptr b2] (afoot b1 b2 X pr M g) (((g.rowI li).map (·.1)).map idE) w := fun n l J Jx W G hk hKG hJ hJx hJl hY h0 => by
  have hA := h.keep (w' := W) fun k hk' => hk.block k (Or.inr (Or.inr hk'))
  have hb1' := (hk.block b1 (Or.inl rfl)).trans hb1
  have hb2' := (hk.block b2 (Or.inr (Or.inl rfl))).trans hb2
  have gy : Grown W (W.alloc (.cells #[.func (.yield l) #[] #[]] 81)) := (Grown.refl _).alloc _ _
  have c1 : (W.alloc (.cells #[.func (.yield l) #[] #[]] 81)).cell? ⟨b1, 0, none⟩ = some (ptr X) := cell_of ((grown_block gy (lt_of hb1')).trans hb1') rfl
  have c2 : (W.alloc (.cells #[.func (.yield l) #[] #[]] 81)).cell? ⟨b2, 0, none⟩ = some (.int .i64 li) := cell_of ((grown_block gy (lt_of hb2')).trans hb2') rfl
  have l1 := lt_of hb1'
  have l2 := lt_of hb2'
  have rg := row_goes (hA.grown gy) li
  have ra := rall_m
  have HAf : Hid (∀ k, dfoot X pr M g k → k < W.heap.size ∧ ¬ G k) := fun k hk => hKG k (Or.inr (Or.inr hk))
  clear hb1 hb2 hb1' hb2' h hA hk hKG
  unfold ptr at c1 c2 rg ra
  refine callsIn_of_wp_marks Try.func53 rfl trivial ?_ rfl
  unfold ptr
  simp only [Try.ntmps53, List.size_toArray, List.length_cons, List.length_nil, Nat.reduceAdd, Nat.reduceSub, Array.replicate_succ, Array.replicate_zero, List.push_toArray, List.append_toArray, List.nil_append, List.cons_append]
  gi_wp2_with (first | (refine ⟨trivial, fun h => (by cases h), ?_⟩; gi_at_call 54; refine (callsIn_wide.2 rg).mono ?_; rintro e w1 ⟨R, H, E, B, rfl, hgo, hids, hg1, hgf⟩) | (refine ⟨trivial, fun h => (by cases h), ?_⟩; gi_at_call 55; refine (callsIn_wide.2 (ra _ _)).mono ?_; rintro e w2 ⟨rfl, rfl⟩))
  have hs1 : W.heap.size + 1 ≤ w1.heap.size := by have := hg1.2.2; rw [nblk_alloc] at this; exact this
  have gr : Grown W (w1.alloc (.cells #[.pointer (some ⟨R, 0, none⟩)] 75)) := (grownTrans gy hg1).alloc _ _
  have y0 : (w1.alloc (.cells #[.pointer (some ⟨R, 0, none⟩)] 75)).heap[W.heap.size]? = some (.cells #[.func (.yield l) #[] #[]] 81 (0, 0)) := (grown_block ((Grown.refl _).alloc _ _) (by omega)).trans ((grown_block hg1 (by rw [nblk_alloc]; omega)).trans (blk_alloc_new _ _))
  have bx : (w1.alloc (.cells #[.pointer (some ⟨R, 0, none⟩)] 75)).heap[w1.heap.size]? = some (.cells #[.pointer (some ⟨R, 0, none⟩)] 75 (0, 0)) := blk_alloc_new _ _
  have hg0 : Goes (w1.alloc (.cells #[.pointer (some ⟨R, 0, none⟩)] 75)) R H E B := hgo.keep fun k hk => grown_block ((Grown.refl _).alloc _ _) (hgo.lt hk)
  have hsz : (w1.alloc (.cells #[.pointer (some ⟨R, 0, none⟩)] 75)).heap.size = w1.heap.size + 1 := by simp
  have hKl : ∀ k, (k = W.heap.size ∨ k = w1.heap.size ∨ gfoot R H B k) → k < (w1.alloc (.cells #[.pointer (some ⟨R, 0, none⟩)] 75)).heap.size ∧ ¬ G k := fun k hk => by
    rcases hk with rfl | rfl | hk
    · exact ⟨by omega, fun hg => Nat.lt_irrefl _ (hJl _ _ _ h0 _ hg)⟩
    · exact ⟨by omega, fun hg => by have := hJl _ _ _ h0 _ hg; omega⟩
    · refine ⟨hg0.lt hk, ?_⟩
      rcases hgf k hk with q | q
      · exact (HAf.out k q).2
      · intro hg
        rw [nblk_alloc] at q
        have := hJl _ _ _ h0 _ hg
        omega
  obtain ⟨W0, hW0⟩ : ∃ W0, w1.alloc (.cells #[.pointer (some ⟨R, 0, none⟩)] 75) = W0 := ⟨_, rfl⟩
  obtain ⟨b3, hb3⟩ : ∃ b3, b3 = w1.heap.size := ⟨_, rfl⟩
  rw [hW0] at gr y0 bx hg0 hsz hKl ⊢
  rw [← hb3] at bx hsz hKl hs1 ⊢
  clear hW0 hb3 rg ra hgo hgf hg1 c1 c2
  have HI : Hid (B.map (fun b => (E b).id) = (g.rowI li).map (·.1)) := hids
  clear hids
  refine wpIn_over (gf := 76) (lb := #[.pointer (some ⟨b3, 0, none⟩)]) rfl (enters_of Try.func76 (by kernel_rfl) rfl) (rall_it bx hg0) (Keep.refl _ _) (by intro x hx; obtain ⟨i, _, rfl⟩ := List.mem_map.1 hx; rfl) (G := G)
    (fun k hk => hKl k (Or.inr hk))
    (fun i G' Wx => J i G' Wx ∧ Keep (fun k => k = W.heap.size ∨ k = b3 ∨ gfoot R H B k) W0 Wx ∧ ∀ k, (k = W.heap.size ∨ k = b3 ∨ gfoot R H B k) → ¬ G' k)
    (fun c i G' Wx => c = .ret ∧ Jx i G' Wx)
    (fun i G' X Y ⟨h1, h2, h3⟩ tn => ⟨hJ _ _ _ _ h1 (tn.wide (by omega)), h2.trans (Keep.of_turn tn fun k hk => ⟨(hKl k hk).1, Nat.lt_of_lt_of_le (hKl k hk).1 h2.size⟩), h3⟩)
    (fun c i G' X Y ⟨h1, h2⟩ tn => ⟨h1, hJx _ _ _ _ h2 (tn.wide (by omega))⟩)
    (fun i G' X ⟨h1, _, _⟩ => hJl _ _ _ h1)
    ⟨hJ _ _ _ _ h0 (Turn.of_grown gr _), Keep.refl _ _, fun k hk => (hKl k hk).2⟩ ?round ?done ?stop
  case round =>
    rintro l2 i x G1 W1 hx ⟨hj, hkp, hdis⟩ hs1'
    rw [List.getElem?_map] at hx
    obtain ⟨b, hbi, rfl⟩ := Option.map_eq_some_iff.1 hx
    unfold elE ptr
    have hmem : b ∈ B := List.mem_of_getElem? hbi
    have HP : (((g.rowI li).map (·.1)).map idE)[i]? = some #[.int .i64 (E b).id] := by
      rw [← HI.out, List.getElem?_map, List.getElem?_map, hbi]; rfl
    gi_wp2
    refine ⟨Grown.refl _, fun W2 tn hs2 => ?_⟩
    have k2 := hkp.trans (Keep.of_turn tn fun k hk => ⟨(hKl k hk).1, Nat.lt_of_lt_of_le (hKl k hk).1 hkp.size⟩)
    have a2 := hg0.keep (w' := W2) fun k hk => k2.block k (Or.inr (Or.inr hk))
    have cy : W2.cell? ⟨W.heap.size, 0, none⟩ = some (.func (.yield l) #[] #[]) := cell_of ((k2.block _ (Or.inl rfl)).trans y0) rfl
    have ly : W.heap.size < W2.heap.size := lt_of ((k2.block _ (Or.inl rfl)).trans y0)
    have hel := a2.els b (List.mem_cons_of_mem _ hmem)
    have ce : W2.cell? ⟨b, 0, none⟩ = some (.int .i64 (E b).id) := cell_of hel rfl
    have le := lt_of hel
    have hj2 : J i G1 W2.drew := hJ _ _ _ _ (hJ _ _ _ _ hj (tn.wide (by omega))) (Turn.of_grown (Grown.refl _).drew _)
    have hy := (hY (n - 1 - 1 - 1) i _ G1 W2.drew HP hj2 (by show W.heap.size ≤ W2.heap.size; omega)).mono (R' := fun e W' => ∃ b : Bool, e = .returned (.bool b) ∧ ∃ G2, Step G1 G2 W2.drew W' ∧ if b then J (i + 1) G2 W' else Jx (i + 1) G2 W') (by
      rintro e W' (⟨rfl, G2, h1, h2⟩ | ⟨rfl, G2, h1, h2⟩)
      · exact ⟨true, rfl, G2, h2, h1⟩
      · exact ⟨false, rfl, G2, h2, h1⟩)
    obtain ⟨fn, tmps, assign, body, hy, hR⟩ := hy
    have HK2 : Hid (Keep (fun k => k = W.heap.size ∨ k = b3 ∨ gfoot R H B k) W0 W2) := k2
    have HDis : Hid (∀ k, (k = W.heap.size ∨ k = b3 ∨ gfoot R H B k) → ¬ G1 k) := hdis
    have HKl : Hid (∀ k, (k = W.heap.size ∨ k = b3 ∨ gfoot R H B k) → k < W2.heap.size) := fun k hk => Nat.lt_of_lt_of_le (hKl k hk).1 k2.size
    have hmx : Try.prog.follows .mixedOrders = true := by kernel_rfl
    generalize (E b).id = ide at *
    clear a2 k2 hdis hKl hj hj2 hkp hx HP hbi hmem hel y0 bx hg0 hJl hJ hJx hY h0 gr tn
    gi_wp2
    refine region_calm (c := 5) (A := { tmps := #[.func (.yield l) #[] #[], .pointer (some ⟨b1, 0, none⟩), .pointer (some ⟨b2, 0, none⟩), .pointer (some ⟨W.heap.size, 0, none⟩), .pointer (some ⟨b, 0, none⟩), .pointer (some ⟨X, 0, none⟩), .int .i64 li, .pointer (some ⟨R, 0, none⟩), .func (.func 76) #[] #[.pointer (some ⟨b3, 0, none⟩)], .pointer (some ⟨b, 0, none⟩),
      .func (.yield l) #[] #[], .pointer (some ⟨b, 0, none⟩), .pointer (some ⟨b, 0, none⟩), .pointer (some ⟨b, 0, none⟩), .int .i64 ide, undef, undef], defers := [] }) hmx (by kernel_rfl) ⟨rfl, rfl, fun d hd => ?like⟩ ?run ?fin
    case like =>
      iterate 17 (rcases d with _ | d; · first | rfl | exact absurd rfl (hd 0 _ (by decide) rfl rfl) | exact absurd rfl (hd 1 _ (by decide) rfl rfl) | exact absurd rfl (hd 2 _ (by decide) rfl rfl) | exact absurd rfl (hd 3 _ (by decide) rfl rfl) | exact absurd rfl (hd 4 _ (by decide) rfl rfl))
      rfl
    case run =>
      intro i o hi ho
      iterate 5 (rcases i with _ | i; · (cases ho; refine ⟨?_, rfl⟩; go_simp))
      omega
    case fin =>
      refine wpAnyIn_ready (rs := [5]) (by kernel_rfl) (by simp) (AllReadyIn.cons rfl (fun K hK => ?_) AllReadyIn.nil)
      go_simp
      refine ⟨fun h => (by cases h), hR.mono ?_⟩
      rintro e W3 ⟨b, rfl, G2, s3, hb3'⟩
      refine hK _ _ ?_
      clear hK K
      refine wpAnyIn_ready (rs := [6]) (by kernel_rfl) (by simp) (AllReadyIn.cons rfl (fun K hK => ?_) AllReadyIn.nil)
      go_simp
      refine hK _ _ ?_
      clear hK K
      refine wpAnyIn_done (by kernel_rfl) ?_ _
      have s3' : Step G1 G2 W2 W3 := (Step.grown _ (Grown.refl _).drew).trans s3
      cases b with
      | true =>
        have hap := s3'.apart HKl.out HDis.out
        have HAP : Hid (∀ k, (k = W.heap.size ∨ k = b3 ∨ gfoot R H B k) → ¬ G2 k) := hap
        clear hap
        have hfin : Hid (J (i + 1) G2 W3 ∧ Keep (fun k => k = W.heap.size ∨ k = b3 ∨ gfoot R H B k) W0 W3 ∧ ∀ k, (k = W.heap.size ∨ k = b3 ∨ gfoot R H B k) → ¬ G2 k) := ⟨hb3', HK2.out.trans (Keep.of_out s3'.out HKl.out HDis.out), HAP.out⟩
        gi_wp2
        exact ⟨G2, ⟨hfin.out.1, hfin.out.2.1, HAP.out _ (Or.inl rfl), HAP.out _ (Or.inr (Or.inl rfl)), fun a h => HAP.out a (Or.inr (Or.inr h))⟩, s3'⟩
      | false =>
        gi_wp2
        exact ⟨G2, ⟨rfl, hb3'⟩, s3'⟩
  case done =>
    rintro D G' W1 hD ⟨hj, _, _⟩ hd
    have hln : ((((g.rowI li).map (·.1)).map idE)).length = (B.map elE).length := by rw [← HI.out]; simp
    gi_wp2
    refine ⟨by simp, .inl ⟨_, _, rfl, run_takeDeferred hd, ?_⟩⟩
    exact ⟨_, results_none rfl _ _ _, ⟨_, rfl⟩, Or.inl ⟨G', by rw [hln]; exact hJ _ _ _ _ hj (Turn.putObj _ hd rfl rfl (by omega))⟩⟩
  case stop =>
    rintro D c i G' W1 hD hi ⟨rfl, hj⟩ hd
    have hln : ((((g.rowI li).map (·.1)).map idE)).length = (B.map elE).length := by rw [← HI.out]; simp
    gi_wp2
    refine ⟨by simp, .inl ⟨_, _, rfl, run_takeDeferred hd, ?_⟩⟩
    exact ⟨_, results_none rfl _ _ _, ⟨_, rfl⟩, Or.inr ⟨i, G', by rw [hln]; exact hi, hJx _ _ _ _ hj (Turn.putObj _ hd rfl rfl (by omega))⟩⟩
end Go.Proofs.Ytlmcopenbeammaa
