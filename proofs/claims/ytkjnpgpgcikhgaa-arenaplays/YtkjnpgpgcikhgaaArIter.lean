/-
  The numbers and nodes that an arena holds, one behind the other: what its iterators give.
-/
import Derived.Test.YtkjnpgpgcikhgaaArAbs
import Derived.Test.YtkjnpgpgcikhgaaGenIter
import Derived.Test.YtkjnpgpgcikhgaaGenCalm
namespace Go.Proofs.Ytkjnpgpgcikhgaa
open Go.RowKit Go.Deep
attribute [local go_sem] Oper.semAt_some

namespace As
/-- The numbers below k that hold a node, rising. -/
def upto (t : As) (k : Nat) : List Nat := (List.range k).filter fun i => (t.s i).isSome
def held (t : As) : List Nat := t.upto t.n
variable {t : As}
theorem upto_no {k : Nat} (h : t.s k = none) : t.upto (k + 1) = t.upto k := by simp [upto, List.range_succ, List.filter_append, h]
theorem upto_yes {k : Nat} {v : Int × Int} (h : t.s k = some v) : t.upto (k + 1) = t.upto k ++ [k] := by simp [upto, List.range_succ, List.filter_append, h]
theorem upto_pre {k n : Nat} (h : k ≤ n) : ∃ r, t.upto n = t.upto k ++ r := by
  obtain ⟨d, rfl⟩ := Nat.le.dest h
  unfold upto
  rw [List.range_add, List.filter_append]
  exact ⟨_, rfl⟩
theorem held_at {k : Nat} {v : Int × Int} (hk : k < t.n) (h : t.s k = some v) : t.held[(t.upto k).length]? = some k := by
  obtain ⟨r, hr⟩ := upto_pre (t := t) (show k + 1 ≤ t.n from hk)
  unfold held
  rw [hr, upto_yes h, List.append_assoc, List.getElem?_append_right (Nat.le_refl _)]
  simp
theorem held_of {j k : Nat} (h : t.held[j]? = some k) : k < t.n ∧ ∃ v, t.s k = some v := by
  have := List.mem_of_getElem? h
  unfold held upto at this
  rw [List.mem_filter, List.mem_range] at this
  exact ⟨this.1, Option.isSome_iff_exists.1 this.2⟩
end As

variable {w w' : World} {A : Nat} {ps pd : Option Addr} {cs cd : Nat} {t : As}
theorem Vec.keep {e : TypeId} {s : Nat} {p : Option Addr} {n c : Nat} {f : Nat → Value} (hv : Vec w e s p n c f) (h : ∀ k, In p k → w'.heap[k]? = w.heap[k]?) : Vec w' e s p n c f := by
  rcases hv with hv | ⟨B, cur, rfl, h2, h3⟩
  · exact Or.inl hv
  · exact Or.inr ⟨B, cur, rfl, (h B (In.self B)).trans h2, h3⟩
theorem ArM.keep (h : ArM w A ps cs pd cd t) (hk : ∀ k, foot A ps pd k → w'.heap[k]? = w.heap[k]?) : ArM w' A ps cs pd cd t :=
  ⟨(hk A (Or.inl rfl)).trans h.head, h.slots.keep fun k h => hk k (Or.inr (Or.inl h)), h.drops.keep fun k h => hk k (Or.inr (Or.inr h)), h.n1, h.n2, h.n3⟩

/-- The blocks that an iterator reads: the box of the pointer, and the arena's own. -/
def footB (B A : Nat) (ps pd : Option Addr) (k : Nat) : Prop := k = B ∨ foot A ps pd k

theorem numbers_m (A : Nat) (w : World) :
    Calls Try.prog 28 #[ptr A] w fun e w' => e = .returned (.func (.func 29) #[] #[ptr w.heap.size]) ∧ w' = w.alloc (.cells #[ptr A] 24) := by
  unfold ptr
  go_enter Try.func28, Try.ntmps28
  go_wp2
  go_ret
  exact ⟨rfl, rfl⟩
theorem all_m (A : Nat) (w : World) :
    Calls Try.prog 26 #[ptr A] w fun e w' => e = .returned (.func (.func 27) #[] #[ptr w.heap.size]) ∧ w' = w.alloc (.cells #[ptr A] 24) := by
  unfold ptr
  go_enter Try.func26, Try.ntmps26
  go_wp2
  go_ret
  exact ⟨rfl, rfl⟩

def idE (i : Nat) : Array Value := #[.int .i64 (i : Int)]
set_option maxRecDepth 100000 in
set_option maxHeartbeats 2000000 in
theorem numbers_it {B : Nat} (hb : w.heap[B]? = some (.cells #[ptr A] 24 (0, 0))) (h : ArM w A ps cs pd cd t) (hw : t.Wf) :
    Iter Try.prog 29 #[ptr B] (footB B A ps pd) (t.held.map idE) w := fun n l J Jx W G hk hKG hJ hJx hJl hY h0 => by
  have hat : Hid (∀ W', Keep (footB B A ps pd) w W' → ArM W' A ps cs pd cd t ∧ W'.cell? ⟨B, 0, none⟩ = some (ptr A)) := fun W' hk' => ⟨h.keep fun k hk => hk'.block k (Or.inr hk), by
    have := (hk'.block B (Or.inl rfl)).trans hb
    simp only [World.cell?, this]; rfl⟩
  obtain ⟨hA, hB⟩ := hat.out W hk
  have c1 := hA.cell1
  have hcap := hw.cap
  have htop := hw.top
  obtain ⟨N, HN⟩ : ∃ N, Hid (N = t.n) := ⟨_, rfl⟩
  rw [← HN.out] at c1 htop
  unfold ptr at hB
  refine callsIn_of_wp Try.func29 rfl trivial ?_ rfl
  unfold ptr
  simp only [Try.ntmps29, List.size_toArray, List.length_cons, List.length_nil, Nat.reduceAdd, Nat.reduceSub, Array.replicate_succ, Array.replicate_zero, List.push_toArray, List.append_toArray, List.nil_append, List.cons_append]
  gi_wp2
  gi_loopw [9] (fun iv wr => ∃ (k : Nat) (G1 : Nat → Prop), k ≤ N ∧ iv = .int .i64 (k : Int) ∧ J (t.upto k).length G1 wr ∧ Keep (footB B A ps pd) w wr ∧ (∀ k, footB B A ps pd k → ¬ G1 k) ∧ W.heap.size ≤ wr.heap.size) (fun iv _ => N - (intOf iv).toNat)
  case atStart => exact ⟨0, G, by omega, rfl, h0, hk, fun k hk => (hKG k hk).2, Nat.le_refl _⟩
  case round =>
    have HK : Hid (∀ k, footB B A ps pd k → k < W.heap.size) := fun k hk => (hKG k hk).1
    clear hA hB c1 h0 hk hKG
    obtain ⟨k, G1, hkN, rfl, hj, hkk, hdis, hsz⟩ := hrel
    have HD : Hid (∀ k, footB B A ps pd k → ¬ G1 k) := hdis
    clear hdis
    obtain ⟨hA, hB⟩ := hat.out _ hkk
    unfold ptr at hB
    have xl : Hid ((t.held.map idE).length = (t.upto t.n).length) := by show _ = _; simp [As.held]
    by_cases hlt : k < N
    · have d1 : decide ((k : Int) < (N : Int)) = true := by rw [decide_eq_true_eq]; omega
      cases hs : t.s k with
      | none =>
        have hh := has_no hA hw (k : Int) (by rw [As.under_nat]; exact hs)
        have hj' : J (t.upto (k + 1)).length G1 wr := by rw [As.upto_no hs]; exact hj
        unfold ptr at hh
        clear hA hs hj
        gi_wp2_with (refine ⟨trivial, fun h => (by cases h), ?_⟩; gi_at_call 24; refine (callsIn_wide.2 hh).mono ?_; rintro e w' ⟨rfl, hw'⟩; have hw' := hw'.symm; subst hw')
        refine ⟨fun _ h => (by cases h), ?_⟩
        gi_wp2
        go_roundw
        case rel => exact ⟨k + 1, G1, by omega, by go_num, hj', hkk, HD.out, hsz⟩
        case measure => simp [intOf]; omega
      | some v =>
        have hh := has_yes hA hw k v hs
        have hx : (t.held.map idE)[(t.upto k).length]? = some (idE k) := by rw [List.getElem?_map, As.held_at (by rw [← HN.out]; exact hlt) hs]; rfl
        obtain ⟨fn, tmps, assign, body, hy, hR⟩ := hY (n - 1) _ _ G1 wr hx hj hsz
        unfold idE at hy
        unfold ptr at hh
        have hu : Hid (t.upto (k + 1) = t.upto k ++ [k]) := As.upto_yes hs
        clear hA hs hx
        gi_wp2_with (refine ⟨trivial, fun h => (by cases h), ?_⟩; gi_at_call 24; refine (callsIn_wide.2 hh).mono ?_; rintro e w' ⟨rfl, hw'⟩; have hw' := hw'.symm; subst hw')
        refine ⟨fun h => (by cases h), hR.mono ?_⟩
        rintro e W3 (⟨rfl, G2, hJ3, s3⟩ | ⟨rfl, G2, hJx3, s3⟩)
        · gi_wp2
          go_roundw
          case rel => exact ⟨k + 1, G2, by omega, by go_num, by rw [hu.out]; simpa using hJ3, hkk.trans (Keep.of_out s3.out (fun k hk => Nat.lt_of_lt_of_le (HK.out k hk) hsz) HD.out), s3.apart (fun k hk => Nat.lt_of_lt_of_le (HK.out k hk) hsz) HD.out, Nat.le_trans hsz s3.out.size⟩
          case measure => simp [intOf]; omega
        · gi_wp2
          refine bodyPost_ret (results_none rfl _ _ _) rfl ?_
          refine ⟨⟨_, rfl⟩, Or.inr ⟨_, G2, ?_, hJx3⟩⟩
          rw [xl.out]
          obtain ⟨r, hr⟩ := As.upto_pre (t := t) (show k + 1 ≤ t.n by rw [← HN.out]; exact hlt)
          rw [hr, hu.out]; simp
    · obtain rfl : k = N := by omega
      have d1 : decide ((k : Int) < (k : Int)) = false := by rw [decide_eq_false_iff_not]; omega
      gi_wp2
      go_end0
      exact ⟨⟨_, rfl⟩, Or.inl ⟨G1, by rw [xl.out, ← HN.out]; exact hj⟩⟩

def pairE (t : As) (i : Nat) : Array Value := #[.int .i64 (i : Int), nodeV ((t.s i).getD (0, 0))]
set_option maxRecDepth 100000 in
set_option maxHeartbeats 4000000 in
theorem all_it {B : Nat} (hb : w.heap[B]? = some (.cells #[ptr A] 24 (0, 0))) (h : ArM w A ps cs pd cd t) (hw : t.Wf) :
    Iter Try.prog 27 #[ptr B] (footB B A ps pd) (t.held.map (pairE t)) w := fun n l J Jx W G hk hKG hJ hJx hJl hY h0 => by
  have hA := h.keep (w' := W) fun k hk' => hk.block k (Or.inr hk')
  have hb' := (hk.block B (Or.inl rfl)).trans hb
  have hB : W.cell? ⟨B, 0, none⟩ = some (ptr A) := by simp only [World.cell?, hb']; rfl
  have hBl : B < W.heap.size := (Array.getElem?_eq_some_iff.1 hb').1
  have nm := numbers_m A
  unfold ptr at hB nm
  refine callsIn_of_wp_marks Try.func27 rfl trivial ?_ rfl
  unfold ptr
  simp only [Try.ntmps27, List.size_toArray, List.length_cons, List.length_nil, Nat.reduceAdd, Nat.reduceSub, Array.replicate_succ, Array.replicate_zero, List.push_toArray, List.append_toArray, List.nil_append, List.cons_append]
  gi_wp2_with (refine ⟨trivial, fun h => (by cases h), ?_⟩; gi_at_call 28; refine (callsIn_wide.2 (nm _)).mono ?_; rintro e w' ⟨rfl, rfl⟩)
  have hsz : ((W.alloc (.cells #[.func (.yield l) #[] #[]] 61)).alloc (.cells #[.pointer (some ⟨A, 0, none⟩)] 24)).heap.size = W.heap.size + 2 := by simp
  have gr : Grown W ((W.alloc (.cells #[.func (.yield l) #[] #[]] 61)).alloc (.cells #[.pointer (some ⟨A, 0, none⟩)] 24)) := ((Grown.refl _).alloc _ _).alloc _ _
  have y0 : ((W.alloc (.cells #[.func (.yield l) #[] #[]] 61)).alloc (.cells #[.pointer (some ⟨A, 0, none⟩)] 24)).heap[W.heap.size]? = some (.cells #[.func (.yield l) #[] #[]] 61 (0, 0)) := heap2_old _ _ _
  have b0 : ((W.alloc (.cells #[.func (.yield l) #[] #[]] 61)).alloc (.cells #[.pointer (some ⟨A, 0, none⟩)] 24)).heap[W.heap.size + 1]? = some (.cells #[.pointer (some ⟨A, 0, none⟩)] 24 (0, 0)) := heap2_new _ _ _
  obtain ⟨W0, hW0⟩ : ∃ W0, ((W.alloc (.cells #[.func (.yield l) #[] #[]] 61)).alloc (.cells #[.pointer (some ⟨A, 0, none⟩)] 24)) = W0 := ⟨_, rfl⟩
  rw [hW0] at hsz gr y0 b0 ⊢
  clear hW0 nm
  have hA0 := hA.grown gr
  have hb0 := (grown_block gr hBl).trans hb'
  have hKl : ∀ k, (k = W.heap.size ∨ footB B A ps pd k) → k < W0.heap.size := fun k hk => by
    rcases hk with rfl | hk
    · omega
    · have := (hKG k hk).1; omega
  refine wpIn_over (gf := 29) (lb := #[.pointer (some ⟨W.heap.size + 1, 0, none⟩)]) rfl (enters_of Try.func29 (by kernel_rfl) rfl) (numbers_it b0 hA0 hw) (Keep.refl _ _) (by intro x hx; obtain ⟨i, _, rfl⟩ := List.mem_map.1 hx; rfl) (G := G)
    (fun k hk => ⟨by rcases hk with rfl | hk; omega; have := (hKG k (Or.inr hk)).1; omega, fun hg => by rcases hk with rfl | hk; (have := hJl _ _ _ h0 _ hg; omega); exact (hKG k (Or.inr hk)).2 hg⟩)
    (fun i G' Wx => J i G' Wx ∧ Keep (fun k => k = W.heap.size ∨ footB B A ps pd k) W0 Wx ∧ ∀ k, (k = W.heap.size ∨ footB B A ps pd k) → ¬ G' k)
    (fun c i G' Wx => c = .ret ∧ Jx i G' Wx)
    (fun i G' X Y ⟨h1, h2, h3⟩ tn => ⟨hJ _ _ _ _ h1 (tn.wide (by omega)), h2.trans (Keep.of_turn tn fun k hk => ⟨hKl k hk, Nat.lt_of_lt_of_le (hKl k hk) h2.size⟩), h3⟩)
    (fun c i G' X Y ⟨h1, h2⟩ tn => ⟨h1, hJx _ _ _ _ h2 (tn.wide (by omega))⟩)
    (fun i G' X ⟨h1, _, _⟩ => hJl _ _ _ h1)
    ⟨hJ _ _ _ _ h0 (Turn.of_grown gr _), Keep.refl _ _, fun k hk => by rcases hk with rfl | hk; (intro hg; have := hJl _ _ _ h0 _ hg; omega); exact (hKG k hk).2⟩ ?round ?done ?stop
  case round =>
    rintro l2 i x G1 W1 hx ⟨hj, hkp, hdis⟩ hs1
    rw [List.getElem?_map] at hx
    obtain ⟨id, hid, rfl⟩ := Option.map_eq_some_iff.1 hx
    unfold idE
    obtain ⟨hlt, v, hv⟩ := As.held_of hid
    have HP : (t.held.map (pairE t))[i]? = some #[.int .i64 (id : Int), .agg #[.int .i64 v.1, .int .i64 v.2]] := by rw [List.getElem?_map, hid]; simp [pairE, hv, nodeV]
    gi_wp2
    refine ⟨Grown.refl _, fun W2 tn hs2 => ?_⟩
    have k2 := hkp.trans (Keep.of_turn tn fun k hk => ⟨hKl k hk, Nat.lt_of_lt_of_le (hKl k hk) hkp.size⟩)
    have a2 := hA0.keep (w' := W2) fun k hk => k2.block k (Or.inr (Or.inr hk))
    have cb : W2.cell? ⟨B, 0, none⟩ = some (.pointer (some ⟨A, 0, none⟩)) := by
      have := (k2.block B (Or.inr (Or.inl rfl))).trans hb0
      simp only [World.cell?, this]; rfl
    have cy : W2.cell? ⟨W.heap.size, 0, none⟩ = some (.func (.yield l) #[] #[]) := by
      have := (k2.block _ (Or.inl rfl)).trans y0
      simp only [World.cell?, this]; rfl
    have hj2 : J i G1 W2.drew := hJ _ _ _ _ (hJ _ _ _ _ hj (tn.wide (by omega))) (Turn.of_grown (Grown.refl _).drew _)
    obtain ⟨S, hS, hSl, hin, hat⟩ := a2.at hw id v hv
    obtain ⟨c1, c2, c3, c4, _⟩ := hat _ (Grown.refl _)
    have hcap := hw.cap
    have htop := hw.top
    have hle := (a2.slots.opens hw.pos)
    obtain ⟨S', hS', _, _, _, hcs⟩ := hle
    have hy := (hY (n - 1 - 1 - 1) i _ G1 W2.drew HP hj2 (by show W.heap.size ≤ W2.heap.size; omega)).mono (R' := fun e W' => ∃ b : Bool, e = .returned (.bool b) ∧ ∃ G2, Step G1 G2 W2.drew W' ∧ if b then J (i + 1) G2 W' else Jx (i + 1) G2 W') (by
      rintro e W' (⟨rfl, G2, h1, h2⟩ | ⟨rfl, G2, h1, h2⟩)
      · exact ⟨true, rfl, G2, h2, h1⟩
      · exact ⟨false, rfl, G2, h2, h1⟩)
    obtain ⟨fn, tmps, assign, body, hy, hR⟩ := hy
    have HK2 : Hid (Keep (fun k => k = W.heap.size ∨ footB B A ps pd k) W0 W2) := k2
    have HDis : Hid (∀ k, (k = W.heap.size ∨ footB B A ps pd k) → ¬ G1 k) := hdis
    have HKl : Hid (∀ k, (k = W.heap.size ∨ footB B A ps pd k) → k < W2.heap.size) := fun k hk => Nat.lt_of_lt_of_le (hKl k hk) k2.size
    have hmx : Try.prog.follows .mixedOrders = true := by kernel_rfl
    obtain ⟨N, HN⟩ : ∃ N, Hid (N = t.n) := ⟨_, rfl⟩
    rw [← HN.out] at c1 hin htop hcs
    clear hat hA0 a2 hS hS' k2 hdis hKl hj hj2 hkp hx HP hid hv hlt b0 y0 hb0 hA hb' hB hJl hJ hJx hY h0 hKG gr tn
    gi_wp2
    refine region_calm (c := 10) (A := { tmps := #[.func (.yield l) #[] #[], .pointer (some ⟨B, 0, none⟩), .pointer (some ⟨W.heap.size, 0, none⟩), .int .i64 (id : Int), .pointer (some ⟨A, 0, none⟩), .func (.func 29) #[] #[.pointer (some ⟨W.heap.size + 1, 0, none⟩)], .int .i64 (id : Int),
      .func (.yield l) #[] #[], .int .i64 (id : Int), .pointer (some ⟨A, 0, none⟩), .pointer (some ⟨A, 0, none⟩), .pointer (some ⟨A, 1, none⟩), .slice (some ⟨S, 0, none⟩) N cs, .int .i64 (id : Int), .pointer (some ⟨S, id * 3, none⟩), .pointer (some ⟨S, id * 3 + 1, none⟩), .agg #[.int .i64 v.1, .int .i64 v.2], undef, undef], defers := [] }) hmx (by kernel_rfl) ⟨rfl, rfl, fun d hd => ?like⟩ ?run ?fin
    case like =>
      iterate 19 (rcases d with _ | d; · first | rfl | exact absurd rfl (hd 0 _ (by decide) rfl rfl) | exact absurd rfl (hd 1 _ (by decide) rfl rfl) | exact absurd rfl (hd 2 _ (by decide) rfl rfl) | exact absurd rfl (hd 3 _ (by decide) rfl rfl) | exact absurd rfl (hd 4 _ (by decide) rfl rfl) | exact absurd rfl (hd 5 _ (by decide) rfl rfl) | exact absurd rfl (hd 6 _ (by decide) rfl rfl) | exact absurd rfl (hd 7 _ (by decide) rfl rfl) | exact absurd rfl (hd 8 _ (by decide) rfl rfl) | exact absurd rfl (hd 9 _ (by decide) rfl rfl))
      rfl
    case run =>
      intro i o hi ho
      iterate 10 (rcases i with _ | i; · (cases ho; refine ⟨?_, rfl⟩; go_simp))
      omega
    case fin =>
      refine wpAnyIn_ready (rs := [10]) (by kernel_rfl) (by simp) (AllReadyIn.cons rfl (fun K hK => ?_) AllReadyIn.nil)
      go_simp
      refine ⟨fun h => (by cases h), hR.mono ?_⟩
      rintro e W3 ⟨b, rfl, G2, s3, hb3⟩
      refine hK _ _ ?_
      clear hK K
      refine wpAnyIn_ready (rs := [11]) (by kernel_rfl) (by simp) (AllReadyIn.cons rfl (fun K hK => ?_) AllReadyIn.nil)
      go_simp
      refine hK _ _ ?_
      clear hK K
      refine wpAnyIn_done (by kernel_rfl) ?_ _
      have s3' : Step G1 G2 W2 W3 := (Step.grown _ (Grown.refl _).drew).trans s3
      cases b with
      | true =>
        have hap := s3'.apart HKl.out HDis.out
        have HAP : Hid (∀ k, (k = W.heap.size ∨ footB B A ps pd k) → ¬ G2 k) := hap
        clear hap
        gi_wp2
        exact ⟨G2, ⟨hb3, HK2.out.trans (Keep.of_out s3'.out HKl.out HDis.out), HAP.out _ (Or.inl rfl), fun a h => HAP.out a (Or.inr h)⟩, s3'⟩
      | false =>
        gi_wp2
        exact ⟨G2, ⟨rfl, hb3⟩, s3'⟩
  case done =>
    rintro D G' W1 hD ⟨hj, _, _⟩ hd
    gi_wp2
    refine ⟨by simp, .inl ⟨_, _, rfl, run_takeDeferred hd, ?_⟩⟩
    exact ⟨_, results_none rfl _ _ _, ⟨_, rfl⟩, Or.inl ⟨G', by simpa using hJ _ _ _ _ hj (Turn.putObj _ hd rfl rfl (by omega))⟩⟩
  case stop =>
    rintro D c i G' W1 hD hi ⟨rfl, hj⟩ hd
    gi_wp2
    refine ⟨by simp, .inl ⟨_, _, rfl, run_takeDeferred hd, ?_⟩⟩
    exact ⟨_, results_none rfl _ _ _, ⟨_, rfl⟩, Or.inr ⟨i, G', by simpa using hi, hJx _ _ _ _ hj (Turn.putObj _ hd rfl rfl (by omega))⟩⟩
end Go.Proofs.Ytkjnpgpgcikhgaa
