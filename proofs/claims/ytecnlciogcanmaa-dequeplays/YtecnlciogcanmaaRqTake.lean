/-
  The document's own lists: what Unlink, Move and Reweigh of package pantryref07 do when they are called.
-/
import Derived.Test.YtecnlciogcanmaaRqPut
namespace Go.Proofs.Ytecnlciogcanmaa
open Go.RowKit Go.Deep
variable {w w' : World} {R P : Nat} {pl : Option Addr} {cl : Nat} {q : Nat → Option Addr × Nat} {t : Ds}

/-- append of none or more to a slice that has a block. -/
theorem run_append_some {P : Program} {w : World} {t e : TypeId} (ty : TypeId) {z : Value} {s bytes : Nat} (ht : P.underlying t = some (.slice e)) (hinfo : (P.info? e).map (fun i => (i.zero, i.size, i.bytes)) = some (some z, s, bytes)) (hzs : z.cells.size = s)
    {B : Nat} {n c : Nat} {f : Nat → Value} (h : Vec w e s (some ⟨B, 0, none⟩) n c f)
    {ad : Addr} {m cx : Nat} {g : Nat → Value} (hc : ∀ j, j < m * s → w.cell? (ad.add j) = some (g j)) (h1 : ∀ j, j < m * s → (g j).oneCell' = true) (hb : (n + m) * bytes ≤ 140737488355328) (h63 : n + m ≤ 9223372036854775807) :
    ∃ p' c' w', (Builtin.append_ #[t, t] ty #[.slice (some ⟨B, 0, none⟩) n c, .slice (some ad) m cx]).run P w = .ok (.slice p' (n + m) c') w' ∧ Vec w' e s p' (n + m) c' (fun j => if j < n * s then f j else g (j - n * s)) ∧ Out (In (some ⟨B, 0, none⟩)) w w' ∧ (p' = some ⟨B, 0, none⟩ ∨ p' = some ⟨w.heap.size, 0, none⟩) := by
  by_cases hm : 0 < m
  · exact run_append_vec ty ht hinfo hzs h hm hc h1 hb h63
  · obtain rfl : m = 0 := by omega
    obtain ⟨i, hi, hz, hsz, hby⟩ := info_parts hinfo
    subst hsz
    rcases h with ⟨h, _⟩ | ⟨B', cur, hB, hb', hc', hcm, hcs, hcur⟩
    · cases h
    · cases hB
      have hfit : n * i.size + ([] : List Value).length ≤ cur.size := by rw [hcs]; simp; exact Nat.mul_le_mul_right _ hc'
      have hr := run_append_room (P := P) w t ty e i ht hi B n c cur hb' ad 0 cx [] (by simp) (fun j u hu => by simp at hu) (fun u hu => absurd hu List.not_mem_nil) (by omega) hfit
      refine ⟨_, _, _, hr, Or.inr ⟨B, _, rfl, setRow_heap w B cur _ e _ hb', by omega, hcm, ?_, fun j hj => ?_⟩, Out.of_off (off_setRow hb') (In.self B), Or.inl rfl⟩
      · simp
        simp at hfit
        omega
      · simp only [Nat.add_zero] at hj
        show _ = some (if j < n * i.size then f j else g (j - n * i.size))
        rw [if_pos hj]
        simp only [List.append_nil, List.length_nil, Nat.add_zero, List.take_append_drop]
        simpa using hcur j hj
theorem runlink_no (h : RqM w R pl cl q t) (hw : t.Wf) (hlen : ∀ i, (t.L i).length ≤ 65536) {id : Int} (hf : t.find id = none) :
    Calls Try.prog 14 #[ptr R, .int .i64 id] w fun e w' => e = .returned (.int .i64 3) ∧ w' = w := by
  have fd := find_no h hw hlen hf
  clear h hf
  unfold ptr at *
  go_enter Try.func14, Try.ntmps14
  go_wp2_with (first | (go_at_call 35; refine fd.mono ?_; rintro e w' ⟨rfl, rfl⟩))
  go_ret
  exact ⟨rfl, rfl⟩
theorem filter_at {l : List (Int × Int)} {k : Nat} {id v : Int} (hd : (l.map (·.1)).Nodup) (hk : l[k]? = some (id, v)) : (l.filter fun p => !(p.1 == id)) = l.take k ++ l.drop (k + 1) := by
  obtain ⟨hlt, hg⟩ := List.getElem?_eq_some_iff.1 hk
  have e : l = l.take k ++ (id, v) :: l.drop (k + 1) := by
    rw [← hg, List.getElem_cons_drop, List.take_append_drop]
  rw [e] at hd
  rw [List.map_append, List.map_cons] at hd
  obtain ⟨_, d2, d3⟩ := List.nodup_append.1 hd
  conv => lhs; rw [e]
  rw [List.filter_append, List.filter_cons]
  simp only [BEq.rfl, Bool.not_true, Bool.false_eq_true, if_false]
  rw [List.filter_eq_self.2 fun p hp => ?_, List.filter_eq_self.2 fun p hp => ?_]
  · simp
    intro he
    exact (List.nodup_cons.1 d2).1 (by rw [← he]; exact List.mem_map.2 ⟨p, hp, rfl⟩)
  · simp
    intro he
    exact d3 p.1 (List.mem_map.2 ⟨p, hp, rfl⟩) id (by simp) he
theorem itC_cut (l : List (Int × Int)) {k : Nat} (hk : k < l.length) : ∀ j, j < (k + (l.length - (k + 1))) * 2 → (if j < k * 2 then itC l j else itC l ((k + 1) * 2 + (j - k * 2))) = itC (l.take k ++ l.drop (k + 1)) j := by
  have hg : ∀ i, i < k + (l.length - (k + 1)) → (l.take k ++ l.drop (k + 1)).getD i (0, 0) = l.getD (if i < k then i else i + 1) (0, 0) := fun i hi => by
    rw [List.getD_eq_getElem?_getD, List.getD_eq_getElem?_getD]
    by_cases h : i < k
    · rw [if_pos h, List.getElem?_append_left (by rw [List.length_take]; omega), List.getElem?_take, if_pos h]
    · rw [if_neg h, List.getElem?_append_right (by rw [List.length_take]; omega), List.length_take, List.getElem?_drop, show k + 1 + (i - min k l.length) = i + 1 by omega]
  refine itC_eq (fun i hi => ?_) (fun i hi => ?_)
  · rw [hg i hi]
    by_cases h : i < k
    · rw [if_pos (by omega), if_pos h, itC0]
    · rw [if_neg (by omega), if_neg h, show (k + 1) * 2 + (i * 2 - k * 2) = (i + 1) * 2 by omega, itC0]
  · rw [hg i hi]
    by_cases h : i < k
    · rw [if_pos (by omega), if_pos h, itC1]
    · rw [if_neg (by omega), if_neg h, show (k + 1) * 2 + (i * 2 + 1 - k * 2) = (i + 1) * 2 + 1 by omega, itC1]
set_option maxRecDepth 100000 in
set_option maxHeartbeats 4000000 in
theorem runlink_ok (h : RqM w R pl cl q t) (hw : t.Wf) (hlen : ∀ i, (t.L i).length ≤ 65536) {id v : Int} {i : Nat} (hf : t.find id = some (i, v)) :
    Calls Try.prog 14 #[ptr R, .int .i64 id] w fun e w' => e = .returned (.int .i64 0) ∧ ∃ q', RqM w' R pl cl q' (t.unlink id) ∧ Step (qfoot R pl q t.n) (qfoot R pl q' t.n) w w' := by
  obtain ⟨k, hk, fd⟩ := find_yes h hw hlen hf
  have hi : i < t.n := hw.lt (Ds.find_mem hf)
  have hkl := (List.getElem?_eq_some_iff.1 hk).1
  have c0 := h.cell0
  have lR := lt_of h.head
  have hn := hw.cap
  obtain ⟨P, rfl, lP, cP, fP, hcl⟩ := h.ofRow hi
  obtain ⟨B, hB, lB, _, _, _, hqc⟩ := h.item hi hkl
  have hL := hlen i
  rw [hB] at cP
  have d0 : decide ((i : Int) < 0) = false := by rw [decide_eq_false_iff_not]; omega
  obtain ⟨N, HN⟩ : ∃ N, Hid (N = t.n) := ⟨_, rfl⟩
  obtain ⟨L, HL⟩ : ∃ L, Hid (L = (t.L i).length) := ⟨_, rfl⟩
  obtain ⟨qc, HQ⟩ : ∃ qc, Hid (qc = (q i).2) := ⟨_, rfl⟩
  rw [← HN.out] at c0 hcl hn hi
  rw [← HL.out, ← HQ.out] at cP hqc
  rw [← HL.out] at hL hkl
  have hkI : (k : Int) < (L : Int) := by omega
  have hkw : IntKind.i64.wrap ((k : Int) + 1) = ((k + 1 : Nat) : Int) := by rw [show (k : Int) + 1 = ((k + 1 : Nat) : Int) by omega]; exact wrap_nat _ (by omega)
  have hk1 : ¬ (qc < k) := by omega
  have hk2 : (0 : Int) ≤ (k : Int) + 1 := by omega
  have hk3 : (k : Int) + 1 ≤ (L : Int) := by omega
  obtain ⟨ad2, had, HAD⟩ : ∃ ad2 : Addr, ((if qc = k + 1 then some ⟨B, 0, none⟩ else some ⟨B, (k + 1) * 2, none⟩) : Option Addr) = some ad2 ∧ Hid (k + 1 < L → ad2 = ⟨B, (k + 1) * 2, none⟩) := by
    by_cases e : qc = k + 1
    · exact ⟨_, if_pos e, fun x => by omega⟩
    · exact ⟨_, if_neg e, fun _ => rfl⟩
  have HI := h.inner i (by rw [← HN.out]; exact hi)
  rw [hB, ← HL.out, ← HQ.out] at HI
  have HI2 : Hid (∀ W', Grown w W' → Vec W' 63 2 (some ⟨B, 0, none⟩) L qc (itC (t.L i))) := fun W' g => HI.grown g
  have HH : Hid (RqM w R (some ⟨P, 0, none⟩) cl q t) := h
  have HFl : Hid (t.unlink id = t.withRow i ((t.L i).take k ++ (t.L i).drop (k + 1))) := by
    refine Gh.st_ext rfl fun j => ?_
    show (t.L j).filter _ = if j = i then _ else _
    by_cases e : j = i
    · subst e
      rw [if_pos rfl]
      exact filter_at (hw.dup j) hk
    · rw [if_neg e]
      exact filter_not fun u hu => e (hw.uniq j i (id, u) (id, v) hu (Ds.find_mem hf) rfl).1
  have hB1 := HI.lt (In.self B)
  clear h hf hw hlen hk HI
  have hmx : Try.prog.follows .mixedOrders = true := by kernel_rfl
  unfold ptr at *
  go_enter Try.func14, Try.ntmps14
  go_wp2_with (first | (go_at_call 35; refine fd.mono ?_; rintro e w' ⟨rfl, hw'⟩; have hw' := hw'.symm; subst hw'))
  refine region_fill [5, 15, 26, 28] [(15, .pointer (some ⟨R, 0, none⟩)), (16, .pointer (some ⟨R, 0, none⟩)), (17, .pointer (some ⟨R, 0, none⟩)), (18, .slice (some ⟨P, 0, none⟩) N cl), (19, .int .i64 (i : Int)), (21, .pointer (some ⟨R, 0, none⟩)), (22, .pointer (some ⟨R, 0, none⟩)), (23, .pointer (some ⟨R, 0, none⟩)), (24, .slice (some ⟨P, 0, none⟩) N cl), (25, .int .i64 (i : Int)), (26, .pointer (some ⟨P, i, none⟩)), (27, .slice (some ⟨B, 0, none⟩) L qc), (28, .int .i64 (k : Int)), (29, .slice (some ⟨B, 0, none⟩) k qc),
    (31, .pointer (some ⟨R, 0, none⟩)), (32, .pointer (some ⟨R, 0, none⟩)), (33, .pointer (some ⟨R, 0, none⟩)), (34, .slice (some ⟨P, 0, none⟩) N cl), (35, .int .i64 (i : Int)), (36, .pointer (some ⟨P, i, none⟩)), (37, .slice (some ⟨B, 0, none⟩) L qc), (38, .int .i64 (k : Int)), (39, .int .i64 ((k + 1 : Nat) : Int)), (40, .slice (some ad2) (L - (k + 1)) (qc - (k + 1))), (42, .pointer (some ⟨P, i, none⟩))] hmx (by kernel_rfl) (by kernel_rfl) ?_
  simp only [fills, Act.put, List.setIfInBounds_toArray, List.set_cons_zero, List.set_cons_succ]
  refine flow_cons _ (.slice (some ⟨w.heap.size, 0, none⟩) 0 0) (w.drew.alloc (.cells #[] 63)) rfl ?run (Or.inl ?eff) ?next
  case run =>
    intro i o ho hi
    iterate 29 (rcases i with _ | i; · first | (exact absurd hi (by decide)) | (cases ho; go_simp))
    cases ho
  case eff => go_simp
  case next =>
    simp only [Act.put, List.setIfInBounds_toArray]
    have g1 : Grown w (w.drew.alloc (.cells #[] 63)) := (Grown.refl w).drew.alloc _ _
    have v0 : Vec (w.drew.alloc (.cells #[] 63)) 63 2 (some ⟨w.heap.size, 0, none⟩) 0 0 (fun _ => undef) := Vec.laid w.drew _ #[] 0 2 (by unfold maxLen; omega) rfl _ (fun j hj => by omega)
    have vi := HI2.out _ g1
    obtain ⟨Bi, hBi, _, ci, _, _⟩ := vi.opens (by omega)
    cases hBi
    have addB : ∀ o j : Nat, (⟨B, o, none⟩ : Addr).add j = ⟨B, o + j, none⟩ := fun o j => by unfold Addr.add; split <;> simp_all
    obtain ⟨p1, c1, w1, hr1, hv1, ho1, hp1⟩ := run_append_some (P := Try.prog) 61 Try.underlying61 infoItem rfl v0 (ad := ⟨B, 0, none⟩) (m := k) (cx := qc) (g := itC (t.L i)) (fun j hj => by rw [addB, Nat.zero_add]; exact ci j (by omega)) (fun j _ => itC_one _ j) (by omega) (by omega)
    have o1 : Out (fun k => w.heap.size ≤ k) w w1 := (Out.of_grown g1 _).trans ho1 (fun x hx => Or.inl (by have := hx.eq; omega))
    have hp1' : ∃ b1, p1 = some ⟨b1, 0, none⟩ ∧ w.heap.size ≤ b1 := by
      rcases hp1 with e | e
      · exact ⟨_, e, Nat.le_refl _⟩
      · exact ⟨_, e, by rw [nblk_alloc]; show w.heap.size ≤ w.heap.size + 1; omega⟩
    obtain ⟨b1, rfl, hb1⟩ := hp1'
    have vi1 : Vec w1 63 2 (some ⟨B, 0, none⟩) L qc (itC (t.L i)) := (HI2.out _ (Grown.refl w)).out o1 fun x hx => by have := hx.eq; omega
    obtain ⟨Bi, hBi, _, ci1, _, _⟩ := vi1.opens (by omega)
    cases hBi
    obtain ⟨p2, c2, w2, hr2, hv2, ho2, hp2⟩ := run_append_some (P := Try.prog) 61 Try.underlying61 infoItem rfl hv1 (ad := ad2) (m := L - (k + 1)) (cx := qc - (k + 1)) (g := fun j => itC (t.L i) ((k + 1) * 2 + j)) (fun j hj => by rw [HAD.out (by omega), addB]; exact ci1 _ (by omega)) (fun j _ => itC_one _ _) (by omega) (by omega)
    have o2 : Out (fun k => w.heap.size ≤ k) w w2 := o1.trans ho2 (fun x hx => Or.inl (by have := hx.eq; omega))
    have hlenc : ((t.L i).take k ++ (t.L i).drop (k + 1)).length = L - 1 := by
      rw [List.length_append, List.length_take, List.length_drop, ← HL.out]; omega
    have hn2 : 0 + k + (L - (k + 1)) = L - 1 := by omega
    have hv3 : Vec w2 63 2 p2 ((t.L i).take k ++ (t.L i).drop (k + 1)).length c2 (itC ((t.L i).take k ++ (t.L i).drop (k + 1))) := by
      rw [hlenc, ← hn2]
      refine hv2.congr fun j hj => ?_
      have := itC_cut (t.L i) (k := k) (by rw [← HL.out]; exact hkl) j (by rw [← HL.out]; omega)
      rw [← this]
      by_cases e : j < k * 2
      · simp [e]
      · simp [e]
    have hiN : i < t.n := by rw [← HN.out]; exact hi
    obtain ⟨k6, k7⟩ := HH.out.put hiN o2 (fun x hx => Or.inr hx) hv3 (Or.inr fun x hx => by
      rcases hp2 with e | e
      · rw [e] at hx; have := hx.eq; omega
      · rw [e] at hx; have := hx.eq; have := o1.size; omega)
    rw [hlenc, ← HFl.out] at k6
    rw [hlenc, ← HN.out] at k7
    have kR1 := (HH.out.out o1 (fun x hx hf => by have := HH.out.foot_lt hx; omega))
    have kR2 := (HH.out.out o2 (fun x hx hf => by have := HH.out.foot_lt hx; omega))
    have a1 := kR1.cell0
    have a2 := kR2.cell0
    obtain ⟨P1, hP1, m1, m2, m3, _⟩ := kR1.ofRow hiN
    cases hP1
    obtain ⟨P2, hP2, n1, n2, n3, _⟩ := kR2.ofRow hiN
    cases hP2
    rw [hB, ← HL.out, ← HQ.out] at m2 n2
    rw [← HN.out] at a1 a2
    have lR1 := lt_of kR1.head
    have lR2 := lt_of kR2.head
    have HK : Hid (RqM (w2.setCell ⟨P, i, none⟩ (.slice p2 (L - 1) c2)) R (some ⟨P, 0, none⟩) cl (withQ q i p2 c2) (t.unlink id) ∧ Step (qfoot R (some ⟨P, 0, none⟩) q N) (qfoot R (some ⟨P, 0, none⟩) (withQ q i p2 c2) N) w (w2.setCell ⟨P, i, none⟩ (.slice p2 (L - 1) c2))) := ⟨k6, k7⟩
    rw [hn2] at hr2
    clear k6 k7 hv1 hv2 hv3 ho1 ho2 hp1 hp2 o1 o2 vi vi1 v0 ci ci1 g1 HI2 HH HFl hlenc hn2 hiN kR1 kR2 addB hb1
    rw [Nat.zero_add] at hr1
    rw [Nat.zero_add] at hr2
    refine flow_cons _ (.slice (some ⟨b1, 0, none⟩) k c1) w1 rfl ?run (Or.inl (exec_append rfl rfl rfl hr1)) ?next
    case run =>
      clear hr1 hr2
      intro i o ho hi
      iterate 29 (rcases i with _ | i; · first | (exact absurd hi (by decide)) | (cases ho; go_simp))
      cases ho
    case next =>
      clear hr1
      simp only [Act.put]
      refine flow_cons _ (.slice p2 (L - 1) c2) w2 rfl ?run (Or.inl (exec_append rfl rfl rfl hr2)) ?next
      case run =>
        clear hr2
        intro i o ho hi
        iterate 29 (rcases i with _ | i; · first | (exact absurd hi (by decide)) | (cases ho; go_simp))
        cases ho
      case next =>
        clear hr2
        simp only [Act.put]
        refine flow_cons _ undef (w2.setCell ⟨P, i, none⟩ (.slice p2 (L - 1) c2)) rfl ?run ?eff ?next
        case run =>
          intro i o ho hi
          iterate 29 (rcases i with _ | i; · first | (exact absurd hi (by decide)) | (cases ho; go_simp))
          cases ho
        case eff => first | (left; go_simp; done) | (right; refine ⟨?_, rfl⟩; go_simp; done)
        case next =>
          simp only [Act.put]
          show Exit.then _ _ Exit.normal _ _
          go_wp2
          go_ret
          exact ⟨rfl, _, HK.out.1, by rw [← HN.out]; exact HK.out.2⟩

theorem rmove_no (h : RqM w R pl cl q t) (hw : t.Wf) (hlen : ∀ i, (t.L i).length ≤ 65536) {id : Int} (l : Int) (hf : t.find id = none) :
    Calls Try.prog 16 #[ptr R, .int .i64 id, .int .i64 l] w fun e w' => e = .returned (.int .i64 3) ∧ w' = w := by
  have fd := find_no h hw hlen hf
  clear h hf
  unfold ptr at *
  go_enter Try.func16, Try.ntmps16
  go_wp2_with (first | (go_at_call 35; refine fd.mono ?_; rintro e w' ⟨rfl, rfl⟩))
  go_ret
  exact ⟨rfl, rfl⟩
theorem rmove_arg (h : RqM w R pl cl q t) (hw : t.Wf) (hlen : ∀ i, (t.L i).length ≤ 65536) {id v : Int} {i : Nat} (l : Int) (hf : t.find id = some (i, v)) (hl : t.has l = false) :
    Calls Try.prog 16 #[ptr R, .int .i64 id, .int .i64 l] w fun e w' => e = .returned (.int .i64 1) ∧ w' = w := by
  obtain ⟨k, _, fd⟩ := find_yes h hw hlen hf
  have hh := rrow_m h l
  rw [hl] at hh
  have d0 : decide ((i : Int) < 0) = false := by rw [decide_eq_false_iff_not]; omega
  clear h hf hl
  unfold ptr at *
  go_enter Try.func16, Try.ntmps16
  go_wp2_with (first | (go_at_call 35; refine fd.mono ?_; rintro e w' ⟨rfl, rfl⟩) | (go_at_call 33; refine hh.mono ?_; rintro e w' ⟨rfl, rfl⟩))
  go_ret
  exact ⟨rfl, rfl⟩
set_option maxRecDepth 100000 in
set_option maxHeartbeats 4000000 in
theorem rmove_ok (h : RqM w R pl cl q t) (hw : t.Wf) (hlen : ∀ i, (t.L i).length ≤ 65536) {id v : Int} {i : Nat} (l : Nat) (hf : t.find id = some (i, v)) (hl : l < t.n) :
    Calls Try.prog 16 #[ptr R, .int .i64 id, .int .i64 (l : Int)] w fun e w' => e = .returned (.int .i64 0) ∧ ∃ q', RqM w' R pl cl q' ((t.unlink id).push l id v) ∧ Step (qfoot R pl q t.n) (qfoot R pl q' t.n) w w' := by
  obtain ⟨k, hk, fd⟩ := find_yes h hw hlen hf
  have hh := rrow_m h (l : Int)
  rw [show t.has (l : Int) = true from decide_eq_true ⟨by omega, by omega⟩] at hh
  have ul := runlink_ok h hw hlen hf
  have hi : i < t.n := hw.lt (Ds.find_mem hf)
  have hkl := (List.getElem?_eq_some_iff.1 hk).1
  have c0 := h.cell0
  have lR := lt_of h.head
  have hn := hw.cap
  obtain ⟨P, rfl, lP, cP, fP, hcl⟩ := h.ofRow hi
  obtain ⟨B, hB, lB, _, e1, _, hqc⟩ := h.item hi hkl
  have hv : ((t.L i).getD k (0, 0)).2 = v := by rw [List.getD_eq_getElem?_getD, hk]; rfl
  rw [hv] at e1
  have hL := hlen i
  have hL2 := hlen l
  rw [hB] at cP
  have d0 : decide ((i : Int) < 0) = false := by rw [decide_eq_false_iff_not]; omega
  have HU : Hid (∀ (w1 : World) (q1 : Nat → Option Addr × Nat), RqM w1 R (some ⟨P, 0, none⟩) cl q1 (t.unlink id) → w1.cell? ⟨R, 0, none⟩ = some (.slice (some ⟨P, 0, none⟩) t.n cl) ∧ w1.cell? ⟨P, l, none⟩ = some (.slice (q1 l).1 ((t.unlink id).L l).length (q1 l).2) ∧ R < w1.heap.size ∧ P < w1.heap.size ∧ (∀ c y, Vec (w1.drew.alloc (.cells c y)) 63 2 (q1 l).1 ((t.unlink id).L l).length (q1 l).2 (itC ((t.unlink id).L l)))) := fun w1 q1 h1 => by
    obtain ⟨P', hP', a1, a2, _, _⟩ := h1.ofRow (i := l) hl
    cases hP'
    exact ⟨h1.cell0, a2, lt_of h1.head, a1, fun c y => (h1.inner l hl).grown ((Grown.refl w1).drew.alloc c y)⟩
  have HP : Hid (∀ (w1 : World) (q1 : Nat → Option Addr × Nat), RqM w1 R (some ⟨P, 0, none⟩) cl q1 (t.unlink id) → ∀ (w2 : World) (p' : Option Addr) (c' : Nat) (tmp : Array Value) (y : TypeId), Vec w2 63 2 p' (((t.unlink id).L l).length + 1) c' (fun j => if j < ((t.unlink id).L l).length * 2 then itC ((t.unlink id).L l) j else if j - ((t.unlink id).L l).length * 2 = 0 then .int .i64 id else .int .i64 v) → Out (In (q1 l).1) (w1.drew.alloc (.cells tmp y)) w2 → (p' = (q1 l).1 ∨ p' = some ⟨(w1.drew.alloc (.cells tmp y)).heap.size, 0, none⟩) → _) := fun w1 q1 h1 w2 p' c' tmp y a b c => (h1.drewN 1).pushed hl id v (w2 := w2) (p' := p') (c' := c') (tmp := tmp) (y := y) a b c
  have hu2 : ((t.unlink id).L l).length ≤ 65536 := Nat.le_trans (List.length_filter_le _ _) hL2
  obtain ⟨N, HN⟩ : ∃ N, Hid (N = t.n) := ⟨_, rfl⟩
  have hun : (t.unlink id).n = t.n := rfl
  rw [hun] at HP
  obtain ⟨L, HL⟩ : ∃ L, Hid (L = (t.L i).length) := ⟨_, rfl⟩
  obtain ⟨qc, HQ⟩ : ∃ qc, Hid (qc = (q i).2) := ⟨_, rfl⟩
  obtain ⟨tu, HT⟩ : ∃ tu, Hid (tu = t.unlink id) := ⟨_, rfl⟩
  rw [← HT.out] at ul HU HP hu2 ⊢
  rw [← HN.out] at c0 hcl hl hn hi HP HU ul ⊢
  rw [← HL.out, ← HQ.out] at cP hqc
  rw [← HL.out] at hL hkl
  obtain ⟨L2, HL2⟩ : ∃ L2, Hid (L2 = (tu.L l).length) := ⟨_, rfl⟩
  rw [← HL2.out] at HU HP hu2
  clear h hf hw hlen hk hB hv hun hL2
  have hmx : Try.prog.follows .mixedOrders = true := by kernel_rfl
  unfold ptr at *
  go_enter Try.func16, Try.ntmps16
  go_wp2_with (first | (go_at_call 35; refine fd.mono ?_; rintro e w' ⟨rfl, hw'⟩; have hw' := hw'.symm; subst hw') | (go_at_call 33; refine hh.mono ?_; rintro e w' ⟨rfl, hw'⟩; have hw' := hw'.symm; subst hw') | (go_at_call 14; refine ul.mono ?_; rintro e w1 ⟨rfl, q1, h1, s1⟩; obtain ⟨u1, u2, u3, u4, u5⟩ := HU.out _ _ h1; have HV : Hid _ := u5; clear u5))
  have HH1 : Hid (RqM w1 R (some ⟨P, 0, none⟩) cl q1 tu ∧ Step (qfoot R (some ⟨P, 0, none⟩) q N) (qfoot R (some ⟨P, 0, none⟩) q1 N) w w1) := ⟨h1, s1⟩
  clear h1 s1 HU ul fd hh
  generalize hqp : (q1 l).1 = qp2 at *
  generalize hqc2 : (q1 l).2 = qc2 at *
  refine region_fill [15, 16, 18] [(36, .pointer (some ⟨R, 0, none⟩)), (37, .pointer (some ⟨R, 0, none⟩)), (38, .pointer (some ⟨R, 0, none⟩)), (39, .slice (some ⟨P, 0, none⟩) N cl), (40, .int .i64 (l : Int)), (41, .pointer (some ⟨R, 0, none⟩)), (42, .pointer (some ⟨R, 0, none⟩)), (43, .pointer (some ⟨R, 0, none⟩)), (44, .slice (some ⟨P, 0, none⟩) N cl), (45, .int .i64 (l : Int)), (46, .pointer (some ⟨P, l, none⟩)), (47, .slice qp2 L2 qc2), (48, .int .i64 id), (49, .int .i64 v), (50, .agg #[.int .i64 id, .int .i64 v]), (53, .pointer (some ⟨P, l, none⟩))] hmx (by kernel_rfl) (by kernel_rfl) ?_
  simp only [fills, Act.put, List.setIfInBounds_toArray, List.set_cons_zero, List.set_cons_succ]
  refine flow_cons _ (.slice (some ⟨w1.heap.size, 0, none⟩) 1 1) (w1.drew.alloc (.cells #[.int .i64 id, .int .i64 v] 63)) rfl ?run (Or.inl ?eff) ?next
  case run =>
    intro i o ho hi
    iterate 19 (rcases i with _ | i; · first | (exact absurd hi (by decide)) | (cases ho; go_simp))
    cases ho
  case eff => go_simp
  case next =>
    simp only [Act.put, List.setIfInBounds_toArray]
    obtain ⟨p', c', w2, hr, hv2, ho2, hp2⟩ := run_append_vec (P := Try.prog) 61 Try.underlying61 infoItem rfl (HV.out #[.int .i64 id, .int .i64 v] 63) (cx := 1) (by decide) (new_two _ _ _ _) (fun j _ => by split <;> rfl) (by omega) (by omega)
    obtain ⟨k1, k2, k3, k4, k5, k6, k7⟩ := HP.out w1 q1 HH1.out.1 w2 p' c' _ _ hv2 (by rw [hqp]; exact ho2) (by rw [hqp]; exact hp2)
    rw [hqp, hqc2] at k2
    have HK : Hid (RqM (w2.setCell ⟨P, l, none⟩ (.slice p' (L2 + 1) c')) R (some ⟨P, 0, none⟩) cl (withQ q1 l p' c') (tu.push l id v) ∧ Step (qfoot R (some ⟨P, 0, none⟩) q1 N) (qfoot R (some ⟨P, 0, none⟩) (withQ q1 l p' c') N) w1.drew (w2.setCell ⟨P, l, none⟩ (.slice p' (L2 + 1) c'))) := ⟨k6, k7⟩
    clear k6 k7 hv2 ho2 hp2
    refine flow_cons _ (.slice p' (L2 + 1) c') w2 rfl ?run (Or.inl (exec_append rfl rfl rfl hr)) ?next
    case run =>
      clear hr
      intro i o ho hi
      iterate 19 (rcases i with _ | i; · first | (exact absurd hi (by decide)) | (cases ho; go_simp))
      cases ho
    case next =>
      clear hr
      simp only [Act.put]
      refine flow_cons _ undef (w2.setCell ⟨P, l, none⟩ (.slice p' (L2 + 1) c')) rfl ?run ?eff ?next
      case run =>
        intro i o ho hi
        iterate 19 (rcases i with _ | i; · first | (exact absurd hi (by decide)) | (cases ho; go_simp))
        cases ho
      case eff => first | (left; go_simp; done) | (right; refine ⟨?_, rfl⟩; go_simp; done)
      case next =>
        simp only [Act.put]
        show Exit.then _ _ Exit.normal _ _
        go_wp2
        go_ret
        exact ⟨rfl, _, HK.out.1, HH1.out.2.trans ((Step.grown _ (Grown.refl _).drew).trans HK.out.2)⟩
end Go.Proofs.Ytecnlciogcanmaa
