/-
  Lists of package deque: what Unlink, Move and Reweigh do when they are called.
-/
import Derived.Test.YtlmcopenbeammaaDqPut
namespace Go.Proofs.Ytlmcopenbeammaa
open Go.RowKit Go.Deep
variable {w w' : World} {X : Nat} {pr : Option Addr} {cr M : Nat} {g : Gh} {m : Int → Option Nat}

theorem unlink_no (h : DqM w X pr cr M g m) {id : Int} (hid : (Lit.int .i64 id).wf = true) (hm : m id = none) :
    Calls Try.prog 50 #[ptr X, .int .i64 id] w fun e w' => e = .returned (.int .i64 3) ∧ w' = w := by
  have c1 := h.cell1
  have hl := h.core.lt
  have HM : Hid (MapV Try.prog 3 w M 1 65536 (.pointer none) (mapC m)) := h.map
  have hv := mapC_none hm
  clear h
  unfold ptr at *
  go_enter Try.func50, Try.ntmps50
  go_wp2_with (first | (at_lookup; refine wpList_look_map rfl _ _ 71 rfl Try.underlying3 Try.underlying71 (zeroEl _) HM.out rfl rfl hid hv ?_))
  go_ret
  exact ⟨rfl, rfl⟩
theorem move_no (h : DqM w X pr cr M g m) {id : Int} (l : Int) (hid : (Lit.int .i64 id).wf = true) (hm : m id = none) :
    Calls Try.prog 48 #[ptr X, .int .i64 id, .int .i64 l] w fun e w' => e = .returned (.int .i64 3) ∧ w' = w := by
  have c1 := h.cell1
  have hl := h.core.lt
  have HM : Hid (MapV Try.prog 3 w M 1 65536 (.pointer none) (mapC m)) := h.map
  have hv := mapC_none hm
  clear h
  unfold ptr at *
  go_enter Try.func48, Try.ntmps48
  go_wp2_with (first | (at_lookup; refine wpList_look_map rfl _ _ 71 rfl Try.underlying3 Try.underlying71 (zeroEl _) HM.out rfl rfl hid hv ?_))
  go_ret
  exact ⟨rfl, rfl⟩
theorem reweigh_no (h : DqM w X pr cr M g m) {id : Int} (l : Int) (hid : (Lit.int .i64 id).wf = true) (hm : m id = none) :
    Calls Try.prog 23 #[ptr X, .int .i64 id, .int .i64 l] w fun e w' => e = .returned (.int .i64 3) ∧ w' = w := by
  have c1 := h.cell1
  have hl := h.core.lt
  have HM : Hid (MapV Try.prog 3 w M 1 65536 (.pointer none) (mapC m)) := h.map
  have hv := mapC_none hm
  clear h
  unfold ptr at *
  go_enter Try.func23, Try.ntmps23
  go_wp2_with (first | (at_lookup; refine wpList_look_map rfl _ _ 71 rfl Try.underlying3 Try.underlying71 (zeroEl _) HM.out rfl rfl hid hv ?_))
  go_ret
  exact ⟨rfl, rfl⟩
theorem move_arg (h : DqM w X pr cr M g m) {id : Int} {b : Nat} (l : Int) (hid : (Lit.int .i64 id).wf = true) (hm : m id = some b) (q1 : ¬ (0 ≤ l ∧ l < (g.n : Int))) :
    Calls Try.prog 48 #[ptr X, .int .i64 id, .int .i64 l] w fun e w' => e = .returned (.int .i64 1) ∧ w' = w := by
  have hh := has_m h l
  rw [show decide (0 ≤ l ∧ l < (g.n : Int)) = false by rw [decide_eq_false_iff_not]; exact q1] at hh
  have c1 := h.cell1
  have hl := h.core.lt
  have HM : Hid (MapV Try.prog 3 w M 1 65536 (.pointer none) (mapC m)) := h.map
  have hv := mapC_some hm
  clear h q1
  unfold ptr at *
  go_enter Try.func48, Try.ntmps48
  go_wp2_with (first | (at_lookup; refine wpList_look_map rfl _ _ 71 rfl Try.underlying3 Try.underlying71 (zeroEl _) HM.out rfl rfl hid hv ?_) | (go_at_call 68; refine hh.mono ?_; rintro e w' ⟨rfl, rfl⟩))
  go_ret
  exact ⟨rfl, rfl⟩
theorem reweigh_arg (h : DqM w X pr cr M g m) {id : Int} {b : Nat} (wt : Int) (hid : (Lit.int .i64 id).wf = true) (hm : m id = some b) (q1 : ¬ (0 ≤ wt ∧ wt ≤ 2147483648)) :
    Calls Try.prog 23 #[ptr X, .int .i64 id, .int .i64 wt] w fun e w' => e = .returned (.int .i64 1) ∧ w' = w := by
  have hg := mayWeigh_m wt w
  rw [show decide (0 ≤ wt ∧ wt ≤ 2147483648) = false by rw [decide_eq_false_iff_not]; exact q1] at hg
  have c1 := h.cell1
  have hl := h.core.lt
  have HM : Hid (MapV Try.prog 3 w M 1 65536 (.pointer none) (mapC m)) := h.map
  have hv := mapC_some hm
  clear h q1
  unfold ptr at *
  go_enter Try.func23, Try.ntmps23
  go_wp2_with (first | (at_lookup; refine wpList_look_map rfl _ _ 71 rfl Try.underlying3 Try.underlying71 (zeroEl _) HM.out rfl rfl hid hv ?_) | (go_at_call 46; refine hg.mono ?_; rintro e w' ⟨rfl, rfl⟩))
  go_ret
  exact ⟨rfl, rfl⟩

/-- What remove leaves. -/
theorem DqM.removed (h : DqM w X pr cr M g m) {i b : Nat} (hi : i < g.n) (hb : b ∈ g.B i) :
    Calls Try.prog 71 #[ptr (g.r i), ptr b] w fun e w2 => e = .returned (.tuple #[]) ∧ DqC w2 X pr cr M (g.cut i b) ∧ MapV Try.prog 3 w2 M 1 65536 (.pointer none) (mapC m) ∧ ElOn w2 b ((g.cut i b).E b) ∧ Out (dfoot X pr M g) w w2 := by
  refine (h.core.remove hi hb).mono ?_
  rintro e w2 ⟨rfl, h1, h2, h3⟩
  have hne := h.core.mne h.map
  exact ⟨rfl, h1, h.map.keep (h2.block M h.map.lt hne.2.2), h3, h2.wide fun k _ hk => Or.inr (Or.inr (Or.inr hk))⟩
theorem Gh.mem_cut_iff {g : Gh} (hw : g.Wf) {i b j c : Nat} (hi : i < g.n) (hb : b ∈ g.B i) (hj : j < g.n) : c ∈ (g.cut i b).B j ↔ c ∈ g.B j ∧ c ≠ b := by
  show c ∈ (if j = i then (g.B j).filter fun x => !(x == b) else g.B j) ↔ _
  split
  · rw [List.mem_filter]; simp
  · refine ⟨fun hc => ⟨hc, fun q => ?_⟩, fun hc => hc.1⟩
    have : j ≠ i := by assumption
    exact this (hw.rowOf hj hi (by rw [← q]; exact hc) hb)
theorem DqM.deleted (h : DqM w X pr cr M g m) {id : Int} {i b : Nat} (hi : i < g.n) (hb : b ∈ g.B i) (hid : (g.E b).id = id) {w2 w3 : World} (h2 : DqC w2 X pr cr M (g.cut i b)) (hm2 : MapV Try.prog 3 w2 M 1 65536 (.pointer none) (mapC m)) (o2 : Out (dfoot X pr M g) w w2)
    (hm3 : MapV Try.prog 3 w3 M 1 65536 (.pointer none) (fun y => if y = id then .pointer none else mapC m y)) (o3 : Out (· = M) w2 w3) : DqM w3 X pr cr M (g.cut i b) (mapDel m id) ∧ Out (dfoot X pr M g) w w3 := by
  have hne := h2.mne hm2
  have hw := h.core.wf
  refine ⟨⟨h2.keep (o3.block X h2.lt hne.1) (fun k hk => o3.block k (h2.vec.lt hk) (fun q => hne.2.1 (by rw [← q]; exact hk))) (fun k hk => o3.block k (h2.rfoot_lt hk) (fun q => hne.2.2 (by rw [← q]; exact hk))), hm3.congr (mapC_del m id), fun x c => ?_⟩, o2.trans o3 fun k hk => Or.inl (Or.inr (Or.inr (Or.inl hk)))⟩
  show (if x = id then none else m x) = some c ↔ ∃ j, j < g.n ∧ c ∈ (g.cut i b).B j ∧ (g.E c).id = x
  constructor
  · intro hx
    split at hx
    · cases hx
    · obtain ⟨j, hj, hc, hcx⟩ := (h.mp x c).1 hx
      exact ⟨j, hj, (Gh.mem_cut_iff hw hi hb hj).2 ⟨hc, fun q => by rw [q, hid] at hcx; exact absurd hcx.symm (by assumption)⟩, hcx⟩
  · rintro ⟨j, hj, hc, hcx⟩
    obtain ⟨hc1, hc2⟩ := (Gh.mem_cut_iff hw hi hb hj).1 hc
    rw [if_neg (fun q => hc2 (hw.uniq j i c b hj hi hc1 hb (by rw [hcx, hid, q])))]
    exact (h.mp x c).2 ⟨j, hj, hc1, hcx⟩

set_option maxHeartbeats 1000000 in
theorem unlink_ok (h : DqM w X pr cr M g m) {id : Int} {i b : Nat} (hid : (Lit.int .i64 id).wf = true) (hm : m id = some b) (hi : i < g.n) (hb : b ∈ g.B i) :
    Calls Try.prog 50 #[ptr X, .int .i64 id] w fun e w' => e = .returned (.int .i64 0) ∧ DqM w' X pr cr M (g.cut i b) (mapDel m id) ∧ Out (dfoot X pr M g) w w' := by
  have c0 := h.cell0
  have c1 := h.cell1
  have hl := h.core.lt
  have HM : Hid (MapV Try.prog 3 w M 1 65536 (.pointer none) (mapC m)) := h.map
  have hv := mapC_some hm
  have hn := h.core.wf.cap
  have hls := (h.core.wf.els i hi b hb).2.2.2.2
  have he := h.core.els i hi b (List.mem_cons_of_mem _ hb)
  have e2 : w.cell? ⟨b, 2, none⟩ = some (.int .i64 (i : Int)) := hls ▸ cell_of he rfl
  have le := lt_of he
  obtain ⟨B, rfl, hB, cB, hcr⟩ := h.nth hi
  have hbid : (g.E b).id = id := by
    obtain ⟨j, _, _, q⟩ := (h.mp id b).1 hm
    exact q
  have RM : Hid (∀ d, Calls Try.prog 71 #[ptr (g.r i), ptr b] (w.drewN d) fun e w2 => e = .returned (.tuple #[]) ∧ DqC w2 X (some ⟨B, 0, none⟩) cr M (g.cut i b) ∧ MapV Try.prog 3 w2 M 1 65536 (.pointer none) (mapC m) ∧ Out (dfoot X (some ⟨B, 0, none⟩) M g) w w2) := fun d => ((h.drewN d).removed hi hb).mono fun _ _ ⟨a, b, c, _, e⟩ => ⟨a, b, c, ⟨e.os, e.output, e.froz, e.size, e.block⟩⟩
  have HD : Hid (∀ w2 w3, DqC w2 X (some ⟨B, 0, none⟩) cr M (g.cut i b) → MapV Try.prog 3 w2 M 1 65536 (.pointer none) (mapC m) → Out (dfoot X (some ⟨B, 0, none⟩) M g) w w2 → MapV Try.prog 3 w3 M 1 65536 (.pointer none) (fun y => if y = id then .pointer none else mapC m y) → Out (· = M) w2 w3 → _) := fun w2 w3 a b' c d e => h.deleted hi hb hbid a b' c d e
  obtain ⟨gn, HN⟩ : ∃ gn, Hid (gn = g.n) := ⟨_, rfl⟩
  rw [← HN.out] at hn hi c0 hcr
  generalize hR : g.r i = R at *
  clear h hb he hls hR hbid
  unfold ptr at *
  go_enter Try.func50, Try.ntmps50
  go_wp2_with (first | (at_lookup; refine wpList_look_map rfl _ _ 71 rfl Try.underlying3 Try.underlying71 (zeroEl _) HM.out rfl rfl hid hv ?_))
  go_region_with (first | (go_at_call 71; refine (RM.out 1).mono ?_; rintro e w2 ⟨rfl, h2, hm2, o2⟩; have c12 := cell_of h2.head (k := 1) rfl; have l12 := h2.lt))
  all_goals
    go_wp2_with (first | (at_delete; refine wpList_drop_map rfl _ _ 71 3 rfl Try.underlying3 Try.underlying71 hm2 rfl rfl hid ?_; intro w3 hm3 o3; have hr := HD.out _ _ h2 hm2 o2 hm3 o3; clear hm3 o3))
    go_ret
    exact ⟨rfl, hr.1, hr.2⟩

/-- What Move finds behind remove: the element with its new row is put at that row's end. -/
theorem DqM.moved (h : DqM w X pr cr M g m) {id : Int} {i b l : Nat} (hm : m id = some b) (hi : i < g.n) (hb : b ∈ g.B i) (hl : l < g.n) {w2 : World} (h2 : DqC w2 X pr cr M (g.cut i b)) (hm2 : MapV Try.prog 3 w2 M 1 65536 (.pointer none) (mapC m)) (he2 : ElOn w2 b ((g.cut i b).E b)) (o2 : Out (dfoot X pr M g) w w2) :
    Calls Try.prog 70 #[ptr (g.r l), ptr b] (w2.setCell ⟨b, 2, none⟩ (.int .i64 (l : Int))) fun e w' => e = .returned (.tuple #[]) ∧ DqM w' X pr cr M ((g.cut i b).add l b id (g.E b).wt) m ∧ Out (dfoot X pr M g) w w' := by
  have hw := h.core.wf
  have hid : (g.E b).id = id := by
    obtain ⟨j, _, _, q⟩ := (h.mp id b).1 hm
    exact q
  have hee := hw.els i hi b hb
  have hnf : ¬ rfoot (g.cut i b) b := by
    rintro ⟨j, hj, q | q⟩
    · have := h2.rows j hj
      unfold RwOn at this
      rw [← q] at this
      unfold ElOn at he2
      rw [he2] at this
      cases this
    · rcases List.mem_cons.1 q with q | q
      · exact hw.notHead hi hj hb q
      · exact ((Gh.mem_cut_iff hw hi hb hj).1 q).2 rfl
  have hnX : X ≠ b := fun q => by
    have := h2.head
    unfold ElOn at he2
    rw [q, he2] at this
    cases this
  have hnM : M ≠ b := fun q => hm2.apart he2 q.symm
  have h3 : DqC (w2.setCell ⟨b, 2, none⟩ (.int .i64 (l : Int))) X pr cr M (g.cut i b) := h2.keep (blk_setCell_other _ _ _ _ hnX) (fun k hk => blk_setCell_other _ _ _ _ (fun q => vec_ne h2.vec he2 (by decide) (by have q : k = b := q; rw [← q]; exact hk))) (fun k hk => blk_setCell_other _ _ _ _ (fun q => hnf (by have q : k = b := q; exact q ▸ hk)))
  have hm3 := hm2.keep (w' := w2.setCell ⟨b, 2, none⟩ (.int .i64 (l : Int))) (blk_setCell_other _ _ _ _ hnM)
  have he3 : (w2.setCell ⟨b, 2, none⟩ (.int .i64 (l : Int))).heap[b]? = some (.cells #[.int .i64 id, .int .i64 (g.E b).wt, .int .i64 (l : Int), ptr ((g.cut i b).E b).pv, ptr ((g.cut i b).E b).nx] 89 (0, 0)) := by
    have := blk_set_same he2 2 (.int .i64 (l : Int))
    rw [← hid]
    exact this
  have hfr : ∀ j, j < (g.cut i b).n → b ∉ (g.cut i b).h j :: (g.cut i b).B j := fun j hj q => hnf ⟨j, hj, Or.inr q⟩
  have hids : ∀ j, j < (g.cut i b).n → ∀ c ∈ (g.cut i b).B j, ((g.cut i b).E c).id ≠ id := fun j hj c hc q => by
    obtain ⟨c1, c2⟩ := (Gh.mem_cut_iff hw hi hb hj).1 hc
    exact c2 (hw.uniq j i c b hj hi c1 hb (by rw [hid]; exact q))
  refine (h3.addLast (l := l) (e := b) (id := id) (wt := (g.E b).wt) hl he3 hfr hids (by rw [← hid]; exact hee.1) (by rw [← hid]; exact hee.2.1) hee.2.2.1 hee.2.2.2.1).mono ?_
  rintro e w' ⟨rfl, hc, ho⟩
  have hnM2 := h3.mne hm3
  have rf : ∀ k, rfoot (g.cut i b) k → rfoot g k := fun k ⟨j, hj, q⟩ => ⟨j, hj, q.imp_right fun q => by
    rcases List.mem_cons.1 q with q | q
    · rw [q]; exact List.mem_cons_self ..
    · exact List.mem_cons_of_mem _ (Gh.mem_cut q)⟩
  have o3 : Out (dfoot X pr M g) w (w2.setCell ⟨b, 2, none⟩ (.int .i64 (l : Int))) := o2.setCell (a := ⟨b, 2, none⟩) (Or.inr (Or.inr (Or.inr ⟨i, hi, Or.inr (List.mem_cons_of_mem _ hb)⟩))) _
  refine ⟨rfl, ⟨hc, hm3.keep (ho.block M hm3.lt (fun q => ?_)), fun x c => ?_⟩, o3.trans ho fun k hk => Or.inl (Or.inr (Or.inr (Or.inr ?_)))⟩
  · rcases q with q | q
    · exact hnM2.2.2 q
    · exact hnM q
  · show m x = some c ↔ ∃ j, j < g.n ∧ c ∈ (if j = l then (g.cut i b).B j ++ [b] else (g.cut i b).B j) ∧ (((g.cut i b).add l b id (g.E b).wt).E c).id = x
    have hEe : ((g.cut i b).add l b id (g.E b).wt).E b = ⟨id, (g.E b).wt, (l : Int), ((g.cut i b).E (g.h l)).pv, g.h l⟩ := if_pos rfl
    have hEo : ∀ c, c ≠ b → (((g.cut i b).add l b id (g.E b).wt).E c).id = (g.E c).id := fun c hc => by
      rw [show ((g.cut i b).add l b id (g.E b).wt).E c = _ from if_neg hc]; rfl
    constructor
    · intro hx
      by_cases q : c = b
      · obtain ⟨j, _, _, q2⟩ := (h.mp x c).1 hx
        rw [q] at q2 ⊢
        exact ⟨l, hl, by rw [if_pos rfl]; simp, by rw [hEe]; exact hid.symm.trans q2⟩
      · obtain ⟨j, hj, hc, hcx⟩ := (h.mp x c).1 hx
        have := (Gh.mem_cut_iff hw hi hb hj).2 ⟨hc, q⟩
        exact ⟨j, hj, by split <;> simp [this], by rw [hEo c q]; exact hcx⟩
    · rintro ⟨j, hj, hc, hcx⟩
      by_cases q : c = b
      · rw [q, hEe] at hcx
        rw [q, ← show id = x from hcx]; exact hm
      · have hc' : c ∈ (g.cut i b).B j := by
          split at hc
          · rcases List.mem_append.1 hc with y | y
            · exact y
            · simp at y; exact absurd y q
          · exact hc
        rw [hEo c q] at hcx
        exact (h.mp x c).2 ⟨j, hj, Gh.mem_cut hc', hcx⟩
  · rcases hk with hk | hk
    · exact rf k hk
    · exact ⟨i, hi, Or.inr (by rw [hk]; exact List.mem_cons_of_mem _ hb)⟩

set_option maxHeartbeats 1000000 in
theorem move_ok (h : DqM w X pr cr M g m) {id : Int} {i b l : Nat} (hid : (Lit.int .i64 id).wf = true) (hm : m id = some b) (hi : i < g.n) (hb : b ∈ g.B i) (hl : l < g.n) :
    Calls Try.prog 48 #[ptr X, .int .i64 id, .int .i64 (l : Int)] w fun e w' => e = .returned (.int .i64 0) ∧ DqM w' X pr cr M ((g.cut i b).add l b id (g.E b).wt) m ∧ Out (dfoot X pr M g) w w' := by
  have hh := has_m h (l : Int)
  rw [show decide (0 ≤ (l : Int) ∧ (l : Int) < (g.n : Int)) = true by rw [decide_eq_true_eq]; omega] at hh
  have c0 := h.cell0
  have c1 := h.cell1
  have hX := h.core.lt
  have HM : Hid (MapV Try.prog 3 w M 1 65536 (.pointer none) (mapC m)) := h.map
  have hv := mapC_some hm
  have hn := h.core.wf.cap
  have hls := (h.core.wf.els i hi b hb).2.2.2.2
  have he := h.core.els i hi b (List.mem_cons_of_mem _ hb)
  have e2 : w.cell? ⟨b, 2, none⟩ = some (.int .i64 (i : Int)) := hls ▸ cell_of he rfl
  have le := lt_of he
  obtain ⟨B, rfl, hB, cB, hcr⟩ := h.nth hi
  have RM : Hid (∀ d, Calls Try.prog 71 #[ptr (g.r i), ptr b] (w.drewN d) fun e w2 => e = .returned (.tuple #[]) ∧ DqC w2 X (some ⟨B, 0, none⟩) cr M (g.cut i b) ∧ MapV Try.prog 3 w2 M 1 65536 (.pointer none) (mapC m) ∧ ElOn w2 b ((g.cut i b).E b) ∧ Out (dfoot X (some ⟨B, 0, none⟩) M g) w w2) := fun d => ((h.drewN d).removed hi hb).mono fun _ _ ⟨a, b, c, x, e⟩ => ⟨a, b, c, x, ⟨e.os, e.output, e.froz, e.size, e.block⟩⟩
  have HD : Hid (∀ w2, DqC w2 X (some ⟨B, 0, none⟩) cr M (g.cut i b) → MapV Try.prog 3 w2 M 1 65536 (.pointer none) (mapC m) → ElOn w2 b ((g.cut i b).E b) → Out (dfoot X (some ⟨B, 0, none⟩) M g) w w2 → w2.cell? ⟨b, 2, none⟩ = some (.int .i64 (i : Int)) ∧ w2.frozen? ⟨b, 2, none⟩ = false ∧ b < w2.heap.size ∧ B < w2.heap.size ∧ X < w2.heap.size ∧ w2.cell? ⟨X, 0, none⟩ = some (.slice (some ⟨B, 0, none⟩) g.n cr) ∧ w2.cell? ⟨B, l, none⟩ = some (ptr (g.r l)) ∧ X ≠ b ∧ B ≠ b ∧ _) := fun w2 a b' c d => by
    have hv2 := a.vec
    obtain ⟨B', hB', hB2, hc2, _, _⟩ := hv2.opens (show 0 < g.n by omega)
    cases hB'
    refine ⟨hls ▸ cell_of c rfl, froz_of c 2, lt_of c, hB2, a.lt, cell_of a.head rfl, hc2 l (by show l < g.n * 1; omega), fun q => ?_, fun q => vec_ne hv2 c (by decide) (by rw [← q]; exact In.self B), h.moved hm hi hb hl a b' c d⟩
    have := a.head
    unfold ElOn at c
    rw [q, c] at this
    cases this
  obtain ⟨gn, HN⟩ : ∃ gn, Hid (gn = g.n) := ⟨_, rfl⟩
  rw [← HN.out] at hn hi c0 hcr HD hl
  generalize hR : g.r i = R at *
  generalize hR' : g.r l = R' at *
  clear h hb he hls hR hR'
  unfold ptr at *
  go_enter Try.func48, Try.ntmps48
  go_wp2_with (first | (at_lookup; refine wpList_look_map rfl _ _ 71 rfl Try.underlying3 Try.underlying71 (zeroEl _) HM.out rfl rfl hid hv ?_) | (go_at_call 68; refine hh.mono ?_; rintro e w' ⟨rfl, hw'⟩; have hw' := hw'.symm; subst hw'))
  go_region_with (first | (go_at_call 71; refine (RM.out 1).mono ?_; rintro e w2 ⟨rfl, h2, hm2, he2, o2⟩; obtain ⟨d1, d2, d3, d4, d5, d6, d7, d8, d9, AL⟩ := HD.out _ h2 hm2 he2 o2; clear h2 hm2 he2 o2))
  all_goals
    go_wp2_with (first | (go_at_call 70; refine AL.mono ?_; rintro e w3 ⟨rfl, r1, r2⟩))
    go_ret
    exact ⟨rfl, r1, r2⟩

theorem Gh.sum_weigh {g : Gh} (hw : g.Wf) {i e : Nat} {wt : Int} (hi : i < g.n) (he : e ∈ g.B i) {j : Nat} (hj : j < g.n) : (g.weigh e wt).sum j = if j = i then g.sum j + (wt - (g.E e).wt) else g.sum j := by
  show sumD ((g.B j).map fun b => (if b = e then { g.E b with wt := wt } else g.E b).wt) = if j = i then sumD ((g.B j).map fun b => (g.E b).wt) + (wt - (g.E e).wt) else sumD ((g.B j).map fun b => (g.E b).wt)
  have no : ∀ l : List Nat, e ∉ l → (l.map fun b => (if b = e then { g.E b with wt := wt } else g.E b).wt) = l.map fun b => (g.E b).wt := fun l hl => List.map_congr_left fun b hb => by rw [if_neg (fun q => hl (by rw [← q]; exact hb))]
  by_cases hji : j = i
  · subst hji
    rw [if_pos rfl]
    obtain ⟨P, S, h1, _⟩ := Gh.parts he (hw.dup j hi)
    have hd := hw.dup j hi
    rw [h1] at hd ⊢
    obtain ⟨_, n2, n3⟩ := List.nodup_append.1 hd
    rw [List.map_append, List.map_append, List.map_cons, List.map_cons, no P (fun q => n3 e q e (by simp) rfl), no S (List.nodup_cons.1 n2).1, sumI_append, sumI_append]
    simp only [sumD, if_pos]
    omega
  · rw [if_neg hji, no _ (fun q => hji (hw.rowOf hj hi q he))]
/-- What Reweigh leaves. -/
theorem DqM.weighed (h : DqM w X pr cr M g m) {i b : Nat} {wt : Int} (hi : i < g.n) (hb : b ∈ g.B i) (q3 : 0 ≤ wt ∧ wt ≤ 2147483648) :
    DqM ((w.setCell ⟨g.r i, 1, none⟩ (.int .i64 (g.sum i + (wt - (g.E b).wt)))).setCell ⟨b, 1, none⟩ (.int .i64 wt)) X pr cr M (g.weigh b wt) m ∧ Out (dfoot X pr M g) w ((w.setCell ⟨g.r i, 1, none⟩ (.int .i64 (g.sum i + (wt - (g.E b).wt)))).setCell ⟨b, 1, none⟩ (.int .i64 wt)) := by
  have hw := h.core.wf
  have he := h.core.els i hi b (List.mem_cons_of_mem _ hb)
  have hr := h.core.rows i hi
  have ho : Out (rfoot g) w ((w.setCell ⟨g.r i, 1, none⟩ (.int .i64 (g.sum i + (wt - (g.E b).wt)))).setCell ⟨b, 1, none⟩ (.int .i64 wt)) := ((Out.refl _ w).setCell (a := ⟨g.r i, 1, none⟩) ⟨i, hi, Or.inl rfl⟩ _).setCell (a := ⟨b, 1, none⟩) ⟨i, hi, Or.inr (List.mem_cons_of_mem _ hb)⟩ _
  obtain ⟨b1, b2⟩ := h.core.base ho (fun k hk _ => ⟨fun q => h.core.xrow.2 (by rw [← q]; exact hk), fun q => h.core.vrow q hk⟩)
  have hne := h.core.mne h.map
  refine ⟨⟨⟨hw.weigh b q3.1 q3.2, b1, b2, fun j hj => ?_, fun j hj c hc => ?_⟩, h.map.keep (ho.block M h.map.lt hne.2.2), fun x c => ?_⟩, ho.wide fun k _ hk => Or.inr (Or.inr (Or.inr hk))⟩
  · rw [Gh.sum_weigh hw hi hb hj]
    have hj0 := h.core.rows j hj
    by_cases q : j = i
    · subst q
      rw [if_pos rfl]
      exact (hj0.setWt _).other (hr.ne he) _
    · rw [if_neg q]
      exact (hj0.other (fun x => q (hw.rinj j i hj hi x)) _).other (hj0.ne he) _
  · have s0 := h.core.els j hj c hc
    exact (s0.other (fun x => hr.ne s0 x.symm) _).setWt b wt
  · rw [h.mp x c]
    have hs : ((g.weigh b wt).E c).id = (g.E c).id := by
      show (if c = b then { g.E c with wt := wt } else g.E c).id = _
      split <;> rfl
    show _ ↔ ∃ j, j < g.n ∧ c ∈ g.B j ∧ ((g.weigh b wt).E c).id = x
    rw [hs]
set_option maxHeartbeats 1000000 in
theorem reweigh_ok (h : DqM w X pr cr M g m) {id wt : Int} {i b : Nat} (hid : (Lit.int .i64 id).wf = true) (hm : m id = some b) (hi : i < g.n) (hb : b ∈ g.B i) (q3 : 0 ≤ wt ∧ wt ≤ 2147483648) :
    Calls Try.prog 23 #[ptr X, .int .i64 id, .int .i64 wt] w fun e w' => e = .returned (.int .i64 0) ∧ DqM w' X pr cr M (g.weigh b wt) m ∧ Out (dfoot X pr M g) w w' := by
  have hg := mayWeigh_m wt w
  rw [show decide (0 ≤ wt ∧ wt ≤ 2147483648) = true by rw [decide_eq_true_eq]; exact q3] at hg
  have c0 := h.cell0
  have c1 := h.cell1
  have hX := h.core.lt
  have HM : Hid (MapV Try.prog 3 w M 1 65536 (.pointer none) (mapC m)) := h.map
  have hv := mapC_some hm
  have hn := h.core.wf.cap
  have hel := h.core.wf.els i hi b hb
  have hls := hel.2.2.2.2
  have hwt : 0 ≤ (g.E b).wt ∧ (g.E b).wt ≤ 2147483648 := ⟨hel.2.2.1, hel.2.2.2.1⟩
  have hsb := h.core.wf.sumBound hi
  have he := h.core.els i hi b (List.mem_cons_of_mem _ hb)
  have hr := h.core.rows i hi
  have e1 : w.cell? ⟨b, 1, none⟩ = some (.int .i64 (g.E b).wt) := cell_of he rfl
  have e2 : w.cell? ⟨b, 2, none⟩ = some (.int .i64 (i : Int)) := hls ▸ cell_of he rfl
  have r1 : w.cell? ⟨g.r i, 1, none⟩ = some (.int .i64 (g.sum i)) := cell_of hr rfl
  have fr := froz_of hr
  have fe := froz_of he
  have le := lt_of he
  have lr := lt_of hr
  have hne := hr.ne he
  obtain ⟨B, rfl, hB, cB, hcr⟩ := h.nth hi
  have HD := h.weighed hi hb q3
  have HD' : Hid (DqM ((w.setCell ⟨g.r i, 1, none⟩ (.int .i64 (g.sum i + (wt - (g.E b).wt)))).setCell ⟨b, 1, none⟩ (.int .i64 wt)) X (some ⟨B, 0, none⟩) cr M (g.weigh b wt) m ∧ Out (dfoot X (some ⟨B, 0, none⟩) M g) w ((w.setCell ⟨g.r i, 1, none⟩ (.int .i64 (g.sum i + (wt - (g.E b).wt)))).setCell ⟨b, 1, none⟩ (.int .i64 wt))) := HD
  clear HD
  obtain ⟨gn, HN⟩ : ∃ gn, Hid (gn = g.n) := ⟨_, rfl⟩
  rw [← HN.out] at hn hi c0 hcr
  generalize (g.E b).wt = we at *
  generalize g.sum i = W at *
  generalize g.r i = R at *
  clear h hb he hls hr hel
  unfold ptr at *
  go_enter Try.func23, Try.ntmps23
  go_wp2_with (first | (at_lookup; refine wpList_look_map rfl _ _ 71 rfl Try.underlying3 Try.underlying71 (zeroEl _) HM.out rfl rfl hid hv ?_) | (go_at_call 46; refine hg.mono ?_; rintro e w' ⟨rfl, hw'⟩; have hw' := hw'.symm; subst hw'))
  go_region
  all_goals
    go_wp2
    go_ret
    exact ⟨rfl, HD'.out.1.drewN 1, HD'.out.2.drewN 1⟩
end Go.Proofs.Ytlmcopenbeammaa
