/-
  Lists of package deque: what Push, Unlink, Move and Reweigh do when they are called.
-/
import Derived.Test.YtlmcopenbeammaaDqWalks
namespace Go.Proofs.Ytlmcopenbeammaa
open Go.RowKit Go.Deep
variable {w w' : World} {X : Nat} {pr : Option Addr} {cr M : Nat} {g : Gh} {m : Int → Option Nat}

theorem push_arg (h : DqM w X pr cr M g m) (l id wt : Int) (hb : ¬ ((0 ≤ l ∧ l < (g.n : Int)) ∧ (1 ≤ id ∧ id ≤ 65536) ∧ (0 ≤ wt ∧ wt ≤ 2147483648))) :
    Calls Try.prog 45 #[ptr X, .int .i64 l, .int .i64 id, .int .i64 wt] w fun e w' => e = .returned (.int .i64 1) ∧ w' = w := by
  have hh := has_m h l
  have hm := mayBe_m id w
  have hg := mayWeigh_m wt w
  clear h
  have hc : ¬ (0 ≤ l ∧ l < (g.n : Int)) ∨ ((0 ≤ l ∧ l < (g.n : Int)) ∧ ¬ (1 ≤ id ∧ id ≤ 65536)) ∨ ((0 ≤ l ∧ l < (g.n : Int)) ∧ (1 ≤ id ∧ id ≤ 65536) ∧ ¬ (0 ≤ wt ∧ wt ≤ 2147483648)) := by omega
  clear hb
  unfold ptr at *
  rcases hc with q1 | ⟨q1, q2⟩ | ⟨q1, q2, q3⟩
  · rw [show decide (0 ≤ l ∧ l < (g.n : Int)) = false by rw [decide_eq_false_iff_not]; exact q1] at hh
    clear q1
    go_enter Try.func45, Try.ntmps45
    go_wp2_with (first | (go_at_call 68; refine hh.mono ?_; rintro e w' ⟨rfl, rfl⟩))
    go_ret
    exact ⟨rfl, rfl⟩
  · rw [show decide (0 ≤ l ∧ l < (g.n : Int)) = true by rw [decide_eq_true_eq]; exact q1] at hh
    rw [show decide (1 ≤ id ∧ id ≤ 65536) = false by rw [decide_eq_false_iff_not]; exact q2] at hm
    clear q1 q2
    go_enter Try.func45, Try.ntmps45
    go_wp2_with (first | (go_at_call 68; refine hh.mono ?_; rintro e w' ⟨rfl, rfl⟩) | (go_at_call 69; refine hm.mono ?_; rintro e w' ⟨rfl, rfl⟩))
    go_ret
    exact ⟨rfl, rfl⟩
  · rw [show decide (0 ≤ l ∧ l < (g.n : Int)) = true by rw [decide_eq_true_eq]; exact q1] at hh
    rw [show decide (1 ≤ id ∧ id ≤ 65536) = true by rw [decide_eq_true_eq]; exact q2] at hm
    rw [show decide (0 ≤ wt ∧ wt ≤ 2147483648) = false by rw [decide_eq_false_iff_not]; exact q3] at hg
    clear q1 q2 q3
    go_enter Try.func45, Try.ntmps45
    go_wp2_with (first | (go_at_call 68; refine hh.mono ?_; rintro e w' ⟨rfl, rfl⟩) | (go_at_call 69; refine hm.mono ?_; rintro e w' ⟨rfl, rfl⟩) | (go_at_call 46; refine hg.mono ?_; rintro e w' ⟨rfl, rfl⟩))
    go_ret
    exact ⟨rfl, rfl⟩

theorem wf_small {id : Int} (h : 1 ≤ id ∧ id ≤ 65536) : (Lit.int .i64 id).wf = true := by
  simp only [Lit.wf, Bool.and_eq_true, decide_eq_true_eq]
  have h1 : IntKind.i64.min = -9223372036854775808 := by decide
  have h2 : IntKind.i64.max = 9223372036854775807 := by decide
  omega

theorem push_twice (h : DqM w X pr cr M g m) (l id wt : Int) {b : Nat} (q1 : 0 ≤ l ∧ l < (g.n : Int)) (q2 : 1 ≤ id ∧ id ≤ 65536) (q3 : 0 ≤ wt ∧ wt ≤ 2147483648) (hb : m id = some b) :
    Calls Try.prog 45 #[ptr X, .int .i64 l, .int .i64 id, .int .i64 wt] w fun e w' => e = .returned (.int .i64 5) ∧ w' = w := by
  have hh := has_m h l
  have hm := mayBe_m id w
  have hg := mayWeigh_m wt w
  rw [show decide (0 ≤ l ∧ l < (g.n : Int)) = true by rw [decide_eq_true_eq]; exact q1] at hh
  rw [show decide (1 ≤ id ∧ id ≤ 65536) = true by rw [decide_eq_true_eq]; exact q2] at hm
  rw [show decide (0 ≤ wt ∧ wt ≤ 2147483648) = true by rw [decide_eq_true_eq]; exact q3] at hg
  have hid := wf_small q2
  have c1 := h.cell1
  have hl := h.core.lt
  have HM : Hid (MapV Try.prog 3 w M 1 65536 (.pointer none) (mapC m)) := h.map
  have hv := mapC_some hb
  clear h q1 q2 q3
  unfold ptr at *
  go_enter Try.func45, Try.ntmps45
  go_wp2_with (first | (go_at_call 68; refine hh.mono ?_; rintro e w' ⟨rfl, rfl⟩) | (go_at_call 69; refine hm.mono ?_; rintro e w' ⟨rfl, rfl⟩) | (go_at_call 46; refine hg.mono ?_; rintro e w' ⟨rfl, rfl⟩) | (at_lookup; refine wpList_look_map rfl _ _ 71 rfl Try.underlying3 Try.underlying71 (zeroEl _) HM.out rfl rfl hid hv ?_))
  go_ret
  exact ⟨rfl, rfl⟩

/-- The map, one number more. -/
def mapAdd (m : Int → Option Nat) (id : Int) (e : Nat) (x : Int) : Option Nat := if x = id then some e else m x
def mapDel (m : Int → Option Nat) (id : Int) (x : Int) : Option Nat := if x = id then none else m x
theorem mapC_add (m : Int → Option Nat) (id : Int) (e : Nat) (x : Int) : (if x = id then ptr e else mapC m x) = mapC (mapAdd m id e) x := by
  unfold mapC mapAdd
  by_cases q : x = id
  · simp [q]
  · simp [q]
theorem mapC_del (m : Int → Option Nat) (id : Int) (x : Int) : (if x = id then .pointer none else mapC m x) = mapC (mapDel m id) x := by
  unfold mapC mapDel
  by_cases q : x = id
  · simp [q]
  · simp [q]

/-- What Push finds behind the new element and its place in the map. -/
theorem DqM.pushed (h : DqM w X pr cr M g m) {l : Nat} {id wt : Int} (hl : l < g.n) (q2 : 1 ≤ id ∧ id ≤ 65536) (q3 : 0 ≤ wt ∧ wt ≤ 2147483648) (hm : m id = none) {w1 : World}
    (hm1 : MapV Try.prog 3 w1 M 1 65536 (.pointer none) (fun y => if y = id then ptr w.heap.size else mapC m y)) (ho1 : Out (· = M) (w.alloc (.cells #[.int .i64 id, .int .i64 wt, .int .i64 (l : Int), .pointer none, .pointer none] 89)) w1) :
    w1.cell? ⟨X, 0, none⟩ = some (.slice pr g.n cr) ∧ X < w1.heap.size ∧ (∃ B, pr = some ⟨B, 0, none⟩ ∧ B < w1.heap.size ∧ w1.cell? ⟨B, l, none⟩ = some (ptr (g.r l)) ∧ g.n ≤ cr) ∧
      Calls Try.prog 70 #[ptr (g.r l), ptr w.heap.size] w1 fun e' w' => e' = .returned (.tuple #[]) ∧ DqM w' X pr cr M (g.add l w.heap.size id wt) (mapAdd m id w.heap.size) ∧ Out (dfoot X pr M g) w w' := by
  have gr : Grown w (w.alloc (.cells #[.int .i64 id, .int .i64 wt, .int .i64 (l : Int), .pointer none, .pointer none] 89)) := (Grown.refl _).alloc _ _
  have hne := h.core.mne h.map
  have h0 := h.core.keep (w' := w1) ((ho1.block X (by rw [nblk_alloc]; have := h.core.lt; omega) hne.1).trans (grown_block gr h.core.lt)) (fun k hk => (ho1.block k (by rw [nblk_alloc]; have := h.core.vec.lt hk; omega) (fun q => hne.2.1 (by rw [← q]; exact hk))).trans (grown_block gr (h.core.vec.lt hk))) (fun k hk => (ho1.block k (by rw [nblk_alloc]; have := h.core.rfoot_lt hk; omega) (fun q => hne.2.2 (by rw [← q]; exact hk))).trans (grown_block gr (h.core.rfoot_lt hk)))
  have he : w1.heap[w.heap.size]? = some (.cells #[.int .i64 id, .int .i64 wt, .int .i64 (l : Int), .pointer none, .pointer none] 89 (0, 0)) := (ho1.block _ (by rw [nblk_alloc]; omega) (fun q => by have := h.map.lt; omega)).trans (blk_alloc_new _ _)
  have hf : ∀ j, j < g.n → w.heap.size ∉ g.h j :: g.B j := fun j hj hx => Nat.lt_irrefl _ (h.core.rfoot_lt ⟨j, hj, Or.inr hx⟩)
  have hid : ∀ j, j < g.n → ∀ b ∈ g.B j, (g.E b).id ≠ id := fun j hj b hb q => by
    have := (h.mp id b).2 ⟨j, hj, hb, q⟩
    rw [hm] at this; cases this
  obtain ⟨B, e1, e2, e3, _, e4⟩ := h0.vec.opens (by omega)
  refine ⟨cell_of h0.head rfl, h0.lt, ⟨B, e1, e2, e3 l (by omega), e4⟩, (h0.addLast hl he hf hid q2.1 q2.2 q3.1 q3.2).mono ?_⟩
  rintro e' w' ⟨rfl, hc, ho⟩
  have hm' := hm1.keep (w' := w') (ho.block M hm1.lt (fun q => by
    rcases q with q | q
    · exact hne.2.2 q
    · have := h.map.lt; omega))
  refine ⟨rfl, ⟨hc, hm'.congr (mapC_add m id w.heap.size), fun x b => ?_⟩, ?_⟩
  · show (if x = id then some w.heap.size else m x) = some b ↔ ∃ i, i < g.n ∧ b ∈ (if i = l then g.B i ++ [w.heap.size] else g.B i) ∧ ((g.add l w.heap.size id wt).E b).id = x
    have hEe : (g.add l w.heap.size id wt).E w.heap.size = ⟨id, wt, (l : Int), (g.E (g.h l)).pv, g.h l⟩ := if_pos rfl
    have hEo : ∀ c, c ≠ w.heap.size → ((g.add l w.heap.size id wt).E c).id = (g.E c).id := fun c hc => by
      rw [show (g.add l w.heap.size id wt).E c = _ from if_neg hc]
    have hlt : ∀ i, i < g.n → ∀ c ∈ g.B i, c ≠ w.heap.size := fun i hi c hc q => hf i hi (by rw [← q]; exact List.mem_cons_of_mem _ hc)
    constructor
    · intro hx
      split at hx
      · cases hx
        exact ⟨l, hl, by rw [if_pos rfl]; simp, by rw [hEe]; exact (by assumption : x = id).symm⟩
      · obtain ⟨i, hi, hb, hbx⟩ := (h.mp x b).1 hx
        refine ⟨i, hi, by split <;> simp [hb], by rw [hEo b (hlt i hi b hb)]; exact hbx⟩
    · rintro ⟨i, hi, hb, hbx⟩
      by_cases q : b = w.heap.size
      · rw [q, hEe] at hbx
        rw [if_pos hbx.symm, q]
      · have hb' : b ∈ g.B i := by
          split at hb
          · rcases List.mem_append.1 hb with y | y
            · exact y
            · simp at y; exact absurd y q
          · exact hb
        rw [hEo b q] at hbx
        rw [if_neg (fun y => hid i hi b hb' (hbx.trans y))]
        exact (h.mp x b).2 ⟨i, hi, hb', hbx⟩
  · refine ((Out.of_grown gr (dfoot X pr M g)).trans ho1 (fun k hk => Or.inl (Or.inr (Or.inr (Or.inl hk))))).trans ho (fun k hk => ?_)
    rcases hk with hk | hk
    · exact Or.inl (Or.inr (Or.inr (Or.inr hk)))
    · exact Or.inr (by omega)
set_option maxHeartbeats 1000000 in
theorem push_ok (h : DqM w X pr cr M g m) (l : Nat) (id wt : Int) (q1 : l < g.n) (q2 : 1 ≤ id ∧ id ≤ 65536) (q3 : 0 ≤ wt ∧ wt ≤ 2147483648) (hb : m id = none) :
    Calls Try.prog 45 #[ptr X, .int .i64 (l : Int), .int .i64 id, .int .i64 wt] w fun e w' => e = .returned (.int .i64 0) ∧ DqM w' X pr cr M (g.add l w.heap.size id wt) (mapAdd m id w.heap.size) ∧ Out (dfoot X pr M g) w w' := by
  have hh := has_m h (l : Int)
  have hm := mayBe_m id w
  have hg := mayWeigh_m wt w
  rw [show decide (0 ≤ (l : Int) ∧ (l : Int) < (g.n : Int)) = true by rw [decide_eq_true_eq]; omega] at hh
  rw [show decide (1 ≤ id ∧ id ≤ 65536) = true by rw [decide_eq_true_eq]; exact q2] at hm
  rw [show decide (0 ≤ wt ∧ wt ≤ 2147483648) = true by rw [decide_eq_true_eq]; exact q3] at hg
  have hid := wf_small q2
  have c1 := h.cell1
  have hl := h.core.lt
  have hn := h.core.wf.cap
  have HM : Hid (MapV Try.prog 3 w M 1 65536 (.pointer none) (mapC m)) := h.map
  have HM2 : Hid (∀ c y, MapV Try.prog 3 (w.alloc (.cells c y)) M 1 65536 (.pointer none) (mapC m)) := fun c y => h.map.keep (grown_block ((Grown.refl _).alloc c y) h.map.lt)
  have hv := mapC_none hb
  have HP : Hid (∀ w1, MapV Try.prog 3 w1 M 1 65536 (.pointer none) (fun y => if y = id then ptr w.heap.size else mapC m y) → Out (· = M) (w.alloc (.cells #[.int .i64 id, .int .i64 wt, .int .i64 (l : Int), .pointer none, .pointer none] 89)) w1 → _) := fun w1 a b => h.pushed q1 q2 q3 hb a b
  obtain ⟨gn, HN⟩ : ∃ gn, Hid (gn = g.n) := ⟨_, rfl⟩
  rw [← HN.out] at hn HP q1
  clear h hb
  unfold ptr at *
  go_enter Try.func45, Try.ntmps45
  go_wp2_with (first | (go_at_call 68; refine hh.mono ?_; rintro e w' ⟨rfl, rfl⟩) | (go_at_call 69; refine hm.mono ?_; rintro e w' ⟨rfl, rfl⟩) | (go_at_call 46; refine hg.mono ?_; rintro e w' ⟨rfl, rfl⟩) | (at_lookup; refine wpList_look_map rfl _ _ 71 rfl Try.underlying3 Try.underlying71 (zeroEl _) HM.out rfl rfl hid hv ?_) | (at_mapUpdate; refine wpList_store_map rfl _ _ _ 71 rfl Try.underlying3 Try.underlying71 (HM2.out _ _) rfl rfl hid q2.1 q2.2 (by decide) rfl ?_; intro w1 hm1 ho1; obtain ⟨d1, d2, ⟨B, rfl, d3, d4, d5⟩, AL⟩ := HP.out _ hm1 ho1; clear hm1 ho1) | (go_at_call 70; refine AL.mono ?_; rintro e w2 ⟨rfl, r1, r2⟩))
  go_ret
  exact ⟨rfl, r1, r2⟩
end Go.Proofs.Ytlmcopenbeammaa
