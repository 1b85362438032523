/-
  What New and grow of package table do when they are called; how links come, turn and go in memory. No condition but those told at each sentence.
-/
import Derived.Test.YthjcdloaclailaaTbPure
import Derived.Laws.CopyOwn
namespace Go.Proofs.Ythjcdloaclailaa.Tb
open Go.RowKit Go.Deep Us
variable {w w' : World} {t : Tab} {key : Int} {l : List Lk} {x : Lk} {r : List Lk} {X B : Nat} {s : Int} {n m k : Nat} {D D' : List Lk} {val val' : Addr → Value} {a : Addr} {e : En}

theorem madeSize (N : Nat) : (madeCells #[Value.pointer none] N).size = N := by simp [madeCells]
theorem madeOne (z : Value) (n j : Nat) (h : j < n) : (madeCells #[z] n)[j]? = some z := by
  simp [madeCells, Nat.mod_one, h]
theorem infoP : (Try.prog.info? 57).map (fun i => (i.zero, i.size, i.bytes)) = some (some (.pointer none), 1, 8) := by kernel_rfl
theorem sizeP : (Try.prog.info? 57).map (·.size) = some 1 := by kernel_rfl
namespace Mem
theorem rep (h : Mem w X B s n k m D val) (hx : x ∈ D) (e : En) (hw : w'.heap[x.1]? = some (.cells (lnkC e (val ⟨x.1, 4, none⟩)) 59 (0, 0))) (o : Out (· = x.1) w w') : Mem w' X B s n k m (D.map (Tb.rep x.1 e)) val := by
  have sx := h.sep x hx
  refine ⟨(o.block X (lt_of h.head) (fun q => sx.1 q.symm)).trans h.head, ?_, fun y hy => ?_, by rw [map_fst (rep_fst _ _)]; exact h.nd, h.xb, fun y hy => ?_⟩
  · obtain ⟨cur, hc, hr⟩ := h.row
    exact ⟨cur, (o.block B (lt_of hc) (fun q => sx.2 q.symm)).trans hc, hr⟩
  · obtain ⟨z, hz, rfl⟩ := List.mem_map.1 hy
    rw [rep_fst]
    by_cases q : z.1 = x.1
    · rw [show (Tb.rep x.1 e z).2 = e by unfold Tb.rep; rw [if_pos q], q]
      exact hw
    · rw [show Tb.rep x.1 e z = z by unfold Tb.rep; rw [if_neg q]]
      exact (o.block z.1 (lt_of (h.lnk z hz)) q).trans (h.lnk z hz)
  · obtain ⟨z, hz, rfl⟩ := List.mem_map.1 hy
    rw [rep_fst]
    exact h.sep z hz
theorem add (h : Mem w X B s n k m D val) (e : En) (v : Value) : Mem (w.alloc (.cells (lnkC e v) 59)) X B s n k m (D ++ [(w.heap.size, e)]) (upd val ⟨w.heap.size, 4, none⟩ v) := by
  have g : Grown w (w.alloc (.cells (lnkC e v) 59)) := (Grown.refl _).alloc _ _
  have h1 := h.grown g
  have hlt : ∀ y ∈ D, y.1 < w.heap.size := fun y hy => lt_of (h.lnk y hy)
  have lB : B < w.heap.size := h.lt (.inr (.inl rfl))
  have lX : X < w.heap.size := h.lt (.inl rfl)
  refine ⟨h1.head, ?_, fun y hy => ?_, ?_, h.xb, fun y hy => ?_⟩
  · obtain ⟨cur, hc, hs, hr⟩ := h1.row
    refine ⟨cur, hc, hs, fun j hj => ?_⟩
    rw [upd_ne (fun q => by have : B = w.heap.size := congrArg Addr.block q; omega)]
    exact hr j hj
  · rcases List.mem_append.1 hy with hy | hy
    · rw [upd_ne (fun q => by have : y.1 = w.heap.size := congrArg Addr.block q; have := hlt y hy; omega)]
      exact h1.lnk y hy
    · obtain rfl := List.mem_singleton.1 hy
      rw [upd_self]
      exact blk_alloc_new _ _
  · rw [List.map_append, List.nodup_append]
    refine ⟨h.nd, by simp, fun p hp q hq => ?_⟩
    obtain ⟨y, hy, rfl⟩ := List.mem_map.1 hp
    simp at hq
    have := hlt y hy
    omega
  · rcases List.mem_append.1 hy with hy | hy
    · exact h.sep y hy
    · obtain rfl := List.mem_singleton.1 hy
      exact ⟨by show w.heap.size ≠ X; omega, by show w.heap.size ≠ B; omega⟩
theorem sub (h : Mem w X B s n k m D val) (hs : D'.Sublist D) : Mem w X B s n k m D' val :=
  ⟨h.head, h.row, fun y hy => h.lnk y (hs.subset hy), (hs.map _).nodup h.nd, h.xb, fun y hy => h.sep y (hs.subset hy)⟩
theorem setMany (h : Mem w X B s n k m D val) (m' : Nat) (hm : m' = D.length) : Mem (w.setCell ⟨X, 3, none⟩ (.int .i64 (m' : Int))) X B s n k D.length D val := by
  subst hm; exact h.setM _
end Mem
set_option maxRecDepth 4000 in
theorem new_t (s : Int) (w : World) : Calls Try.prog 10 #[.int .i64 s] w fun e w' => e = .returned (ptr (w.heap.size + 1)) ∧ Tb w' ⟨w.heap.size + 1, w.heap.size, s, 8, 0, [], fun _ => .pointer none, fun _ => []⟩ ∧ Grown w w' := by
  have hmk := run_make_row' (P := Try.prog) 52 57 (.pointer none) 8 Try.underlying52 infoP rfl .i64 .i64 8 (by omega) (by omega)
  rw [show ((8 : Nat) : Int) = 8 from rfl] at hmk
  go_enter Try.func10, Try.ntmps10
  go_wp2
  go_ret
  refine ⟨rfl, ⟨⟨?_, ⟨_, heap2_old _ _ _, madeSize 8, fun j hj => madeOne _ _ _ hj⟩, fun y hy => (by cases hy), by simp, by show w.heap.size + 1 ≠ w.heap.size; omega, fun y hy => by cases hy⟩, ?_⟩, ((Grown.refl _).alloc _ _).alloc _ _⟩
  · exact heap2_new _ _ _
  · exact ⟨fun j _ => rfl, fun j _ y hy => (by cases hy), fun y hy => (by cases hy), fun _ _ => by simp, by simp, by show 8 % 2 = 0; omega, Nat.le_refl 8, by show 8 ≤ 131072; omega, by show 0 ≤ 8 / 2; omega⟩
theorem grow_no (h : Tb w t) (hn : 0 < t.l ∨ t.D.length ≤ t.n ∨ 65536 ≤ t.n) : Calls Try.prog 33 #[ptr t.X] w fun e w' => e = .returned (.tuple #[]) ∧ w' = w := by
  obtain ⟨c0, c1, c2, c3⟩ := h.mem.head.cells
  have hb := h.mem.lt (.inl rfl)
  have hhi := h.sh.hi
  clear h
  generalize t.D.length = m at *
  unfold ptr
  by_cases q1 : 0 < t.l
  · have d1 : decide (0 < t.l) = true := decide_eq_true q1
    have d2 : decide ((t.l : Int) > 0) = true := decide_eq_true (by omega)
    go_enter Try.func33, Try.ntmps33
    go_wp2
    (try simp only [Exit.inBlock, Exit.then])
    refine bodyPost_ret (results_none rfl _ _ _) rfl ?_
    exact ⟨rfl, rfl⟩
  · have d1 : decide (0 < t.l) = false := decide_eq_false q1
    have d2 : decide ((t.l : Int) > 0) = false := decide_eq_false (by omega)
    by_cases q2 : m ≤ t.n
    · have d3 : decide (m ≤ t.n) = true := decide_eq_true q2
      have d4 : decide ((m : Int) ≤ (t.n : Int)) = true := decide_eq_true (by omega)
      go_enter Try.func33, Try.ntmps33
      go_wp2
      (try simp only [Exit.inBlock, Exit.then])
      refine bodyPost_ret (results_none rfl _ _ _) rfl ?_
      exact ⟨rfl, rfl⟩
    · have q3 : 65536 ≤ t.n := by omega
      have d3 : decide (m ≤ t.n) = false := decide_eq_false q2
      have d4 : decide ((m : Int) ≤ (t.n : Int)) = false := decide_eq_false (by omega)
      have d5 : decide (65536 ≤ t.n) = true := decide_eq_true q3
      have d6 : decide ((t.n : Int) ≥ 65536) = true := decide_eq_true (by omega)
      go_enter Try.func33, Try.ntmps33
      go_wp2
      (try simp only [Exit.inBlock, Exit.then])
      refine bodyPost_ret (results_none rfl _ _ _) rfl ?_
      exact ⟨rfl, rfl⟩
/-- The old row's pointers, copied into the front of a new one. -/
theorem copy_ptrs {w : World} {g B n : Nat} {f : Nat → Value} (hg : w.heap[g]? = some (.cells (madeCells #[.pointer none] (2 * n)) 57 (0, 0))) (hs : ∀ j, j < n → w.cell? ⟨B, j, none⟩ = some (f j)) (h1 : ∀ j, j < n → (f j).oneCell' = true) :
    ∃ W cur, (Builtin.copy_ #[52, 52] 3 #[.slice (some ⟨g, 0, none⟩) (2 * n) (2 * n), .slice (some ⟨B, 0, none⟩) n n]).run Try.prog w = .ok (.int .i64 (n : Int)) W ∧ W.heap[g]? = some (.cells cur 57 (0, 0)) ∧ cur.size = 2 * n ∧ (∀ j, j < 2 * n → cur[j]? = some (if j < n then f j else .pointer none)) ∧ Out (· = g) w W := by
  have hl : ((List.range n).map f).length = n := by simp
  have hcp := run_copy_row (P := Try.prog) w 52 52 3 57 g 0 (2 * n) (2 * n) ⟨B, 0, none⟩ n n _ _ ((List.range n).map f) Try.underlying52 sizeP hg (by rw [hl]; exact (Nat.min_eq_left (by omega)).symm) (fun j v hv => by
    obtain ⟨hj, rfl⟩ := list_get (m := n) f hv
    have e : (⟨B, 0, none⟩ : Addr).add j = ⟨B, j, none⟩ := by unfold Addr.add; split <;> simp_all
    rw [e]
    exact hs j hj) (by rw [hl, madeSize]; omega) (fun v hv => by
    obtain ⟨j, hj, rfl⟩ := List.mem_map.1 hv
    exact h1 j (List.mem_range.1 hj))
  rw [hl] at hcp
  refine ⟨_, _, hcp, setRow_heap _ _ _ _ _ _ hg, ?_, fun j hj => ?_, Out.of_off (off_setRow hg) rfl⟩
  · have := madeSize (2 * n)
    simp [this]
    omega
  · rw [List.getElem?_toArray, List.take_zero, List.nil_append, Nat.zero_add]
    by_cases e : j < n
    · rw [if_pos e, List.getElem?_append_left (by rw [hl]; exact e)]
      simp [e]
    · rw [if_neg e, List.getElem?_append_right (by rw [hl]; omega), hl, List.getElem?_drop, Array.getElem?_toList, show n + (j - n) = j by omega]
      exact madeOne _ _ _ hj
set_option maxRecDepth 4000 in
theorem grow_yes (h : Tb w t) (h0 : t.l = 0) (hm : t.n < t.D.length) (hn : t.n < 65536) : Calls Try.prog 33 #[ptr t.X] w fun e w' => e = .returned (.tuple #[]) ∧ Tb w' (t.grw w.heap.size) ∧ Out t.F w w' := by
  obtain ⟨c0, c1, c2, c3⟩ := h.mem.head.cells
  have hb := h.mem.lt (.inl rfl)
  have hhi := h.sh.hi
  have hlo := h.sh.lo
  have H : Hid (Tb w t) := h
  rw [h0] at c2
  change w.cell? ⟨t.X, 2, none⟩ = some (Value.int IntKind.i64 0) at c2
  have hmk := run_make_row' (P := Try.prog) 52 57 (.pointer none) 8 Try.underlying52 infoP rfl .i64 .i64 (2 * t.n) (by omega) (by omega)
  have f1 : w.frozen? ⟨t.X, 1, none⟩ = false := fr0 h.mem.head 1
  have f2 : w.frozen? ⟨t.X, 2, none⟩ = false := fr0 h.mem.head 2
  have lB := h.mem.lt (.inr (.inl rfl))
  have g1 : Grown w (w.alloc (.cells (madeCells #[.pointer none] (2 * t.n)) 57)) := (Grown.refl _).alloc _ _
  obtain ⟨W2, cur, hcp, h2, z2, v2, o2⟩ := copy_ptrs (blk_alloc_new w (.cells (madeCells #[.pointer none] (2 * t.n)) 57)) (fun j hj => ((h.mem.grown g1).cell (.inl ⟨j, hj, rfl⟩)).1) fun j hj => by
    rw [linked_first (h.sh.link j hj)]
    cases t.c j <;> rfl
  have O2 : Hid (Out (fun _ => False) w W2) := by
    refine ⟨o2.os.trans g1.1.1, o2.output.trans g1.1.2.1, fun a => (o2.froz ⟨a.1, Nat.lt_of_lt_of_le a.2 g1.2.2⟩).trans (g1.2.1 a), Nat.le_trans g1.2.2 o2.size, fun k hk _ => ?_⟩
    rw [o2.block k (by have := g1.2.2; omega) (by omega)]
    exact grown_block g1 hk
  have M2 : Hid (Mem W2 t.X t.B t.s t.n t.l t.D.length t.D t.val) := h.mem.out O2.out fun _ _ => id
  have l2 : w.heap.size < W2.heap.size := by have := o2.size; have := nblk_alloc w (.cells (madeCells #[.pointer none] (2 * t.n)) 57); omega
  have oth : ∀ k, k ≠ t.X → ((W2.setCell ⟨t.X, 1, none⟩ (.slice (some ⟨w.heap.size, 0, none⟩) (2 * t.n) (2 * t.n))).setCell ⟨t.X, 2, none⟩ (.int .i64 (t.n : Int))).heap[k]? = W2.heap[k]? := fun k hk => (blk_setCell_other _ _ _ _ hk).trans (blk_setCell_other _ _ _ _ hk)
  have hE : Hid (Tb ((W2.setCell ⟨t.X, 1, none⟩ (.slice (some ⟨w.heap.size, 0, none⟩) (2 * t.n) (2 * t.n))).setCell ⟨t.X, 2, none⟩ (.int .i64 (t.n : Int))) (t.grw w.heap.size)) := by
    have hlt : ∀ y ∈ t.D, y.1 < w.heap.size := fun y hy => lt_of (h.mem.lnk y hy)
    refine ⟨⟨?_, ⟨cur, (oth w.heap.size (by omega)).trans h2, z2, fun j hj => ?_⟩, fun y hy => ?_, h.mem.nd, by show t.X ≠ w.heap.size; omega, fun y hy => ⟨(h.mem.sep y hy).1, ?_⟩⟩, h.sh.grw h0 hn fun y hy => ?_⟩
    · have := blk_set (blk_set M2.out.head 1 (.slice (some ⟨w.heap.size, 0, none⟩) (2 * t.n) (2 * t.n))) 2 (.int .i64 (t.n : Int))
      exact this
    · rw [v2 j hj]
      show _ = some (if w.heap.size = w.heap.size then (if j < t.n then _ else _) else _)
      rw [if_pos rfl]
    · show _ = some (Obj.cells (lnkC y.2 (if y.1 = w.heap.size then _ else t.val ⟨y.1, 4, none⟩)) _ _)
      rw [if_neg (by have := hlt y hy; omega)]
      exact (oth y.1 (h.mem.sep y hy).1).trans (M2.out.lnk y hy)
    · show y.1 ≠ w.heap.size
      have := hlt y hy; omega
    · have := hlt y hy; omega
  clear oth v2 o2
  have O3 : Hid (Out t.F w ((W2.setCell ⟨t.X, 1, none⟩ (.slice (some ⟨w.heap.size, 0, none⟩) (2 * t.n) (2 * t.n))).setCell ⟨t.X, 2, none⟩ (.int .i64 (t.n : Int)))) :=
    ((O2.out.wide (G := t.F) fun _ _ => False.elim).setCell (a := ⟨t.X, 1, none⟩) (.inl rfl) _).setCell (a := ⟨t.X, 2, none⟩) (.inl rfl) _
  obtain ⟨c0', c1', c2', c3'⟩ := M2.out.head.cells
  have f1' : W2.frozen? ⟨t.X, 1, none⟩ = false := fr0 M2.out.head 1
  have f2' : W2.frozen? ⟨t.X, 2, none⟩ = false := fr0 M2.out.head 2
  have hb' := lt_of M2.out.head
  rw [h0] at c2'
  change W2.cell? ⟨t.X, 2, none⟩ = some (Value.int IntKind.i64 0) at c2'
  obtain ⟨n, hnn⟩ : ∃ n, Hid (n = t.n) := ⟨_, rfl⟩
  obtain ⟨m, hmm⟩ : ∃ m, Hid (m = t.D.length) := ⟨_, rfl⟩
  obtain ⟨X, hX⟩ : ∃ X, Hid (X = t.X) := ⟨_, rfl⟩
  obtain ⟨B, hB⟩ : ∃ B, Hid (B = t.B) := ⟨_, rfl⟩
  rw [← hnn.out] at hhi hlo hm hn hmk hE O3
  rw [← hmm.out] at hm c3 c3'
  rw [← hX.out] at c0 c2 c3 f1 f2 hb c0' c2' c3' f1' f2' hb' hE O3
  rw [← hX.out, ← hnn.out, ← hB.out] at c1 c1'
  rw [← hB.out] at lB
  rw [← hB.out, ← hnn.out] at hcp
  rw [← hX.out]
  have d1 : decide (m ≤ n) = false := decide_eq_false (by omega)
  have d2 : decide ((m : Int) ≤ (n : Int)) = false := decide_eq_false (by omega)
  have d3 : decide (65536 ≤ n) = false := decide_eq_false (by omega)
  have d4 : decide ((n : Int) ≥ 65536) = false := decide_eq_false (by omega)
  have w1 : wrap64 (2 * (n : Int)) = 2 * (n : Int) := IntWalk.wrap64_in _ ⟨by omega, by omega⟩
  rw [show ((2 * n : Nat) : Int) = 2 * (n : Int) by omega] at hmk
  clear h h0 g1 h2 z2
  unfold ptr
  go_enter Try.func33, Try.ntmps33
  go_wp2
  go_end0
  exact ⟨rfl, hE.out, O3.out⟩
end Go.Proofs.Ythjcdloaclailaa.Tb
