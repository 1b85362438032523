/-
  What each call makes of a table beside other objects, whatever is there. No condition but those told at each sentence.
-/
import Derived.Test.YthjcdloaclailaaTbEs
namespace Go.Proofs.Ythjcdloaclailaa.Tb
open Go.RowKit Go.Deep Us
variable {W w w' : World} {t t' : Tab} {key : Int} {e y : En} {l : List Ob} {i X : Nat}

theorem es_or (q : List En) (key : Int) : (∃ y ∈ q, y.k = key) ∨ ∀ y ∈ q, y.k ≠ key := by
  by_cases h : ∃ y ∈ q, y.k = key
  · exact .inl h
  · exact .inr fun y hy e => h ⟨y, hy, e⟩
theorem dlt_le (key : Int) (q : List En) : (dlt key q).length ≤ q.length := List.length_filter_le _ _
/-- Remove, whatever there is: how many there are then, at most; buckets. -/
theorem rem_any (h : Apt W w l) (hi : l[i]? = some (obT t)) (hX : t.X = X) (key : Int) (hm : t.es.length ≤ 1000000) : Calls Try.prog 14 #[.pointer (some ⟨X, 0, none⟩), .int .i64 key] w fun o w' => ∃ v b t', o = .returned (.tuple #[v, b]) ∧ Hid (t'.X = X) ∧ Hid (Apt W w' (l.set i (obT t'))) ∧ Hid (t'.es.length ≤ t.es.length) ∧ Hid (t'.n = t.n) ∧ Hid (t'.l = t.l - 1) := by
  rcases es_or t.es key with ⟨y, hy, hk⟩ | hn
  · refine (rem_y h hi hX hy hk hm).mono ?_
    rintro o w' ⟨t', rfl, h2, T⟩
    exact ⟨_, _, t', rfl, T.X.trans hX, h2, by show _ ≤ _; rw [T.es]; exact dlt_le _ _, T.n, T.l⟩
  · refine (rem_n h hi hX hn).mono ?_
    rintro o w' ⟨t', rfl, h2, T⟩
    exact ⟨_, _, t', rfl, T.X.trans hX, h2, by show _ ≤ _; rw [T.es]; exact Nat.le_refl _, T.n, T.l⟩
theorem map_len (e : En) (q : List En) : (q.map (ovr e)).length = q.length := List.length_map _
/-- Put over what was there. -/
theorem put_over (h : Apt W w l) (hi : l[i]? = some (obT t)) (hX : t.X = X) (e : En) (hy : ∃ y ∈ t.es, y.k = e.k) : Calls Try.prog 12 #[.pointer (some ⟨X, 0, none⟩), .agg #[.int .i64 e.k, .int .i64 e.a, .int .i64 e.x, .int .i64 e.n]] w fun o w' => ∃ (r : En) (t' : Tab), o = .returned (.tuple #[.agg #[.int .i64 r.k, .int .i64 r.a, .int .i64 r.x, .int .i64 r.n], .bool true]) ∧ Hid (t'.X = X) ∧ Hid (Apt W w' (l.set i (obT t'))) ∧ Hid (t'.es = t.es.map (ovr e)) ∧ Hid (t'.n = t.n) ∧ Hid (t'.l = t.l - 1) ∧ Hid (r ∈ t.es ∧ r.k = e.k) := by
  obtain ⟨y, hy, hk⟩ := hy
  refine (put_y h hi hX hy hk).mono ?_
  rintro o w' ⟨t', rfl, h2, T⟩
  exact ⟨y, t', rfl, T.X.trans hX, h2, T.es, T.n, T.l, hy, hk⟩
/-- Put of what was not there. -/
theorem put_new (h : Apt W w l) (hi : l[i]? = some (obT t)) (hX : t.X = X) (e : En) (hy : ∀ y ∈ t.es, y.k ≠ e.k) (hm : t.es.length ≤ 1000000) : Calls Try.prog 12 #[.pointer (some ⟨X, 0, none⟩), .agg #[.int .i64 e.k, .int .i64 e.a, .int .i64 e.x, .int .i64 e.n]] w fun o w' => ∃ (t' : Tab), o = .returned (.tuple #[.agg #[.int .i64 0, .int .i64 0, .int .i64 0, .int .i64 0], .bool false]) ∧ Hid (t'.X = X) ∧ Hid (Apt W w' (l.set i (obT t'))) ∧ Hid (t'.es = t.es ++ [e]) ∧ Hid (t'.n = nN t.n t.l t.es.length) ∧ Hid (t'.l = lN t.n t.l t.es.length) := by
  refine (put_n h hi hX hy hm).mono ?_
  rintro o w' ⟨t', rfl, h2, T⟩
  exact ⟨t', rfl, T.X.trans hX, h2, T.es, T.n, T.l⟩
/-- Remove of what is there. -/
theorem rem_there (h : Apt W w l) (hi : l[i]? = some (obT t)) (hX : t.X = X) {r : En} (key : Int) (hr : r ∈ t.es ∧ r.k = key) (hm : t.es.length ≤ 1000000) : Calls Try.prog 14 #[.pointer (some ⟨X, 0, none⟩), .int .i64 key] w fun o w' => ∃ (t' : Tab), o = .returned (.tuple #[.agg #[.int .i64 r.k, .int .i64 r.a, .int .i64 r.x, .int .i64 r.n], .bool true]) ∧ Hid (t'.X = X) ∧ Hid (Apt W w' (l.set i (obT t'))) ∧ Hid (t'.es = dlt key t.es) ∧ Hid (t'.n = t.n) ∧ Hid (t'.l = t.l - 1) := by
  refine (rem_y h hi hX hr.1 hr.2 hm).mono ?_
  rintro o w' ⟨t', rfl, h2, T⟩
  exact ⟨t', rfl, T.X.trans hX, h2, T.es, T.n, T.l⟩
theorem rem_none (h : Apt W w l) (hi : l[i]? = some (obT t)) (hX : t.X = X) (key : Int) (hn : ∀ y ∈ t.es, y.k ≠ key) : Calls Try.prog 14 #[.pointer (some ⟨X, 0, none⟩), .int .i64 key] w fun o w' => ∃ (t' : Tab), o = .returned (.tuple #[.agg #[.int .i64 0, .int .i64 0, .int .i64 0, .int .i64 0], .bool false]) ∧ Hid (t'.X = X) ∧ Hid (Apt W w' (l.set i (obT t'))) ∧ Hid (t'.es = t.es) ∧ Hid (t'.n = t.n) ∧ Hid (t'.l = t.l - 1) := by
  refine (rem_n h hi hX hn).mono ?_
  rintro o w' ⟨t', rfl, h2, T⟩
  exact ⟨t', rfl, T.X.trans hX, h2, T.es, T.n, T.l⟩
/-- Put over what was there, which is told. -/
theorem put_there (h : Apt W w l) (hi : l[i]? = some (obT t)) (hX : t.X = X) (e : En) {r : En} (hr : r ∈ t.es ∧ r.k = e.k) : Calls Try.prog 12 #[.pointer (some ⟨X, 0, none⟩), .agg #[.int .i64 e.k, .int .i64 e.a, .int .i64 e.x, .int .i64 e.n]] w fun o w' => ∃ (t' : Tab), o = .returned (.tuple #[.agg #[.int .i64 r.k, .int .i64 r.a, .int .i64 r.x, .int .i64 r.n], .bool true]) ∧ Hid (t'.X = X) ∧ Hid (Apt W w' (l.set i (obT t'))) ∧ Hid (t'.es = t.es.map (ovr e)) ∧ Hid (t'.n = t.n) ∧ Hid (t'.l = t.l - 1) := by
  refine (put_y h hi hX hr.1 hr.2).mono ?_
  rintro o w' ⟨t', rfl, h2, T⟩
  exact ⟨t', rfl, T.X.trans hX, h2, T.es, T.n, T.l⟩
theorem setRow_alloc1 (w : World) (c c' : Array Value) (ty : TypeId) : (w.alloc (.cells c ty)).setRow w.heap.size c' = w.alloc (.cells c' ty) := by
  simp only [World.setRow, World.alloc]
  congr 1
  apply Array.ext_getElem?
  intro j
  rw [Array.getElem?_modify]
  by_cases h : w.heap.size = j
  · subst h; simp
  · rw [if_neg h]
    by_cases h2 : j < w.heap.size
    · simp [Array.getElem?_push, show j ≠ w.heap.size by omega]
    · rw [Array.getElem?_eq_none (by simp; omega), Array.getElem?_eq_none (by simp; omega)]
theorem en_block (h : Apt W w l) (v : Array Value) (ty : TypeId) : Apt W (w.alloc (.cells v ty)) (l ++ [obBlk w.heap.size ty v]) :=
  h.add ((Grown.refl _).alloc _ _) (blk_alloc_new _ _) fun k hk => by
    have hk : k = _ := hk
    rw [hk]; exact Nat.le_refl _
theorem sorted_one {p q : List En} (h : p.Perm q) (hp : p.Pairwise fun a b => a.k < b.k) (hq : q.Pairwise fun a b => a.k < b.k) : p = q :=
  List.Perm.eq_of_pairwise (fun a b _ _ h1 h2 => by omega) hp hq h
/-- The document's look at two rows of the same entries. -/
theorem same_g {p r : Option Addr} {n c d : Nat} {f : Nat → Value} {q : List En} (hf : f = enL q) (hp : Vec w 30 4 p n c f) (hq : Vec w 30 4 r n d f) (hn : n ≤ 1000000) :
    Calls Try.prog 27 #[.slice p n c, .slice r n d] w fun e w' => e = .returned (.bool true) ∧ ∃ m, w' = w.drewN m := by
  have hx : ((n : Int) != (n : Int)) = false := by simp
  subst hf
  go_enter Try.func27, Try.ntmps27
  go_wp2
  go_loopw [5] (fun i wr => ∃ k d : Nat, k ≤ n ∧ i = .int .i64 k ∧ wr = w.drewN d) (fun i _ => n - (intOf i).toNat)
  case atStart => exact ⟨0, 0, by omega, rfl, rfl⟩
  case round =>
    obtain ⟨k, m, hk, rfl, rfl⟩ := hrel
    by_cases hlt : k < n
    · obtain ⟨A, rfl, lA, hA, _, nA⟩ := hp.opens (by omega)
      obtain ⟨B, rfl, lB, hB, _, nB⟩ := hq.opens (by omega)
      obtain ⟨e, he⟩ : ∃ e, e = q.getD k e0 := ⟨_, rfl⟩
      have at4 : ∀ j, j < 4 → enL q (k * 4 + j) = (cs e).getD j undef := fun j hj => by
        unfold enL
        rw [show (k * 4 + j) / 4 = k by omega, show (k * 4 + j) % 4 = j by omega, ← he]
      have a0 : w.cell? ⟨A, k * 4, none⟩ = some (.int .i64 e.k) := (hA (k * 4) (by omega)).trans (congrArg some (at4 0 (by omega)))
      have a1 : w.cell? ⟨A, k * 4 + 1, none⟩ = some (.int .i64 e.a) := (hA (k * 4 + 1) (by omega)).trans (congrArg some (at4 1 (by omega)))
      have a2 : w.cell? ⟨A, k * 4 + 2, none⟩ = some (.int .i64 e.x) := (hA (k * 4 + 2) (by omega)).trans (congrArg some (at4 2 (by omega)))
      have a3 : w.cell? ⟨A, k * 4 + 3, none⟩ = some (.int .i64 e.n) := (hA (k * 4 + 3) (by omega)).trans (congrArg some (at4 3 (by omega)))
      have b0 : w.cell? ⟨B, k * 4, none⟩ = some (.int .i64 e.k) := (hB (k * 4) (by omega)).trans (congrArg some (at4 0 (by omega)))
      have b1 : w.cell? ⟨B, k * 4 + 1, none⟩ = some (.int .i64 e.a) := (hB (k * 4 + 1) (by omega)).trans (congrArg some (at4 1 (by omega)))
      have b2 : w.cell? ⟨B, k * 4 + 2, none⟩ = some (.int .i64 e.x) := (hB (k * 4 + 2) (by omega)).trans (congrArg some (at4 2 (by omega)))
      have b3 : w.cell? ⟨B, k * 4 + 3, none⟩ = some (.int .i64 e.n) := (hB (k * 4 + 3) (by omega)).trans (congrArg some (at4 3 (by omega)))
      have hd : decide ((k : Int) < (n : Int)) = true := by rw [decide_eq_true_eq]; omega
      clear hp hq hA hB he at4
      go_wp2
      go_quiet (fail)
      go_wp2
      go_roundw
      case rel => exact ⟨k + 1, _, by omega, by go_num, rfl⟩
      case measure => simp [intOf]; omega
    · obtain rfl : k = n := by omega
      have hd : decide ((k : Int) < (k : Int)) = false := by rw [decide_eq_false_iff_not]; omega
      go_wp2
      go_ret
      exact ⟨rfl, _, rfl⟩
theorem same_s {p r : Option Addr} {c d j : Nat} {q : List En} (h : Apt W w l) (hi : l[i]? = some (obE p c q)) (hj : l[j]? = some (obE r d q)) (hn : q.length ≤ 1000000) :
    Calls Try.prog 27 #[.slice p q.length c, .slice r q.length d] w fun e w' => e = .returned (.bool true) ∧ Hid (Apt W w' l) := by
  refine (same_g rfl (h.all i _ hi) (h.all j _ hj) hn).mono ?_
  rintro e w' ⟨rfl, m, rfl⟩
  exact ⟨rfl, h.drewN m⟩
end Go.Proofs.Ythjcdloaclailaa.Tb
