/-
  What each call makes of a table beside other objects, whatever is there. No condition but those told at each sentence.
-/
import Derived.Test.YthjcdloaclailaaTbEs
namespace Go.Proofs.Ythjcdloaclailaa.Tb
open Go.RowKit Go.Deep Us
variable {W w w' : World} {t t' : Tab} {key : Int} {e y : En} {l : List Ob} {i X : Nat}

theorem es_or (q : List En) (key : Int) : (∃ y ∈ q, y.k = key) ∨ ∀ y ∈ q, y.k ≠ key := by
  by_cases h : ∃ y ∈ q, y.k = key
  · exact .inl h
  · exact .inr fun y hy e => h ⟨y, hy, e⟩
theorem dlt_le (key : Int) (q : List En) : (dlt key q).length ≤ q.length := List.length_filter_le _ _
/-- Remove, whatever there is: how many there are then, at most; buckets. -/
theorem rem_any (h : Apt W w l) (hi : l[i]? = some (obT t)) (hX : t.X = X) (key : Int) (hm : t.es.length ≤ 1000000) : Calls Try.prog 14 #[.pointer (some ⟨X, 0, none⟩), .int .i64 key] w fun o w' => ∃ v b t', o = .returned (.tuple #[v, b]) ∧ Hid (t'.X = X) ∧ Hid (Apt W w' (l.set i (obT t'))) ∧ Hid (t'.es.length ≤ t.es.length) ∧ Hid (t'.n = t.n) ∧ Hid (t'.l = t.l - 1) := by
  rcases es_or t.es key with ⟨y, hy, hk⟩ | hn
  · refine (rem_y h hi hX hy hk hm).mono ?_
    rintro o w' ⟨t', rfl, h2, T⟩
    exact ⟨_, _, t', rfl, T.X.trans hX, h2, by show _ ≤ _; rw [T.es]; exact dlt_le _ _, T.n, T.l⟩
  · refine (rem_n h hi hX hn).mono ?_
    rintro o w' ⟨t', rfl, h2, T⟩
    exact ⟨_, _, t', rfl, T.X.trans hX, h2, by show _ ≤ _; rw [T.es]; exact Nat.le_refl _, T.n, T.l⟩
theorem map_len (e : En) (q : List En) : (q.map (ovr e)).length = q.length := List.length_map _
/-- Put over what was there. -/
theorem put_over (h : Apt W w l) (hi : l[i]? = some (obT t)) (hX : t.X = X) (e : En) (hy : ∃ y ∈ t.es, y.k = e.k) : Calls Try.prog 12 #[.pointer (some ⟨X, 0, none⟩), .agg #[.int .i64 e.k, .int .i64 e.a, .int .i64 e.x, .int .i64 e.n]] w fun o w' => ∃ (r : En) (t' : Tab), o = .returned (.tuple #[.agg #[.int .i64 r.k, .int .i64 r.a, .int .i64 r.x, .int .i64 r.n], .bool true]) ∧ Hid (t'.X = X) ∧ Hid (Apt W w' (l.set i (obT t'))) ∧ Hid (t'.es = t.es.map (ovr e)) ∧ Hid (t'.n = t.n) ∧ Hid (t'.l = t.l - 1) ∧ Hid (r ∈ t.es ∧ r.k = e.k) := by
  obtain ⟨y, hy, hk⟩ := hy
  refine (put_y h hi hX hy hk).mono ?_
  rintro o w' ⟨t', rfl, h2, T⟩
  exact ⟨y, t', rfl, T.X.trans hX, h2, T.es, T.n, T.l, hy, hk⟩
/-- Put of what was not there. -/
theorem put_new (h : Apt W w l) (hi : l[i]? = some (obT t)) (hX : t.X = X) (e : En) (hy : ∀ y ∈ t.es, y.k ≠ e.k) (hm : t.es.length ≤ 1000000) : Calls Try.prog 12 #[.pointer (some ⟨X, 0, none⟩), .agg #[.int .i64 e.k, .int .i64 e.a, .int .i64 e.x, .int .i64 e.n]] w fun o w' => ∃ (t' : Tab), o = .returned (.tuple #[.agg #[.int .i64 0, .int .i64 0, .int .i64 0, .int .i64 0], .bool false]) ∧ Hid (t'.X = X) ∧ Hid (Apt W w' (l.set i (obT t'))) ∧ Hid (t'.es = t.es ++ [e]) ∧ Hid (t'.n = nN t.n t.l t.es.length) ∧ Hid (t'.l = lN t.n t.l t.es.length) := by
  refine (put_n h hi hX hy hm).mono ?_
  rintro o w' ⟨t', rfl, h2, T⟩
  exact ⟨t', rfl, T.X.trans hX, h2, T.es, T.n, T.l⟩
end Go.Proofs.Ythjcdloaclailaa.Tb
