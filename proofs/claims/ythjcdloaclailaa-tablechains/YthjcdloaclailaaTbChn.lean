/-
  Chains when no old buckets are left: which keys stand in them, how many. No condition but those told at each sentence.
-/
import Derived.Test.YthjcdloaclailaaTbRows
namespace Go.Proofs.Ythjcdloaclailaa.Tb
open Go.RowKit Go.Deep Us
variable {W w w' : World} {t t' : Tab} {key : Int} {e y : En} {l : List Ob} {i X : Nat}

theorem kAt_zero (h : Shape t) (h0 : t.l = 0) {b : Nat} (hb : b < t.n) : t.kAt (b : Int) = kz (t.c b) := by
  have h8 := h.lo
  have : b % (t.n / 2) < t.n / 2 := Nat.mod_lt _ (by omega)
  unfold Tab.kAt
  rw [h0, if_pos ⟨by omega, by omega, by show ¬ (t.n / 2 ≤ b % (t.n / 2) + 0); omega⟩]
  rfl
def sumC (t : Tab) (b : Nat) : Nat := ((List.range b).flatMap fun j => t.c j).length
theorem sumC_succ (t : Tab) (b : Nat) : sumC t (b + 1) = sumC t b + (kz (t.c b)).length := by
  unfold sumC kz
  rw [List.range_succ, List.flatMap_append]
  simp
theorem sumC_all (h : Shape t) (hn : (t.D.map (·.1)).Nodup) : sumC t t.n = t.es.length := by
  unfold sumC
  rw [(flat_perm h hn).length_eq, es_len]
theorem kz_mem {l : List Lk} {key : Int} (h : key ∈ kz l) : ∃ x ∈ l, x.2.k = key := List.mem_map.1 h
theorem key_place (h : Shape t) (h0 : t.l = 0) {b : Nat} (hb : b < t.n) {x : Lk} (hx : x ∈ t.c b) : ub t.s x.2.k % t.n = b ∧ x.2 ∈ t.es := by
  obtain ⟨h1, h2⟩ := h.mem b hb x hx
  have h8 := h.lo
  have h3 : ub t.s x.2.k % (t.n / 2) < t.n / 2 := Nat.mod_lt _ (by omega)
  unfold pl at h2
  rw [h0, if_neg (by omega)] at h2
  exact ⟨h2, List.mem_map_of_mem h1⟩
/-- Put, whatever there is. -/
theorem put_any (h : Apt W w l) (hi : l[i]? = some (obT t)) (hX : t.X = X) (e : En) (hm : t.es.length ≤ 1000000) : Calls Try.prog 12 #[.pointer (some ⟨X, 0, none⟩), .agg #[.int .i64 e.k, .int .i64 e.a, .int .i64 e.x, .int .i64 e.n]] w fun o w' => ∃ v b t', o = .returned (.tuple #[v, b]) ∧ Hid (t'.X = X) ∧ Hid (Apt W w' (l.set i (obT t'))) ∧ Hid (t'.es.length ≤ t.es.length + 1 ∧ t'.n ≤ max t.n (2 * t.es.length) ∧ t'.s = t.s) := by
  rcases es_or t.es e.k with ⟨y, hy, hk⟩ | hn
  · refine (put_y h hi hX hy hk).mono ?_
    rintro o w' ⟨t', rfl, h2, T⟩
    refine ⟨_, _, t', rfl, T.X.trans hX, h2, by rw [T.es, map_len]; omega, by rw [T.n]; omega, T.s⟩
  · refine (put_n h hi hX hn hm).mono ?_
    rintro o w' ⟨t', rfl, h2, T⟩
    refine ⟨_, _, t', rfl, T.X.trans hX, h2, by rw [T.es, List.length_append]; simp, ?_, T.s⟩
    rw [T.n]
    unfold nN
    split <;> omega
theorem rem_some (h : Apt W w l) (hi : l[i]? = some (obT t)) (hX : t.X = X) (key : Int) (hm : t.es.length ≤ 1000000) : Calls Try.prog 14 #[.pointer (some ⟨X, 0, none⟩), .int .i64 key] w fun o w' => ∃ v b t', o = .returned (.tuple #[v, b]) ∧ Hid (t'.X = X) ∧ Hid (Apt W w' (l.set i (obT t'))) ∧ Hid (t'.es.length ≤ t.es.length ∧ t'.n = t.n ∧ t'.l = t.l - 1 ∧ t'.s = t.s) := by
  rcases es_or t.es key with ⟨y, hy, hk⟩ | hn
  · refine (rem_y h hi hX hy hk hm).mono ?_
    rintro o w' ⟨t', rfl, h2, T⟩
    exact ⟨_, _, t', rfl, T.X.trans hX, h2, by rw [T.es]; exact dlt_le _ _, T.n, T.l, T.s⟩
  · refine (rem_n h hi hX hn).mono ?_
    rintro o w' ⟨t', rfl, h2, T⟩
    exact ⟨_, _, t', rfl, T.X.trans hX, h2, by rw [T.es]; exact Nat.le_refl _, T.n, T.l, T.s⟩
theorem get_some (h : Apt W w l) (hi : l[i]? = some (obT t)) (hX : t.X = X) (hy : y ∈ t.es) : Calls Try.prog 16 #[.pointer (some ⟨X, 0, none⟩), .int .i64 y.k] w fun o w' => o = .returned (.tuple #[.agg #[.int .i64 y.k, .int .i64 y.a, .int .i64 y.x, .int .i64 y.n], .bool true]) ∧ Hid (Apt W w' l) := get_y h hi hX hy rfl
theorem chain_e (h : Apt W w l) (hi : l[i]? = some (obT t)) (hX : t.X = X) (hm : t.es.length ≤ 1000000) (b : Int) : Calls Try.prog 24 #[.pointer (some ⟨X, 0, none⟩), .int .i64 b] w fun e w' => ∃ p c, e = .returned (.slice p (t.kAt b).length c) ∧ Hid (Apt W w' (l ++ [obV p c (t.kAt b)])) := by
  subst hX
  exact chain_s h hi (by rw [es_len]; exact hm) b
end Go.Proofs.Ythjcdloaclailaa.Tb
