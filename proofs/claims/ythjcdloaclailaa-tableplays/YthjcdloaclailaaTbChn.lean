/-
  Chains when no old buckets are left: which keys stand in them, how many. No condition but those told at each sentence.
-/
import Derived.Test.YthjcdloaclailaaTbRows
namespace Go.Proofs.Ythjcdloaclailaa.Tb
open Go.RowKit Go.Deep Us
variable {W w w' : World} {t t' : Tab} {key : Int} {e y : En} {l : List Ob} {i X : Nat}

theorem kAt_zero (h : Shape t) (h0 : t.l = 0) {b : Nat} (hb : b < t.n) : t.kAt (b : Int) = kz (t.c b) := by
  have h8 := h.lo
  have : b % (t.n / 2) < t.n / 2 := Nat.mod_lt _ (by omega)
  unfold Tab.kAt
  rw [h0, if_pos ⟨by omega, by omega, by show ¬ (t.n / 2 ≤ b % (t.n / 2) + 0); omega⟩]
  rfl
def sumC (t : Tab) (b : Nat) : Nat := ((List.range b).flatMap fun j => t.c j).length
theorem sumC_succ (t : Tab) (b : Nat) : sumC t (b + 1) = sumC t b + (kz (t.c b)).length := by
  unfold sumC kz
  rw [List.range_succ, List.flatMap_append]
  simp
theorem sumC_all (h : Shape t) (hn : (t.D.map (·.1)).Nodup) : sumC t t.n = t.es.length := by
  unfold sumC
  rw [(flat_perm h hn).length_eq, es_len]
theorem kz_mem {l : List Lk} {key : Int} (h : key ∈ kz l) : ∃ x ∈ l, x.2.k = key := List.mem_map.1 h
theorem key_place (h : Shape t) (h0 : t.l = 0) {b : Nat} (hb : b < t.n) {x : Lk} (hx : x ∈ t.c b) : ub t.s x.2.k % t.n = b ∧ x.2 ∈ t.es := by
  obtain ⟨h1, h2⟩ := h.mem b hb x hx
  have h8 := h.lo
  have h3 : ub t.s x.2.k % (t.n / 2) < t.n / 2 := Nat.mod_lt _ (by omega)
  unfold pl at h2
  rw [h0, if_neg (by omega)] at h2
  exact ⟨h2, List.mem_map_of_mem h1⟩
/-- Put, whatever there is. -/
theorem put_any (h : Apt W w l) (hi : l[i]? = some (obT t)) (hX : t.X = X) (e : En) (hm : t.es.length ≤ 1000000) : Calls Try.prog 12 #[.pointer (some ⟨X, 0, none⟩), .agg #[.int .i64 e.k, .int .i64 e.a, .int .i64 e.x, .int .i64 e.n]] w fun o w' => ∃ v b t', o = .returned (.tuple #[v, b]) ∧ Hid (t'.X = X) ∧ Hid (Apt W w' (l.set i (obT t'))) ∧ Hid (t'.es.length ≤ t.es.length + 1 ∧ t'.n ≤ max t.n (2 * t.es.length) ∧ t'.s = t.s) := by
  rcases es_or t.es e.k with ⟨y, hy, hk⟩ | hn
  · refine (put_y h hi hX hy hk).mono ?_
    rintro o w' ⟨t', rfl, h2, T⟩
    refine ⟨_, _, t', rfl, T.X.trans hX, h2, by rw [T.es, map_len]; omega, by rw [T.n]; omega, T.s⟩
  · refine (put_n h hi hX hn hm).mono ?_
    rintro o w' ⟨t', rfl, h2, T⟩
    refine ⟨_, _, t', rfl, T.X.trans hX, h2, by rw [T.es, List.length_append]; simp, ?_, T.s⟩
    rw [T.n]
    unfold nN
    split <;> omega
theorem rem_some (h : Apt W w l) (hi : l[i]? = some (obT t)) (hX : t.X = X) (key : Int) (hm : t.es.length ≤ 1000000) : Calls Try.prog 14 #[.pointer (some ⟨X, 0, none⟩), .int .i64 key] w fun o w' => ∃ v b t', o = .returned (.tuple #[v, b]) ∧ Hid (t'.X = X) ∧ Hid (Apt W w' (l.set i (obT t'))) ∧ Hid (t'.es.length ≤ t.es.length ∧ t'.n = t.n ∧ t'.l = t.l - 1 ∧ t'.s = t.s) := by
  rcases es_or t.es key with ⟨y, hy, hk⟩ | hn
  · refine (rem_y h hi hX hy hk hm).mono ?_
    rintro o w' ⟨t', rfl, h2, T⟩
    exact ⟨_, _, t', rfl, T.X.trans hX, h2, by rw [T.es]; exact dlt_le _ _, T.n, T.l, T.s⟩
  · refine (rem_n h hi hX hn).mono ?_
    rintro o w' ⟨t', rfl, h2, T⟩
    exact ⟨_, _, t', rfl, T.X.trans hX, h2, by rw [T.es]; exact Nat.le_refl _, T.n, T.l, T.s⟩
theorem get_some (h : Apt W w l) (hi : l[i]? = some (obT t)) (hX : t.X = X) (hy : y ∈ t.es) : Calls Try.prog 16 #[.pointer (some ⟨X, 0, none⟩), .int .i64 y.k] w fun o w' => o = .returned (.tuple #[.agg #[.int .i64 y.k, .int .i64 y.a, .int .i64 y.x, .int .i64 y.n], .bool true]) ∧ Hid (Apt W w' l) := get_y h hi hX hy rfl
theorem chain_e (h : Apt W w l) (hi : l[i]? = some (obT t)) (hX : t.X = X) (hm : t.es.length ≤ 1000000) (b : Int) : Calls Try.prog 24 #[.pointer (some ⟨X, 0, none⟩), .int .i64 b] w fun e w' => ∃ p c, e = .returned (.slice p (t.kAt b).length c) ∧ Hid (Apt W w' (l ++ [obV p c (t.kAt b)])) := by
  subst hX
  exact chain_s h hi (by rw [es_len]; exact hm) b
theorem rep_kAt (h : Shape t) (hn : (t.D.map (·.1)).Nodup) {x : Lk} (hx : x ∈ t.D) (hk : x.2.k = e.k) (h0 : t.l = 0) (v : Addr → Value) (b : Int) : ((t.nxt v).rep x.1 e).kAt b = t.kAt b := by
  unfold Tab.kAt
  have e1 : ((t.nxt v).rep x.1 e).n = t.n := rfl
  have e2 : ((t.nxt v).rep x.1 e).l = t.l := by show t.l - 1 = t.l; omega
  rw [e1, e2]
  split
  · rename_i q
    show kz ((if t.l = 0 then t.c else t.mvC) b.toNat |>.map (rep x.1 e)) = kz (t.c b.toNat)
    rw [if_pos h0]
    unfold kz
    rw [List.map_map]
    refine List.map_congr_left fun z hz => ?_
    exact rep_key hn hx hk.symm z (h.mem b.toNat (by omega) z hz).1
  · rfl
/-- Put over what was there, when no old buckets are left: chains keep their keys. -/
theorem put_keep (h : Apt W w l) (hi : l[i]? = some (obT t)) (hX : t.X = X) (e : En) {r : En} (hr : r ∈ t.es ∧ r.k = e.k) (h0 : t.l = 0) : Calls Try.prog 12 #[.pointer (some ⟨X, 0, none⟩), .agg #[.int .i64 e.k, .int .i64 e.a, .int .i64 e.x, .int .i64 e.n]] w fun o w' => ∃ (t' : Tab), o = .returned (.tuple #[.agg #[.int .i64 r.k, .int .i64 r.a, .int .i64 r.x, .int .i64 r.n], .bool true]) ∧ Hid (t'.X = X) ∧ Hid (Apt W w' (l.set i (obT t'))) ∧ Hid (e ∈ t'.es ∧ t'.n = t.n ∧ t'.es.length = t.es.length ∧ ∀ b, t'.kAt b = t.kAt b) := by
  obtain ⟨x, hx, rfl⟩ := es_mem hr.1
  subst hX
  have ht : Tb w t := h.all i _ hi
  refine (put_yes_s h hi hx hr.2).mono ?_
  rintro o w' ⟨v, rfl, h2⟩
  have T := rep_es ht.sh ht.mem.nd hx hr.2 v
  refine ⟨(t.nxt v).rep x.1 e, rfl, rfl, h2, ?_, rfl, by rw [T.es, map_len], rep_kAt ht.sh ht.mem.nd hx hr.2 h0 v⟩
  rw [T.es]
  refine List.mem_map.2 ⟨x.2, hr.1, ?_⟩
  unfold ovr
  rw [if_pos hr.2]
/-- A row of slices. -/
def obW (p : Option Addr) (n c : Nat) (f : Nat → Value) : Ob := obVec 39 1 p n c f
theorem infoSl : (Try.prog.info? 39).map (fun i => (i.zero, i.size, i.bytes)) = some (some (.slice none 0 0), 1, 24) := by kernel_rfl
theorem appended_w {p p' : Option Addr} {n c c' : Nat} {f : Nat → Value} {x : Value} {tmp : Array Value} {y : TypeId} {w2 : World} (h : Apt W w l) (hi : l[i]? = some (obW p n c f)) (hv : Vec w2 39 1 p' (n + 1) c' (fun j => if j < n * 1 then f j else x)) (o : Out (In p) (w.alloc (.cells tmp y)) w2)
    (hp : p' = p ∨ p' = some ⟨(w.alloc (.cells tmp y)).heap.size, 0, none⟩) : Apt W w2 (l.set i (obW p' (n + 1) c' (fun j => if j < n then f j else x))) := by
  have g : Grown w (w.alloc (.cells tmp y)) := (Grown.refl w).alloc _ _
  refine h.upd hi (hv.congr fun j _ => by rw [Nat.mul_one]) ⟨Out.after g o, fun k hk => ?_⟩
  rcases hp with rfl | rfl
  · exact .inl hk
  · have hk : In (some ⟨(w.alloc (.cells tmp y)).heap.size, 0, none⟩) k := hk
    rw [hk.eq, nblk_alloc]; exact .inr (by omega)
end Go.Proofs.Ythjcdloaclailaa.Tb
