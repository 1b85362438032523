/-
  Stripes in memory: their struct, the row of their rings, the rings; what a call on one ring leaves of them, and what Place, Len, Lost, Lens, Offer, Take and Drain of package stripes do when they are called. Conditions: numbers of the lost up to a million.
-/
import Derived.Test.YtbboomhgigaobaaRgSep
import Derived.Test.YtbboomhgigaobaaGenPack
import Derived.Test.YtbboomhgigaobaaMixWalks
namespace Go.Proofs.Ytbboomhgigaobaa.Rn
open Go.RowKit Go.Deep

/-- Where stripes lie: their struct, the row of their rings, how many, the size of each, the seed, the rings. -/
structure Sp where
  S : Nat
  R : Nat
  k : Nat
  N : Nat
  seed : Int
  b : Nat → Nat
abbrev St := List (List Int × Int)
def spH (X : Sp) (n : Nat) : Ob :=
  ⟨fun w => w.heap[X.S]? = some (.cells #[.slice (some ⟨X.R, 0, none⟩) X.k X.k, .int .i64 X.seed] 48 (0, 0)) ∧ n = X.k ∧ 1 ≤ X.k ∧ X.k ≤ 64, fun k => k = X.S,
    fun _ _ _ h o hd => ⟨(o.block X.S (lt_of h.1) (hd X.S rfl)).trans h.1, h.2⟩, fun _ _ h hk => by rw [hk]; exact lt_of h.1⟩
def spV (X : Sp) (j : Nat) : Value := .iface 43 (ptr (X.b j + 1))
def spL (X : Sp) (st : St) : List Ob := spH X st.length :: obVec 46 1 (some ⟨X.R, 0, none⟩) X.k X.k (spV X) :: st.mapIdx fun i s => obR (X.b i) X.N s.1 s.2
def obSp (X : Sp) (st : St) : Ob := obPack (spL X st)
variable {W w w' : World} {l : List Ob} {i j : Nat} {X : Sp} {st : St} {q q' : List Int} {L L' : Int}

theorem sp_at (hj : st[j]? = some (q, L)) : (spL X st)[j + 2]? = some (obR (X.b j) X.N q L) := by
  simp [spL, List.getElem?_mapIdx, hj]
theorem sp_set : (spL X st).set (j + 2) (obR (X.b j) X.N q' L') = spL X (st.set j (q', L')) := by
  simp [spL, List.mapIdx_set]
theorem sp_head (h : Apt W w l) (hi : l[i]? = some (obSp X st)) : st.length = X.k ∧ 1 ≤ X.k ∧ X.k ≤ 64 ∧ w.cell? ⟨X.S, 0, none⟩ = some (.slice (some ⟨X.R, 0, none⟩) X.k X.k) ∧ w.cell? ⟨X.S, 1, none⟩ = some (.int .i64 X.seed) ∧
    (∀ j, j < X.k → w.cell? ⟨X.R, j, none⟩ = some (spV X j)) ∧ X.S < w.heap.size ∧ X.R < w.heap.size := by
  have hP := (h.all i _ hi).1
  obtain ⟨h1, h2, h3, h4⟩ : (spH X st.length).P w := hP 0 _ rfl
  have hv : Vec w 46 1 (some ⟨X.R, 0, none⟩) X.k X.k (spV X) := hP 1 _ rfl
  obtain ⟨B, e, lB, cB, _, _⟩ := hv.opens (by omega)
  cases e
  exact ⟨h2, h3, h4, cell_of h1 rfl, cell_of h1 rfl, fun j hj => cB j (by omega), lt_of h1, lB⟩
theorem sp_in (h : Apt W w l) (hi : l[i]? = some (obSp X st)) (hj : st[j]? = some (q, L)) : Apt W w (l.set i obNo ++ spL X st) ∧ (l.set i obNo ++ spL X st)[l.length + (j + 2)]? = some (obR (X.b j) X.N q L) :=
  ⟨h.unpack hi, Apt.at_inner (sp_at hj)⟩
theorem sp_out (hi : l[i]? = some (obSp X st)) (h : Apt W w ((l.set i obNo ++ spL X st).set (l.length + (j + 2)) (obR (X.b j) X.N q' L'))) : Apt W w (l.set i (obSp X (st.set j (q', L')))) := by
  have := Apt.outer hi h
  rwa [sp_set] at this
theorem sp_out1 {u : Ob} (hi : l[i]? = some (obSp X st)) (h : Apt W w ((l.set i obNo ++ spL X st).set (l.length + (j + 2)) (obR (X.b j) X.N q' L') ++ [u])) : Apt W w (l.set i (obSp X (st.set j (q', L'))) ++ [u]) := by
  have := Apt.outer1 hi h
  rwa [sp_set] at this
theorem sp_room (h : Apt W w l) (hi : l[i]? = some (obSp X st)) (hj : st[j]? = some (q, L)) : q.length ≤ X.N ∧ X.N ≤ 4096 ∧ 0 < X.N := by
  obtain ⟨h1, h2⟩ := sp_in h hi hj
  exact room h1 h2
theorem offer_r (h : Apt W w l) (hi : l[i]? = some (obSp X st)) (hj : st[j]? = some (q, L)) (n : Int) (hL : 0 ≤ L ∧ L ≤ 1000000) :
    Calls Try.prog 63 #[ptr (X.b j + 1), .int .i64 n] w fun e w' => e = .returned (.bool (decide (q.length < X.N))) ∧ Apt W w' (l.set i (obSp X (st.set j (offQ X.N q n, offL X.N q L)))) := by
  obtain ⟨h1, h2⟩ := sp_in h hi hj
  refine (offer_s h1 h2 n hL).mono ?_
  rintro e w' ⟨rfl, h3⟩
  exact ⟨rfl, sp_out hi h3⟩
theorem take_r (h : Apt W w l) (hi : l[i]? = some (obSp X st)) (hj : st[j]? = some (q, L)) :
    Calls Try.prog 64 #[ptr (X.b j + 1)] w fun e w' => e = .returned (.tuple #[.int .i64 (q.getD 0 0), .bool (decide (0 < q.length))]) ∧ Apt W w' (l.set i (obSp X (st.set j (q.tail, L)))) := by
  obtain ⟨h1, h2⟩ := sp_in h hi hj
  refine (take_s h1 h2).mono ?_
  rintro e w' ⟨rfl, h3⟩
  exact ⟨rfl, sp_out hi h3⟩
theorem drain_r (h : Apt W w l) (hi : l[i]? = some (obSp X st)) (hj : st[j]? = some (q, L)) :
    Calls Try.prog 60 #[ptr (X.b j + 1)] w fun e w' => ∃ p c, e = .returned (.slice p q.length c) ∧ Apt W w' (l.set i (obSp X (st.set j ([], L))) ++ [obV p c q]) := by
  obtain ⟨h1, h2⟩ := sp_in h hi hj
  refine (drain_s h1 h2).mono ?_
  rintro e w' ⟨p, c, rfl, h3⟩
  exact ⟨p, c, rfl, sp_out1 hi h3⟩
theorem len_r (h : Apt W w l) (hi : l[i]? = some (obSp X st)) (hj : st[j]? = some (q, L)) : Calls Try.prog 61 #[ptr (X.b j + 1)] w fun e w' => e = .returned (.int .i64 (q.length : Int)) ∧ w' = w := by
  obtain ⟨h1, h2⟩ := sp_in h hi hj
  exact len_s h1 h2
theorem lost_r (h : Apt W w l) (hi : l[i]? = some (obSp X st)) (hj : st[j]? = some (q, L)) : Calls Try.prog 62 #[ptr (X.b j + 1)] w fun e w' => e = .returned (.int .i64 L) ∧ w' = w := by
  obtain ⟨h1, h2⟩ := sp_in h hi hj
  exact lost_s h1 h2
/-- The place of a thread's ring. -/
def ofT (seed : Int) (k : Nat) (t : Int) : Nat := (indexI (mixB seed t) 0 (k : Int)).toNat
theorem ofT_lt (seed t : Int) {k : Nat} (h : 1 ≤ k) : ofT seed k t < k ∧ indexI (mixB seed t) 0 (k : Int) = (ofT seed k t : Int) := by
  have := index_bd (mixB seed t) 0 (k : Int) (by omega)
  unfold ofT
  omega
theorem place_s (h : Apt W w l) (hi : l[i]? = some (obSp X st)) (t : Int) : Calls Try.prog 17 #[ptr X.S, .int .i64 t] w fun e w' => e = .returned (.int .i64 (ofT X.seed X.k t : Int)) ∧ ∃ m, w' = w.drewN m := by
  obtain ⟨_, k1, k2, c0, c1, _⟩ := sp_head h hi
  obtain ⟨_, e⟩ := ofT_lt X.seed t k1
  have mx := fun w => mix_any X.seed t w
  have ix := fun w => index_any (mixB X.seed t) 0 (X.k : Int) w (by omega)
  rw [e] at ix
  clear h e
  unfold ptr
  go_enter Try.func17, Try.ntmps17
  go_wp2
  go_quiet (first
    | (go_at_call 33; exact Calls.quiet_of_same (mx _))
    | (go_at_call 32; exact Calls.quiet_of_same (ix _)))
  go_wp2
  go_ret
  exact ⟨rfl, _, rfl⟩
end Go.Proofs.Ytbboomhgigaobaa.Rn
