/-
  The document's stripes in memory: their struct, the row of their rings, the rings; what New and Place of package pantryref13 do when they are called. No condition but those told at each sentence.
-/
import Derived.Test.YtbboomhgigaobaaSpDrain
import Derived.Test.YtbboomhgigaobaaSpTake
import Derived.Test.YtbboomhgigaobaaSpNew
import Derived.Test.YtbboomhgigaobaaSpOffer
namespace Go.Proofs.Ytbboomhgigaobaa.Rn
open Go.RowKit Go.Deep

/-- Where the document's stripes lie. -/
structure Dp where
  Y : Nat
  k : Nat
  N : Nat
  seed : Int
  a : Nat → Nat
  p : Option Addr
  c : Nat
abbrev Ds := List ((Option Addr × Nat) × (List Int × Int))
def absD (ds : Ds) : St := ds.map (·.2)
def dpH (Y : Dp) (n : Nat) : Ob :=
  ⟨fun w => w.heap[Y.Y]? = some (.cells #[.slice Y.p Y.k Y.c, .int .i64 Y.seed] 51 (0, 0)) ∧ n = Y.k ∧ 1 ≤ Y.k ∧ Y.k ≤ 64, fun k => k = Y.Y,
    fun _ _ _ h o hd => ⟨(o.block Y.Y (lt_of h.1) (hd Y.Y rfl)).trans h.1, h.2⟩, fun _ _ h hk => by rw [hk]; exact lt_of h.1⟩
def dRings (a : Nat → Nat) (N : Nat) (ds : Ds) : List Ob := ds.mapIdx fun i s => obD (a i) N s.1.1 s.1.2 s.2.1 s.2.2
def dpL (Y : Dp) (ds : Ds) : List Ob := dpH Y ds.length :: obVec 52 1 Y.p Y.k Y.c (fun j => ptr (Y.a j)) :: dRings Y.a Y.N ds
def obDp (Y : Dp) (ds : Ds) : Ob := obPack (dpL Y ds)
variable {W w w' w2 : World} {l : List Ob} {i j k N : Nat} {Y : Dp} {ds : Ds} {st : St} {q q' : List Int} {L L' : Int} {p p' : Option Addr} {c c' : Nat}

theorem dp_at (hj : ds[j]? = some ((p, c), (q, L))) : (dpL Y ds)[j + 2]? = some (obD (Y.a j) Y.N p c q L) := by
  simp [dpL, dRings, List.getElem?_mapIdx, hj]
theorem dp_set : (dpL Y ds).set (j + 2) (obD (Y.a j) Y.N p' c' q' L') = dpL Y (ds.set j ((p', c'), (q', L'))) := by
  simp [dpL, dRings, List.mapIdx_set]
theorem absD_set : absD (ds.set j ((p', c'), (q', L'))) = (absD ds).set j (q', L') := by simp [absD, List.map_set]
theorem absD_at (hj : (absD ds)[j]? = some (q, L)) : ∃ p c, ds[j]? = some ((p, c), (q, L)) := by
  unfold absD at hj
  rw [List.getElem?_map] at hj
  obtain ⟨⟨⟨p, c⟩, s⟩, h1, h2⟩ := Option.map_eq_some_iff.1 hj
  exact ⟨p, c, by rw [h1]; have h2 : s = (q, L) := h2; rw [h2]⟩
theorem dp_head (h : Apt W w l) (hi : l[i]? = some (obDp Y ds)) : ds.length = Y.k ∧ 1 ≤ Y.k ∧ Y.k ≤ 64 ∧ ∃ B, Y.p = some ⟨B, 0, none⟩ ∧ w.cell? ⟨Y.Y, 0, none⟩ = some (.slice (some ⟨B, 0, none⟩) Y.k Y.c) ∧ w.cell? ⟨Y.Y, 1, none⟩ = some (.int .i64 Y.seed) ∧
    (∀ j, j < Y.k → w.cell? ⟨B, j, none⟩ = some (ptr (Y.a j))) ∧ Y.Y < w.heap.size ∧ B < w.heap.size := by
  have hP := (h.all i _ hi).1
  obtain ⟨h1, h2, h3, h4⟩ : (dpH Y ds.length).P w := hP 0 _ rfl
  have hv : Vec w 52 1 Y.p Y.k Y.c (fun j => ptr (Y.a j)) := hP 1 _ rfl
  obtain ⟨B, e, lB, cB, _, _⟩ := hv.opens (by omega)
  rw [e] at h1
  exact ⟨h2, h3, h4, B, e, cell_of h1 rfl, cell_of h1 rfl, fun j hj => cB j (by omega), lt_of h1, lB⟩
theorem dp_in (h : Apt W w l) (hi : l[i]? = some (obDp Y ds)) (hj : ds[j]? = some ((p, c), (q, L))) : Apt W w (l.set i obNo ++ dpL Y ds) ∧ (l.set i obNo ++ dpL Y ds)[l.length + (j + 2)]? = some (obD (Y.a j) Y.N p c q L) :=
  ⟨h.unpack hi, Apt.at_inner (dp_at hj)⟩
theorem dp_out (hi : l[i]? = some (obDp Y ds)) (h : Apt W w ((l.set i obNo ++ dpL Y ds).set (l.length + (j + 2)) (obD (Y.a j) Y.N p' c' q' L'))) : Apt W w (l.set i (obDp Y (ds.set j ((p', c'), (q', L'))))) := by
  have := Apt.outer hi h
  rwa [dp_set] at this
theorem dp_out1 {u : Ob} (hi : l[i]? = some (obDp Y ds)) (h : Apt W w ((l.set i obNo ++ dpL Y ds).set (l.length + (j + 2)) (obD (Y.a j) Y.N p' c' q' L') ++ [u])) : Apt W w (l.set i (obDp Y (ds.set j ((p', c'), (q', L')))) ++ [u]) := by
  have := Apt.outer1 hi h
  rwa [dp_set] at this
theorem roffer_r (h : Apt W w l) (hi : l[i]? = some (obDp Y ds)) (hj : ds[j]? = some ((p, c), (q, L))) (n : Int) (hm : Y.N ≤ 4096) (hq : q.length ≤ Y.N) (hL : 0 ≤ L ∧ L ≤ 1000000) :
    Calls Try.prog 31 #[ptr (Y.a j), .int .i64 n] w fun e w' => ∃ p' c', e = .returned (.bool (decide (q.length < Y.N))) ∧ Apt W w' (l.set i (obDp Y (ds.set j ((p', c'), (offQ Y.N q n, offL Y.N q L))))) := by
  obtain ⟨h1, h2⟩ := dp_in h hi hj
  refine (roffer_s h1 h2 n hm hq hL).mono ?_
  rintro e w' ⟨p', c', rfl, h3⟩
  exact ⟨p', c', rfl, dp_out hi h3⟩
theorem rtake_r (h : Apt W w l) (hi : l[i]? = some (obDp Y ds)) (hj : ds[j]? = some ((p, c), (q, L))) (hm : q.length ≤ 4096) :
    Calls Try.prog 29 #[ptr (Y.a j)] w fun e w' => ∃ p' c', e = .returned (.tuple #[.int .i64 (q.getD 0 0), .bool (decide (0 < q.length))]) ∧ Apt W w' (l.set i (obDp Y (ds.set j ((p', c'), (q.tail, L))))) := by
  obtain ⟨h1, h2⟩ := dp_in h hi hj
  refine (rtake_s h1 h2 hm).mono ?_
  rintro e w' ⟨p', c', rfl, h3⟩
  exact ⟨p', c', rfl, dp_out hi h3⟩
theorem rdrain_r (h : Apt W w l) (hi : l[i]? = some (obDp Y ds)) (hj : ds[j]? = some ((p, c), (q, L))) :
    Calls Try.prog 30 #[ptr (Y.a j)] w fun e w' => e = .returned (.slice p q.length c) ∧ Apt W w' (l.set i (obDp Y (ds.set j ((none, 0), ([], L)))) ++ [obV p c q]) := by
  obtain ⟨h1, h2⟩ := dp_in h hi hj
  refine (rdrain_s h1 h2).mono ?_
  rintro e w' ⟨rfl, h3⟩
  exact ⟨rfl, dp_out1 hi h3⟩
theorem dring_cells (h : Apt W w l) (hi : l[i]? = some (obDp Y ds)) (hj : ds[j]? = some ((p, c), (q, L))) : w.cell? ⟨Y.a j, 1, none⟩ = some (.slice p q.length c) ∧ w.cell? ⟨Y.a j, 2, none⟩ = some (.int .i64 L) ∧ Y.a j < w.heap.size := by
  obtain ⟨h1, h2⟩ := dp_in h hi hj
  have k : Rr w (Y.a j) Y.N p c q L := h1.all _ _ h2
  exact ⟨k.cells.2.1, k.cells.2.2, lt_of k.head⟩
theorem rplace_s (h : Apt W w l) (hi : l[i]? = some (obDp Y ds)) (t : Int) : Calls Try.prog 18 #[ptr Y.Y, .int .i64 t] w fun e w' => e = .returned (.int .i64 (ofT Y.seed Y.k t : Int)) ∧ ∃ m, w' = w.drewN m := by
  obtain ⟨_, k1, k2, B, _, c0, c1, _⟩ := dp_head h hi
  obtain ⟨_, e⟩ := ofT_lt Y.seed t k1
  have mx := fun w => refMix_any Y.seed t w
  have ix := fun w => refIndex_any (mixB Y.seed t) 0 (Y.k : Int) w (by omega)
  rw [e] at ix
  clear h e
  unfold ptr
  go_enter Try.func18, Try.ntmps18
  go_wp2
  go_quiet (first
    | (go_at_call 35; exact Calls.quiet_of_same (mx _))
    | (go_at_call 34; exact Calls.quiet_of_same (ix _)))
  go_wp2
  go_ret
  exact ⟨rfl, _, rfl⟩
theorem roffer_p (h : Apt W w l) (hi : l[i]? = some (obDp Y ds)) (t n : Int) (hj : (absD ds)[ofT Y.seed Y.k t]? = some (q, L)) (hm : Y.N ≤ 4096) (hq : q.length ≤ Y.N) (hL : 0 ≤ L ∧ L ≤ 1000000) :
    Calls Try.prog 16 #[ptr Y.Y, .int .i64 t, .int .i64 n] w fun e w' => ∃ ds', e = .returned (.bool (decide (q.length < Y.N))) ∧ absD ds' = (absD ds).set (ofT Y.seed Y.k t) (offQ Y.N q n, offL Y.N q L) ∧ Apt W w' (l.set i (obDp Y ds')) := by
  obtain ⟨_, k1, k2, B, eB, c0, _, cR, lS, lR⟩ := dp_head h hi
  obtain ⟨e1, _⟩ := ofT_lt Y.seed t k1
  obtain ⟨p, c, hj⟩ := absD_at hj
  have pc := fun w2 (g : Grown w w2) => rplace_s (h.more g) hi t
  have of := fun w2 (g : Grown w w2) => roffer_r (h.more g) hi hj n hm hq hL
  have cj := cR _ e1
  obtain ⟨y, hy⟩ : ∃ y, Hid (y = ofT Y.seed Y.k t) := ⟨_, rfl⟩
  rw [← hy.out] at pc of cj e1 ⊢
  obtain ⟨D, hD⟩ : ∃ D : Option Addr → Nat → List Ob, Hid (D = fun p' c' => l.set i (obDp Y (ds.set y ((p', c'), (offQ Y.N q n, offL Y.N q L))))) := ⟨_, rfl⟩
  have of : ∀ w2, Grown w w2 → Calls Try.prog 31 #[ptr (Y.a y), .int .i64 n] w2 fun e w' => ∃ p' c', e = .returned (.bool (decide (q.length < Y.N))) ∧ Apt W w' (D p' c') := by rw [hD.out]; exact of
  have hlt : Hid (i < l.length) := (List.getElem?_eq_some_iff.1 hi).1
  have hmx : Try.prog.follows .mixedOrders = true := by kernel_rfl
  clear h cR hj hq hL hm hi
  unfold ptr at *
  go_enter Try.func16, Try.ntmps16
  go_wp2
  refine region_fill [6, 7, 8, 10, 11] [(7, .pointer (some ⟨Y.Y, 0, none⟩)), (8, .pointer (some ⟨Y.Y, 0, none⟩)), (9, .pointer (some ⟨Y.Y, 0, none⟩)), (10, .slice (some ⟨B, 0, none⟩) Y.k Y.c), (11, .pointer (some ⟨Y.Y, 0, none⟩)), (12, .int .i64 t), (16, .int .i64 n)] hmx (by kernel_rfl) (by kernel_rfl) ?_
  simp only [fills, Act.put, List.setIfInBounds_toArray, List.set_cons_zero, List.set_cons_succ]
  refine flow_ent (some 13) 18 #[.pointer (some ⟨Y.Y, 0, none⟩), .int .i64 t] _ rfl rfl ?run (by go_simp) ((pc _ (Grown.refl _).drew).mono ?_)
  case run =>
    clear pc of
    intro i o ho hi
    iterate 12 (rcases i with _ | i; · first | (exact absurd hi (by decide)) | (cases ho; go_simp))
    cases ho
  rintro e w1 ⟨rfl, m, hw1⟩
  refine ⟨_, rfl, ?_⟩
  simp only [Act.put, List.setIfInBounds_toArray, List.set_cons_zero, List.set_cons_succ]
  have g1 : Grown w w1 := by rw [hw1]; exact grownDrewN (Grown.refl _).drew m
  have c0 : w1.cell? ⟨Y.Y, 0, none⟩ = some (.slice (some ⟨B, 0, none⟩) Y.k Y.c) := by rw [hw1]; exact c0
  have cj : w1.cell? ⟨B, y, none⟩ = some (.pointer (some ⟨Y.a y, 0, none⟩)) := by rw [hw1]; exact cj
  have lR : B < w1.heap.size := by rw [hw1]; exact lR
  have lS : Y.Y < w1.heap.size := by rw [hw1]; exact lS
  clear hw1
  have hyk : (0 : Int) ≤ (y : Int) := Int.natCast_nonneg y
  have hyk2 : (y : Int) < (Y.k : Int) := by omega
  refine flow_val (some 14) (.pointer (some ⟨B, y, none⟩)) w1 _ rfl rfl ?run (by go_simp) ?_
  case run =>
    clear pc of
    intro i o ho hi
    iterate 12 (rcases i with _ | i; · first | (exact absurd hi (by decide)) | (cases ho; go_simp))
    cases ho
  simp only [Act.put, List.setIfInBounds_toArray, List.set_cons_zero, List.set_cons_succ]
  refine flow_val (some 15) (.pointer (some ⟨Y.a y, 0, none⟩)) w1 _ rfl rfl ?run (by go_simp) ?_
  case run =>
    clear pc of
    intro i o ho hi
    iterate 12 (rcases i with _ | i; · first | (exact absurd hi (by decide)) | (cases ho; go_simp))
    cases ho
  simp only [Act.put, List.setIfInBounds_toArray, List.set_cons_zero, List.set_cons_succ]
  refine flow_ent (some 17) 31 #[.pointer (some ⟨Y.a y, 0, none⟩), .int .i64 n] _ rfl rfl ?run ?ent ((of _ g1).mono ?_)
  case run =>
    clear pc of
    intro i o ho hi
    iterate 12 (rcases i with _ | i; · first | (exact absurd hi (by decide)) | (cases ho; go_simp))
    cases ho
  case ent => go_simp
  rintro e w2 ⟨p', c', rfl, h2⟩
  refine ⟨_, rfl, ?_⟩
  simp only [Act.put, List.setIfInBounds_toArray, List.set_cons_zero, List.set_cons_succ]
  have c2 : w2.cell? ⟨Y.Y, 0, none⟩ = some (.slice (some ⟨B, 0, none⟩) Y.k Y.c) := by
    have k := h2
    rw [hD.out] at k
    obtain ⟨_, _, _, B', e', c', _⟩ := dp_head k (by rw [List.getElem?_set_self hlt.out])
    have e2 := e'.symm.trans eB
    cases e2
    exact c'
  have lS2 := cell_lt c2
  have h2 : Hid (Apt W w2 (D p' c')) := h2
  clear c0 cj of pc g1 lS lR
  refine flow_val (some 6) (.bool (decide (q.length < Y.N))) w2 _ rfl rfl ?run (by go_simp) ?_
  case run =>
    clear h2 hD hy hlt
    intro i o ho hi
    iterate 12 (rcases i with _ | i; · first | (exact absurd hi (by decide)) | (cases ho; go_simp))
    cases ho
  simp only [Act.put, List.setIfInBounds_toArray, List.set_cons_zero, List.set_cons_succ]
  show Exit.then _ _ Exit.normal _ _
  clear c2 lS2
  go_wp2
  go_ret
  refine ⟨ds.set y ((p', c'), (offQ Y.N q n, offL Y.N q L)), rfl, absD_set, ?_⟩
  have := h2.out
  rw [hD.out] at this
  exact this
end Go.Proofs.Ytbboomhgigaobaa.Rn
