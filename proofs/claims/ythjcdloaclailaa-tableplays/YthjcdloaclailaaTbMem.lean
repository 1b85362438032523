/-
  A table in memory: its struct at block X, its row of buckets at block B, its links in blocks of their own; chains by what stands at each place; what the functions that only tell do when they are called. No condition but those told at each sentence.
-/
import Derived.Test.YthjcdloaclailaaGenUse
import Derived.Test.YthjcdloaclailaaMixWalks
namespace Go.Proofs.Ythjcdloaclailaa.Tb
open Go.RowKit Go.Deep Us

/-- An entry. -/
structure En where
  k : Int
  a : Int
  x : Int
  n : Int
def En.v (e : En) : Value := .agg #[.int .i64 e.k, .int .i64 e.a, .int .i64 e.x, .int .i64 e.n]
def e0 : En := ⟨0, 0, 0, 0⟩
/-- A link: its block, its entry. -/
abbrev Lk := Nat × En
def lnkC (e : En) (v : Value) : Array Value := #[.int .i64 e.k, .int .i64 e.a, .int .i64 e.x, .int .i64 e.n, v]
def nx : List Lk → Value
  | [] => .pointer none
  | x :: _ => .pointer (some ⟨x.1, 0, none⟩)
def Linked (val : Addr → Value) : Addr → List Lk → Prop
  | p, [] => val p = .pointer none
  | p, x :: r => val p = .pointer (some ⟨x.1, 0, none⟩) ∧ Linked val ⟨x.1, 4, none⟩ r
def Seg (val : Addr → Value) : Addr → List Lk → Prop
  | _, [] => True
  | p, x :: r => val p = .pointer (some ⟨x.1, 0, none⟩) ∧ Seg val ⟨x.1, 4, none⟩ r
def endA : Addr → List Lk → Addr
  | p, [] => p
  | _, x :: r => endA ⟨x.1, 4, none⟩ r
theorem linked_app {val : Addr → Value} : ∀ (a b : List Lk) (p : Addr), Linked val p (a ++ b) ↔ Seg val p a ∧ Linked val (endA p a) b
  | [], b, p => by simp [Seg, endA]
  | x :: r, b, p => by simp [Seg, endA, Linked, linked_app r b, and_assoc]
theorem seg_app {val : Addr → Value} : ∀ (a b : List Lk) (p : Addr), Seg val p (a ++ b) ↔ Seg val p a ∧ Seg val (endA p a) b
  | [], b, p => by simp [Seg, endA]
  | x :: r, b, p => by simp [Seg, endA, seg_app r b, and_assoc]
theorem endA_app : ∀ (a b : List Lk) (p : Addr), endA p (a ++ b) = endA (endA p a) b
  | [], _, _ => rfl
  | x :: r, b, p => by simp [endA, endA_app r b]
theorem linked_first {val : Addr → Value} {p : Addr} {l : List Lk} (h : Linked val p l) : val p = nx l := by
  cases l with
  | nil => exact h
  | cons x r => exact h.1
theorem endA_at : ∀ (l : List Lk) (p : Addr), endA p l = p ∧ l = [] ∨ ∃ x ∈ l, endA p l = ⟨x.1, 4, none⟩
  | [], p => .inl ⟨rfl, rfl⟩
  | x :: r, p => by
    right
    rcases endA_at r ⟨x.1, 4, none⟩ with ⟨h, _⟩ | ⟨y, hy, h⟩
    · exact ⟨x, by simp, h⟩
    · exact ⟨y, by simp [hy], h⟩
theorem linked_congr {val val' : Addr → Value} : ∀ (l : List Lk) (p : Addr), val' p = val p → (∀ x ∈ l, val' ⟨x.1, 4, none⟩ = val ⟨x.1, 4, none⟩) → Linked val p l → Linked val' p l
  | [], p, h, _, hl => h.trans hl
  | x :: r, p, h, hx, hl => ⟨h.trans hl.1, linked_congr r _ (hx x (by simp)) (fun y hy => hx y (by simp [hy])) hl.2⟩
theorem seg_congr {val val' : Addr → Value} : ∀ (l : List Lk) (p : Addr), val' p = val p → (∀ x ∈ l, val' ⟨x.1, 4, none⟩ = val ⟨x.1, 4, none⟩) → Seg val p l → Seg val' p l
  | [], _, _, _, _ => trivial
  | x :: r, p, h, hx, hl => ⟨h.trans hl.1, seg_congr r _ (hx x (by simp)) (fun y hy => hx y (by simp [hy])) hl.2⟩
/-- What stands at a place turns. -/
def upd (val : Addr → Value) (a : Addr) (v : Value) (b : Addr) : Value := if b = a then v else val b
theorem upd_self (val : Addr → Value) (a : Addr) (v : Value) : upd val a v a = v := by simp [upd]
theorem upd_ne {val : Addr → Value} {a b : Addr} {v : Value} (h : b ≠ a) : upd val a v b = val b := by simp [upd, h]
theorem seg_end {val : Addr → Value} (v : Value) : ∀ (l : List Lk) (p : Addr), (∀ x ∈ l, p ≠ ⟨x.1, 4, none⟩) → (l.map (·.1)).Nodup → Seg val p l → Seg (upd val (endA p l) v) p l
  | [], _, _, _, _ => trivial
  | x :: r, p, hp, hn, hl => by
    simp only [List.map_cons, List.nodup_cons] at hn
    refine ⟨?_, ?_⟩
    · rw [← hl.1]
      refine upd_ne fun e => ?_
      rcases endA_at (x :: r) p with ⟨_, h⟩ | ⟨y, hy, h⟩
      · cases h
      · exact hp y hy (e.trans h)
    · refine seg_end v r _ (fun y hy e => hn.1 ?_) hn.2 hl.2
      rw [show x.1 = y.1 from congrArg Addr.block e]
      exact List.mem_map_of_mem hy
/-- The place of a key, among n buckets where l old ones are left. -/
def ub (s k : Int) : Nat := (turnB (mixB s k) 0).toNat
def pl (s : Int) (n l : Nat) (k : Int) : Nat := if n / 2 ≤ ub s k % (n / 2) + l then ub s k % (n / 2) else ub s k % n
theorem index_nat (s k : Int) (n : Nat) (h : 1 ≤ n) : indexI (mixB s k) 0 (n : Int) = ((ub s k % n : Nat) : Int) := by
  unfold indexI ub U
  rw [if_neg (by omega)]
  simp
theorem pl_lt {s k : Int} {n l : Nat} (h : 2 ≤ n) : pl s n l k < n := by
  unfold pl
  split
  · have : ub s k % (n / 2) < n / 2 := Nat.mod_lt _ (by omega)
    omega
  · exact Nat.mod_lt _ (by omega)
theorem ub_half (s k : Int) {n : Nat} (h : n % 2 = 0) : ub s k % n % (n / 2) = ub s k % (n / 2) := by
  obtain ⟨m, rfl⟩ : ∃ m, n = 2 * m := ⟨n / 2, by omega⟩
  have e : 2 * m / 2 = m := by omega
  rw [e, Nat.mod_mod_of_dvd _ ⟨2, by omega⟩]

def Hd (w : World) (X B : Nat) (s : Int) (n l m : Nat) : Prop := w.heap[X]? = some (.cells #[.int .i64 s, .slice (some ⟨B, 0, none⟩) n n, .int .i64 (l : Int), .int .i64 (m : Int)] 54 (0, 0))
structure Mem (w : World) (X B : Nat) (s : Int) (n l m : Nat) (D : List Lk) (val : Addr → Value) : Prop where
  head : Hd w X B s n l m
  row : ∃ cur, w.heap[B]? = some (.cells cur 57 (0, 0)) ∧ cur.size = n ∧ ∀ j, j < n → cur[j]? = some (val ⟨B, j, none⟩)
  lnk : ∀ x ∈ D, w.heap[x.1]? = some (.cells (lnkC x.2 (val ⟨x.1, 4, none⟩)) 59 (0, 0))
  nd : (D.map (·.1)).Nodup
  xb : X ≠ B
  sep : ∀ x ∈ D, x.1 ≠ X ∧ x.1 ≠ B
/-- The places where a chain's pointers stand. -/
def At (B n : Nat) (D : List Lk) (a : Addr) : Prop := (∃ j, j < n ∧ a = ⟨B, j, none⟩) ∨ ∃ x ∈ D, a = ⟨x.1, 4, none⟩
def foot (X B : Nat) (D : List Lk) (k : Nat) : Prop := k = X ∨ k = B ∨ ∃ x ∈ D, x.1 = k
variable {w w' : World} {X B : Nat} {s key : Int} {n l m : Nat} {D : List Lk} {val val' : Addr → Value} {a : Addr}
theorem Hd.cells (h : Hd w X B s n l m) : w.cell? ⟨X, 0, none⟩ = some (.int .i64 s) ∧ w.cell? ⟨X, 1, none⟩ = some (.slice (some ⟨B, 0, none⟩) n n) ∧ w.cell? ⟨X, 2, none⟩ = some (.int .i64 (l : Int)) ∧ w.cell? ⟨X, 3, none⟩ = some (.int .i64 (m : Int)) :=
  ⟨cell_of h rfl, cell_of h rfl, cell_of h rfl, cell_of h rfl⟩
theorem nodup_same {D : List Lk} (h : (D.map (·.1)).Nodup) {x y : Lk} (hx : x ∈ D) (hy : y ∈ D) (e : x.1 = y.1) : x = y := by
  induction D with
  | nil => cases hx
  | cons z r ih =>
    simp only [List.map_cons, List.nodup_cons] at h
    rcases List.mem_cons.1 hx with rfl | hx' <;> rcases List.mem_cons.1 hy with rfl | hy'
    · rfl
    · exact absurd (e ▸ List.mem_map_of_mem hy') h.1
    · exact absurd (e ▸ List.mem_map_of_mem hx') h.1
    · exact ih h.2 hx' hy'
namespace Mem
theorem lt (h : Mem w X B s n l m D val) {k : Nat} (hk : foot X B D k) : k < w.heap.size := by
  rcases hk with rfl | rfl | ⟨x, hx, rfl⟩
  · exact lt_of h.head
  · obtain ⟨cur, hc, _⟩ := h.row
    exact lt_of hc
  · exact lt_of (h.lnk x hx)
theorem keep (h : Mem w X B s n l m D val) (hk : ∀ i, foot X B D i → w'.heap[i]? = w.heap[i]?) : Mem w' X B s n l m D val :=
  ⟨(hk _ (.inl rfl)).trans h.head, by obtain ⟨cur, hc, hr⟩ := h.row; exact ⟨cur, (hk _ (.inr (.inl rfl))).trans hc, hr⟩, fun x hx => (hk _ (.inr (.inr ⟨x, hx, rfl⟩))).trans (h.lnk x hx), h.nd, h.xb, h.sep⟩
theorem out {F : Nat → Prop} (h : Mem w X B s n l m D val) (o : Out F w w') (hF : ∀ i, foot X B D i → ¬ F i) : Mem w' X B s n l m D val := h.keep fun i hi => o.block i (h.lt hi) (hF i hi)
theorem grown (h : Mem w X B s n l m D val) (g : Grown w w') : Mem w' X B s n l m D val := h.keep fun _ hi => grown_block g (h.lt hi)
theorem drewN (h : Mem w X B s n l m D val) (k : Nat) : Mem (w.drewN k) X B s n l m D val := h.grown (grownDrewN (Grown.refl _) _)
theorem cell (h : Mem w X B s n l m D val) (ha : At B n D a) : w.cell? a = some (val a) ∧ w.frozen? a = false ∧ a.block < w.heap.size := by
  rcases ha with ⟨j, hj, rfl⟩ | ⟨x, hx, rfl⟩
  · obtain ⟨cur, hc, hs, hr⟩ := h.row
    exact ⟨cell_of hc (hr j hj), fr0 hc j, lt_of hc⟩
  · have hc := h.lnk x hx
    exact ⟨cell_of hc rfl, fr0 hc 4, lt_of hc⟩
theorem foot_at (ha : At B n D a) : foot X B D a.block := by
  rcases ha with ⟨j, _, rfl⟩ | ⟨x, hx, rfl⟩
  · exact .inr (.inl rfl)
  · exact .inr (.inr ⟨x, hx, rfl⟩)
theorem outW (o : Out (foot X B D) w w') (ha : At B n D a) (v : Value) : Out (foot X B D) w (w'.setCell a v) := o.setCell (foot_at ha) v
/-- A place is written. -/
theorem set (h : Mem w X B s n l m D val) (ha : At B n D a) (v : Value) : Mem (w.setCell a v) X B s n l m D (upd val a v) := by
  have other : ∀ k, k ≠ a.block → (w.setCell a v).heap[k]? = w.heap[k]? := fun k hk => blk_setCell_other _ _ _ _ hk
  have hX : X ≠ a.block := by
    rcases ha with ⟨j, _, rfl⟩ | ⟨x, hx, rfl⟩
    · exact h.xb
    · exact fun e => (h.sep x hx).1 e.symm
  refine ⟨(other X hX).trans h.head, ?_, ?_, h.nd, h.xb, h.sep⟩
  · obtain ⟨cur, hc, hs, hr⟩ := h.row
    rcases ha with ⟨j, hj, rfl⟩ | ⟨x, hx, rfl⟩
    · refine ⟨_, blk_set hc j v, by simpa using hs, fun i hi => ?_⟩
      rw [Array.getElem?_setIfInBounds]
      by_cases e : j = i
      · subst e
        rw [if_pos rfl, if_pos (by omega), upd_self]
      · rw [if_neg e, hr i hi, upd_ne (fun q => e (congrArg Addr.off q).symm)]
    · refine ⟨cur, (other B (fun e => (h.sep x hx).2 e.symm)).trans hc, hs, fun i hi => ?_⟩
      rw [hr i hi, upd_ne (fun q => (h.sep x hx).2 (congrArg Addr.block q).symm)]
  · intro y hy
    rcases ha with ⟨j, hj, rfl⟩ | ⟨x, hx, rfl⟩
    · rw [upd_ne (fun q => (h.sep y hy).2 (congrArg Addr.block q))]
      exact (other y.1 (h.sep y hy).2).trans (h.lnk y hy)
    · by_cases e : y.1 = x.1
      · obtain rfl := nodup_same h.nd hy hx e
        rw [upd_self, blk_set (h.lnk y hy) 4 v]
        simp [lnkC]
      · rw [upd_ne (fun q => e (congrArg Addr.block q))]
        exact (other y.1 e).trans (h.lnk y hy)
theorem setL (h : Mem w X B s n l m D val) (l' : Nat) : Mem (w.setCell ⟨X, 2, none⟩ (.int .i64 (l' : Int))) X B s n l' m D val := by
  refine ⟨by have := blk_set h.head 2 (.int .i64 (l' : Int)); exact this, ?_, fun x hx => (blk_setCell_other _ _ _ _ (h.sep x hx).1).trans (h.lnk x hx), h.nd, h.xb, h.sep⟩
  obtain ⟨cur, hc, hr⟩ := h.row
  exact ⟨cur, (blk_setCell_other _ _ _ _ (fun e => h.xb e.symm)).trans hc, hr⟩
theorem setM (h : Mem w X B s n l m D val) (m' : Nat) : Mem (w.setCell ⟨X, 3, none⟩ (.int .i64 (m' : Int))) X B s n l m' D val := by
  refine ⟨by have := blk_set h.head 3 (.int .i64 (m' : Int)); exact this, ?_, fun x hx => (blk_setCell_other _ _ _ _ (h.sep x hx).1).trans (h.lnk x hx), h.nd, h.xb, h.sep⟩
  obtain ⟨cur, hc, hr⟩ := h.row
  exact ⟨cur, (blk_setCell_other _ _ _ _ (fun e => h.xb e.symm)).trans hc, hr⟩
theorem valCongr (h : Mem w X B s n l m D val) (hr : ∀ j, j < n → val' ⟨B, j, none⟩ = val ⟨B, j, none⟩) (hl : ∀ x ∈ D, val' ⟨x.1, 4, none⟩ = val ⟨x.1, 4, none⟩) : Mem w X B s n l m D val' :=
  ⟨h.head, by obtain ⟨cur, hc, hs, hv⟩ := h.row; exact ⟨cur, hc, hs, fun j hj => by rw [hr j hj]; exact hv j hj⟩, fun x hx => by rw [hl x hx]; exact h.lnk x hx, h.nd, h.xb, h.sep⟩
end Mem
theorem half_h (h : Hd w X B s n l m) (hn : n ≤ 131072) : Calls Try.prog 39 #[ptr X] w fun e w' => e = .returned (.int .i64 ((n / 2 : Nat) : Int)) ∧ w' = w := by
  obtain ⟨c0, c1, c2, c3⟩ := h.cells
  have hb := lt_of h
  have hw : wrap64 ((n : Int) / 2) = (n : Int) / 2 := IntWalk.wrap64_in _ ⟨by omega, by omega⟩
  clear h
  unfold ptr
  go_enter Try.func39, Try.ntmps39
  go_wp2
  go_ret
  exact ⟨ret_i (by omega), rfl⟩
theorem isLeft_h (h : Hd w X B s n l m) (hl : l ≤ n / 2) (hn : n ≤ 131072) (o : Nat) : Calls Try.prog 38 #[ptr X, .int .i64 (o : Int)] w fun e w' => e = .returned (.bool (decide (n / 2 ≤ o + l))) ∧ ∃ k, w' = w.drewN k := by
  obtain ⟨c0, c1, c2, c3⟩ := h.cells
  have hb := lt_of h
  have hh := fun (k : Nat) => half_h (w := w.drewN k) (h : Hd (w.drewN k) X B s n l m) hn
  have hw : wrap64 (((n / 2 : Nat) : Int) - (l : Int)) = ((n / 2 : Nat) : Int) - (l : Int) := IntWalk.wrap64_in _ ⟨by omega, by omega⟩
  generalize hN : n / 2 = N at *
  clear h
  unfold ptr at *
  go_enter Try.func38, Try.ntmps38
  go_wp2
  go_quiet (first | (go_at_call 39; exact Calls.quiet_of_same (hh _)))
  go_wp2
  go_ret
  exact ⟨congrArg (fun b => Ending.returned (.bool b)) (decide_eq_decide.2 (by omega)), _, rfl⟩
theorem place_h (h : Hd w X B s n l m) (hl : l ≤ n / 2) (hn : n ≤ 131072) (h2 : 2 ≤ n) (key : Int) : Calls Try.prog 46 #[ptr X, .int .i64 key] w fun e w' => e = .returned (.int .i64 ((pl s n l key : Nat) : Int)) ∧ ∃ k, w' = w.drewN k := by
  obtain ⟨c0, c1, c2, c3⟩ := h.cells
  have hb := lt_of h
  have hh := half_h h hn
  have hi := isLeft_h h hl hn
  have e1 := index_nat s key (n / 2) (by omega)
  have e2 := index_nat s key n (by omega)
  have hp : pl s n l key = if n / 2 ≤ ub s key % (n / 2) + l then ub s key % (n / 2) else ub s key % n := rfl
  have lt1 : ub s key % (n / 2) < n / 2 := Nat.mod_lt _ (by omega)
  have lt2 : ub s key % n < n := Nat.mod_lt _ (by omega)
  generalize hN : n / 2 = N at *
  generalize ub s key % N = u1 at *
  generalize ub s key % n = u2 at *
  generalize pl s n l key = p at *
  obtain ⟨H, hH⟩ : ∃ H, H = mixB s key := ⟨_, rfl⟩
  have i1 := fun W => mix_any s key W
  rw [← hH] at e1 e2 i1
  clear h hH
  unfold ptr at *
  by_cases e : N ≤ u1 + l
  · rw [if_pos e] at hp
    have hd : decide (N ≤ u1 + l) = true := decide_eq_true e
    go_enter Try.func46, Try.ntmps46
    go_wp2_with (first | (go_at_call 30; refine (i1 _).mono ?_; rintro e w' ⟨rfl, rfl⟩) | (go_at_call 29; refine (index_any _ _ _ _ (by omega)).mono ?_; rintro e w' ⟨rfl, rfl⟩) | (go_at_call 39; refine hh.mono ?_; rintro e w' ⟨rfl, rfl⟩) | (go_at_call 38; refine (hi _).mono ?_; rintro e w' ⟨rfl, k, rfl⟩))
    go_ret
    rw [hp]
    exact ⟨rfl, _, rfl⟩
  · rw [if_neg e] at hp
    have hd : decide (N ≤ u1 + l) = false := decide_eq_false e
    go_enter Try.func46, Try.ntmps46
    go_wp2_with (first | (go_at_call 30; refine (i1 _).mono ?_; rintro e w' ⟨rfl, rfl⟩) | (go_at_call 29; refine (index_any _ _ _ _ (by omega)).mono ?_; rintro e w' ⟨rfl, rfl⟩) | (go_at_call 39; refine hh.mono ?_; rintro e w' ⟨rfl, rfl⟩) | (go_at_call 38; refine (hi _).mono ?_; rintro e w' ⟨rfl, k, rfl⟩))
    go_ret
    rw [hp]
    exact ⟨rfl, _, rfl⟩
theorem len_h (h : Hd w X B s n l m) : Calls Try.prog 18 #[ptr X] w fun e w' => e = .returned (.int .i64 (m : Int)) ∧ w' = w := by
  obtain ⟨c0, c1, c2, c3⟩ := h.cells
  have hb := lt_of h
  clear h
  unfold ptr
  go_enter Try.func18, Try.ntmps18
  go_wp2
  go_ret
  exact ⟨rfl, rfl⟩
theorem left_h (h : Hd w X B s n l m) : Calls Try.prog 21 #[ptr X] w fun e w' => e = .returned (.int .i64 (l : Int)) ∧ w' = w := by
  obtain ⟨c0, c1, c2, c3⟩ := h.cells
  have hb := lt_of h
  clear h
  unfold ptr
  go_enter Try.func21, Try.ntmps21
  go_wp2
  go_ret
  exact ⟨rfl, rfl⟩
theorem buckets_h (h : Hd w X B s n l m) : Calls Try.prog 20 #[ptr X] w fun e w' => e = .returned (.int .i64 (n : Int)) ∧ w' = w := by
  obtain ⟨c0, c1, c2, c3⟩ := h.cells
  have hb := lt_of h
  clear h
  unfold ptr
  go_enter Try.func20, Try.ntmps20
  go_wp2
  go_ret
  exact ⟨rfl, rfl⟩
end Go.Proofs.Ythjcdloaclailaa.Tb
