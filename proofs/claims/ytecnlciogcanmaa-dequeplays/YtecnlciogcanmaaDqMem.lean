/-
  Lists of package deque in memory: the struct, its slice of rows, its map, rows and elements; what newRow, addLast, remove, has, mayBe and mayWeigh do when they are called.
-/
import Derived.Test.YtecnlciogcanmaaDqMath
import Derived.BigQuiet
import Derived.Deep.RegionWith
import Derived.Deep.RegionHeld3
import Derived.Deep.RegionLaw
namespace Go.Proofs.Ytecnlciogcanmaa
open Go.RowKit Go.Deep

theorem blk_set_same {w : World} {b : Nat} {c : Array Value} {t : TypeId} {f : Nat × Nat} (h : w.heap[b]? = some (.cells c t f)) (k : Nat) (v : Value) : (w.setCell ⟨b, k, none⟩ v).heap[b]? = some (.cells (c.setIfInBounds k v) t f) := by
  simp [World.setCell, Array.getElem?_modify, h]
theorem cell_of {w : World} {b : Nat} {c : Array Value} {t : TypeId} {f : Nat × Nat} (h : w.heap[b]? = some (.cells c t f)) {k : Nat} {v : Value} (hk : c[k]? = some v) : w.cell? ⟨b, k, none⟩ = some v := by
  simp only [World.cell?, h]; simp [hk]
theorem froz_of {w : World} {b : Nat} {c : Array Value} {t : TypeId} (h : w.heap[b]? = some (.cells c t (0, 0))) (k : Nat) : w.frozen? ⟨b, k, none⟩ = false := by simp [World.frozen?, h]
theorem lt_of {w : World} {b : Nat} {o : Obj} (h : w.heap[b]? = some o) : b < w.heap.size := (Array.getElem?_eq_some_iff.1 h).1

theorem drew3 (w : World) : w.drew.drew.drew = w.drewN 3 := rfl
def elC (x : El) : Array Value := #[.int .i64 x.id, .int .i64 x.wt, .int .i64 x.ls, ptr x.pv, ptr x.nx]
def ElOn (w : World) (b : Nat) (x : El) : Prop := w.heap[b]? = some (.cells (elC x) 59 (0, 0))
def RwOn (w : World) (r h : Nat) (W L : Int) : Prop := w.heap[r]? = some (.cells #[ptr h, .int .i64 W, .int .i64 L] 65 (0, 0))
variable {w w' : World} {b r h p e : Nat} {x y : El} {W L : Int}
theorem RwOn.ne (hr : RwOn w r h W L) (hb : ElOn w b x) : r ≠ b := fun e => by
  unfold RwOn at hr
  unfold ElOn at hb
  rw [e, hb] at hr
  cases hr
theorem ElOn.keep (hb : ElOn w b x) (hk : w'.heap[b]? = w.heap[b]?) : ElOn w' b x := hk.trans hb
theorem RwOn.keep (hb : RwOn w r h W L) (hk : w'.heap[r]? = w.heap[r]?) : RwOn w' r h W L := hk.trans hb
theorem ElOn.other (hb : ElOn w b x) {k : Nat} (hk : b ≠ p) (v : Value) : ElOn (w.setCell ⟨p, k, none⟩ v) b x := (blk_setCell_other _ _ _ _ hk).trans hb
theorem RwOn.other (hb : RwOn w r h W L) {k : Nat} (hk : r ≠ p) (v : Value) : RwOn (w.setCell ⟨p, k, none⟩ v) r h W L := (blk_setCell_other _ _ _ _ hk).trans hb
theorem ElOn.setWt (hb : ElOn w b x) (p : Nat) (v : Int) : ElOn (w.setCell ⟨p, 1, none⟩ (.int .i64 v)) b (if b = p then { x with wt := v } else x) := by
  by_cases e : b = p
  · subst e; rw [if_pos rfl]; exact blk_set_same hb 1 _
  · rw [if_neg e]; exact hb.other e _
theorem ElOn.setLs (hb : ElOn w b x) (p : Nat) (v : Int) : ElOn (w.setCell ⟨p, 2, none⟩ (.int .i64 v)) b (if b = p then { x with ls := v } else x) := by
  by_cases e : b = p
  · subst e; rw [if_pos rfl]; exact blk_set_same hb 2 _
  · rw [if_neg e]; exact hb.other e _
theorem ElOn.setPv (hb : ElOn w b x) (p c : Nat) : ElOn (w.setCell ⟨p, 3, none⟩ (ptr c)) b { x with pv := if b = p then c else x.pv } := by
  by_cases e : b = p
  · subst e; rw [if_pos rfl]; exact blk_set_same hb 3 _
  · rw [if_neg e]; exact hb.other e _
theorem ElOn.setNx (hb : ElOn w b x) (p c : Nat) : ElOn (w.setCell ⟨p, 4, none⟩ (ptr c)) b { x with nx := if b = p then c else x.nx } := by
  by_cases e : b = p
  · subst e; rw [if_pos rfl]; exact blk_set_same hb 4 _
  · rw [if_neg e]; exact hb.other e _
theorem RwOn.setWt (hb : RwOn w r h W L) (v : Int) : RwOn (w.setCell ⟨r, 1, none⟩ (.int .i64 v)) r h v L := blk_set_same hb 1 _
theorem RwOn.setLen (hb : RwOn w r h W L) (v : Int) : RwOn (w.setCell ⟨r, 2, none⟩ (.int .i64 v)) r h W v := blk_set_same hb 2 _

theorem newRow_m (w : World) :
    Calls Try.prog 28 #[] w fun e w' => e = .returned (ptr (w.heap.size + 1)) ∧ ElOn w' w.heap.size ⟨0, 0, 0, w.heap.size, w.heap.size⟩ ∧ RwOn w' (w.heap.size + 1) w.heap.size 0 0 ∧ Grown w w' := by
  go_enter Try.func28, Try.ntmps28
  go_wp2
  go_ret
  exact ⟨rfl, heap2_old _ _ _, heap2_new _ _ _, ((Grown.refl _).alloc _ _).alloc _ _⟩

theorem mayBe_m (id : Int) (w : World) :
    Calls Try.prog 30 #[.int .i64 id] w fun e w' => e = .returned (.bool (decide (1 ≤ id ∧ id ≤ 65536))) ∧ w' = w := by
  have hc : id < 1 ∨ (1 ≤ id ∧ id ≤ 65536) ∨ (1 ≤ id ∧ 65536 < id) := by omega
  rcases hc with h | ⟨h, h'⟩ | ⟨h, h'⟩
  all_goals
    go_enter Try.func30, Try.ntmps30
    go_wp2
    go_ret
    exact ⟨ret_b (by simp; try omega), rfl⟩
theorem mayWeigh_m (id : Int) (w : World) :
    Calls Try.prog 31 #[.int .i64 id] w fun e w' => e = .returned (.bool (decide (0 ≤ id ∧ id ≤ 2147483648))) ∧ w' = w := by
  have hc : id < 0 ∨ (0 ≤ id ∧ id ≤ 2147483648) ∨ (0 ≤ id ∧ 2147483648 < id) := by omega
  rcases hc with h | ⟨h, h'⟩ | ⟨h, h'⟩
  all_goals
    go_enter Try.func31, Try.ntmps31
    go_wp2
    go_ret
    exact ⟨ret_b (by simp; try omega), rfl⟩

set_option maxHeartbeats 1000000 in
theorem addLast_r {id we ls : Int} {v3 v4 : Value} (hr : RwOn w r h W L) (hh : ElOn w h x) (hx : x.pv = p) (hp : ElOn w p y) (he : w.heap[e]? = some (.cells #[.int .i64 id, .int .i64 we, .int .i64 ls, v3, v4] 59 (0, 0))) (heh : e ≠ h) (hep : e ≠ p)
    (hW : 0 ≤ W ∧ W ≤ 140737488355328) (hwe : 0 ≤ we ∧ we ≤ 2147483648) (hL : 0 ≤ L ∧ L ≤ 65536) :
    Calls Try.prog 32 #[ptr r, ptr e] w fun e' w' => e' = .returned (.tuple #[]) ∧ ∃ d, w' = ((((((w.setCell ⟨e, 3, none⟩ (ptr p)).setCell ⟨e, 4, none⟩ (ptr h)).setCell ⟨p, 4, none⟩ (ptr e)).setCell ⟨h, 3, none⟩ (ptr e)).setCell ⟨r, 1, none⟩ (.int .i64 (W + we))).setCell ⟨r, 2, none⟩ (.int .i64 (L + 1))).drewN d := by
  subst hx
  have r0 : w.cell? ⟨r, 0, none⟩ = some (ptr h) := cell_of hr rfl
  have r1 : w.cell? ⟨r, 1, none⟩ = some (.int .i64 W) := cell_of hr rfl
  have r2 : w.cell? ⟨r, 2, none⟩ = some (.int .i64 L) := cell_of hr rfl
  have h3 : w.cell? ⟨h, 3, none⟩ = some (ptr x.pv) := cell_of hh rfl
  have p4 : w.cell? ⟨x.pv, 4, none⟩ = some (ptr y.nx) := cell_of hp rfl
  have e1 : w.cell? ⟨e, 1, none⟩ = some (.int .i64 we) := cell_of he rfl
  have e3 : w.cell? ⟨e, 3, none⟩ = some v3 := cell_of he rfl
  have e4 : w.cell? ⟨e, 4, none⟩ = some v4 := cell_of he rfl
  have fr := froz_of hr
  have fh := froz_of hh
  have fp := froz_of hp
  have fe := froz_of he
  have lr := lt_of hr
  have lh := lt_of hh
  have lp := lt_of hp
  have le := lt_of he
  have n1 : r ≠ h := hr.ne hh
  have n2 : r ≠ x.pv := hr.ne hp
  have n3 : r ≠ e := fun q => by
    unfold RwOn at hr
    rw [q, he] at hr
    cases hr
  generalize x.pv = p at *
  clear hr hh hp he
  unfold ptr at *
  go_enter Try.func32, Try.ntmps32
  go_wp2
  go_region
  go_wp2
  go_region
  go_wp2
  go_region
  go_wp2
  go_end0
  exact ⟨rfl, 3, drew3 _⟩

set_option maxHeartbeats 1000000 in
theorem remove_r {n : Nat} {z : El} (hr : RwOn w r h W L) (he : ElOn w e x) (hx : x.pv = p) (hn : x.nx = n) (hp : ElOn w p y) (hz : ElOn w n z)
    (hW : 0 ≤ W ∧ W ≤ 140737488355328) (hwe : 0 ≤ x.wt ∧ x.wt ≤ 2147483648) (hL : 0 ≤ L ∧ L ≤ 65536) :
    Calls Try.prog 36 #[ptr r, ptr e] w fun e' w' => e' = .returned (.tuple #[]) ∧ ∃ d, w' = ((((w.setCell ⟨p, 4, none⟩ (ptr n)).setCell ⟨n, 3, none⟩ (ptr p)).setCell ⟨r, 1, none⟩ (.int .i64 (W - x.wt))).setCell ⟨r, 2, none⟩ (.int .i64 (L - 1))).drewN d := by
  have r1 : w.cell? ⟨r, 1, none⟩ = some (.int .i64 W) := cell_of hr rfl
  have r2 : w.cell? ⟨r, 2, none⟩ = some (.int .i64 L) := cell_of hr rfl
  have e1 : w.cell? ⟨e, 1, none⟩ = some (.int .i64 x.wt) := cell_of he rfl
  have e3 : w.cell? ⟨e, 3, none⟩ = some (ptr p) := hx ▸ cell_of he rfl
  have e4 : w.cell? ⟨e, 4, none⟩ = some (ptr n) := hn ▸ cell_of he rfl
  have p4 : w.cell? ⟨p, 4, none⟩ = some (ptr y.nx) := cell_of hp rfl
  have z3 : w.cell? ⟨n, 3, none⟩ = some (ptr z.pv) := cell_of hz rfl
  have fr := froz_of hr
  have fp := froz_of hp
  have fz := froz_of hz
  have lr := lt_of hr
  have lp := lt_of hp
  have le := lt_of he
  have lz := lt_of hz
  have n1 : r ≠ e := hr.ne he
  have n2 : r ≠ p := hr.ne hp
  have n3 : r ≠ n := hr.ne hz
  generalize x.wt = we at *
  clear hr he hp hz hx hn
  unfold ptr at *
  go_enter Try.func36, Try.ntmps36
  go_wp2
  go_region
  go_wp2
  go_region
  go_wp2
  go_end0
  exact ⟨rfl, 2, rfl⟩
end Go.Proofs.Ytecnlciogcanmaa
