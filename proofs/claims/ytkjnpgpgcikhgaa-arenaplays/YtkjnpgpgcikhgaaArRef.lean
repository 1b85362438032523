/-
  The document's own arena: what New, Len, Put, Get, Set and Drop of package pantryref06 do when they are called.
-/
import Derived.Test.YtkjnpgpgcikhgaaArAbs
import Derived.Test.YtkjnpgpgcikhgaaGenObj
import Derived.Deep.RegionLaw
namespace Go.Proofs.Ytkjnpgpgcikhgaa
open Go.RowKit Go.Deep

def heldC (s : Nat → Option (Int × Int)) (j : Nat) : Value := .bool (s j).isSome
def nodeC (v : Int × Int) (r : Nat) : Value := if r = 0 then .int .i64 v.1 else .int .i64 v.2
def nodC (s : Nat → Option (Int × Int)) (j : Nat) : Value := nodeC ((s (j / 2)).getD (0, 0)) (j % 2)
theorem nodC0 (s : Nat → Option (Int × Int)) (i : Nat) : nodC s (i * 2) = .int .i64 ((s i).getD (0, 0)).1 := by unfold nodC; rw [show i * 2 / 2 = i by omega, show i * 2 % 2 = 0 by omega]; rfl
theorem nodC1 (s : Nat → Option (Int × Int)) (i : Nat) : nodC s (i * 2 + 1) = .int .i64 ((s i).getD (0, 0)).2 := by unfold nodC; rw [show (i * 2 + 1) / 2 = i by omega, show (i * 2 + 1) % 2 = 1 by omega]; rfl
theorem nodC_set (s : Nat → Option (Int × Int)) (i : Nat) (o : Option (Int × Int)) (j : Nat) :
    nodC (fun k => if k = i then o else s k) j = if j = i * 2 + 1 then .int .i64 (o.getD (0, 0)).2 else if j = i * 2 then .int .i64 (o.getD (0, 0)).1 else nodC s j := by
  by_cases h1 : j = i * 2 + 1
  · subst h1; rw [if_pos rfl, nodC1, if_pos rfl]
  · rw [if_neg h1]
    by_cases h0 : j = i * 2
    · subst h0; rw [if_pos rfl, nodC0, if_pos rfl]
    · rw [if_neg h0]
      show nodeC ((if j / 2 = i then o else s (j / 2)).getD (0, 0)) (j % 2) = nodeC ((s (j / 2)).getD (0, 0)) (j % 2)
      rw [if_neg (by omega)]

/-- Where the three slices lie, and their capacities. -/
structure Rp where
  pb : Option Addr
  cb : Nat
  pl : Option Addr
  cl : Nat
  pg : Option Addr
  cg : Nat
def rvs (t : As) (r : Rp) : List Vd := [⟨4, 1, r.pb, t.n, r.cb, heldC t.s⟩, ⟨30, 2, r.pl, t.n, r.cl, nodC t.s⟩, ⟨3, 1, r.pg, t.d.length, r.cg, dropC t.d⟩]
def rhd (t : As) (r : Rp) : Array Value := #[.int .i64 (t.m : Int), .slice r.pb t.n r.cb, .slice r.pl t.n r.cl, .slice r.pg t.d.length r.cg]
def RfM (w : World) (R : Nat) (t : As) (r : Rp) : Prop := Hold w R 43 (rhd t r) (rvs t r)
variable {w w' : World} {R : Nat} {r : Rp} {t : As}
/-- Its cells. -/
theorem RfM.opens (h : RfM w R t r) (hw : t.Wf) : ∃ Bb Bl, r.pb = some ⟨Bb, 0, none⟩ ∧ r.pl = some ⟨Bl, 0, none⟩ ∧ Bb < w.heap.size ∧ Bl < w.heap.size ∧ t.n ≤ r.cb ∧ t.n ≤ r.cl ∧ R ≠ Bb ∧ R ≠ Bl ∧ Bb ≠ Bl ∧
    (∀ j, j < t.n → w.cell? ⟨Bb, j, none⟩ = some (.bool (t.s j).isSome)) ∧ (∀ j, j < t.n → w.cell? ⟨Bl, j * 2, none⟩ = some (.int .i64 ((t.s j).getD (0, 0)).1)) ∧ (∀ j, j < t.n → w.cell? ⟨Bl, j * 2 + 1, none⟩ = some (.int .i64 ((t.s j).getD (0, 0)).2)) ∧
    (∀ j, w.frozen? ⟨Bb, j, none⟩ = false) ∧ (∀ j, w.frozen? ⟨Bl, j, none⟩ = false) := by
  have h1 : Vec w 4 1 r.pb t.n r.cb (heldC t.s) := h.vec 0 _ rfl
  have h2 : Vec w 30 2 r.pl t.n r.cl (nodC t.s) := h.vec 1 _ rfl
  obtain ⟨Bb, e1, l1, c1, f1, n1⟩ := h1.opens hw.pos
  obtain ⟨Bl, e2, l2, c2, f2, n2⟩ := h2.opens hw.pos
  refine ⟨Bb, Bl, e1, e2, l1, l2, n1, n2, fun e => h.self 0 _ rfl (by show In r.pb R; rw [e1, e]; exact In.self Bb), fun e => h.self 1 _ rfl (by show In r.pl R; rw [e2, e]; exact In.self Bl), fun e => h.apart 0 1 _ _ rfl rfl (by decide) Bb (by show In r.pb Bb; rw [e1]; exact In.self Bb) (by show In r.pl Bb; rw [e2, e]; exact In.self Bl), fun j hj => (c1 j (by omega)), fun j hj => (c2 (j * 2) (by omega)).trans (by rw [nodC0]), fun j hj => (c2 (j * 2 + 1) (by omega)).trans (by rw [nodC1]), f1, f2⟩

theorem rlen_m (h : RfM w R t r) (hw : t.Wf) :
    Calls Try.prog 20 #[ptr R] w fun e w' => e = .returned (.int .i64 (t.len : Int)) ∧ ∃ d, w' = w.drewN d := by
  have c1 : w.cell? ⟨R, 2, none⟩ = some (.slice r.pl t.n r.cl) := h.cell 2 rfl
  have c2 : w.cell? ⟨R, 3, none⟩ = some (.slice r.pg t.d.length r.cg) := h.cell 3 rfl
  have h1 := hw.few
  have h2 := hw.top
  have h3 := hw.cap
  have h4 := hw.len_eq
  obtain ⟨L, hL⟩ : ∃ L : Int, L = (t.len : Int) := ⟨_, rfl⟩
  rw [← hL] at h4 ⊢
  obtain ⟨n, hn⟩ : ∃ n, n = t.n := ⟨_, rfl⟩
  obtain ⟨k, hk⟩ : ∃ k, k = t.d.length := ⟨_, rfl⟩
  simp only [← hn, ← hk] at c1 c2 h1 h2 h4
  have h5 : n ≤ 65537 := by omega
  clear hL hn hk h2 h3
  unfold ptr
  go_enter Try.func20, Try.ntmps20
  go_wp2
  go_quiet (fail)
  go_wp2
  go_ret
  exact ⟨ret_i (by omega), _, rfl⟩

theorem there_no (h : RfM w R t r) (hw : t.Wf) (id : Int) (hid : t.under id = none) :
    Calls Try.prog 25 #[ptr R, .int .i64 id] w fun e w' => e = .returned (.bool false) ∧ w' = w := by
  obtain ⟨Bb, Bl, e1, e2, l1, l2, n1, n2, q1, q2, q3, cb, cl0, cl1, f1, f2⟩ := h.opens hw
  have c1 : w.cell? ⟨R, 1, none⟩ = some (.slice r.pb t.n r.cb) := h.cell 1 rfl
  have c2 : w.cell? ⟨R, 2, none⟩ = some (.slice r.pl t.n r.cl) := h.cell 2 rfl
  rw [e1] at c1
  have h2 := hw.top
  have h3 := hw.cap
  clear cl0 cl1 f1 f2
  by_cases hp : 1 ≤ id
  · have d1 : decide ((1 : Int) ≤ id) = true := by rw [decide_eq_true_eq]; omega
    by_cases hlt : id < (t.n : Int)
    · obtain ⟨i, rfl⟩ : ∃ i : Nat, id = i := ⟨id.toNat, by omega⟩
      rw [As.under_nat] at hid
      have ci := cb i (by omega)
      rw [hid] at ci
      have ci' : w.cell? ⟨Bb, i, none⟩ = some (.bool false) := ci
      have d2 : decide ((i : Int) < (t.n : Int)) = true := by rw [decide_eq_true_eq]; omega
      obtain ⟨n, hn'⟩ : ∃ n, n = t.n := ⟨_, rfl⟩
      simp only [← hn'] at *
      clear cb ci hid
      unfold ptr
      go_enter Try.func25, Try.ntmps25
      go_wp2
      go_ret
      exact ⟨rfl, rfl⟩
    · have d2 : decide (id < (t.n : Int)) = false := by rw [decide_eq_false_iff_not]; omega
      clear cb
      unfold ptr
      go_enter Try.func25, Try.ntmps25
      go_wp2
      go_ret
      exact ⟨rfl, rfl⟩
  · have d1 : decide ((1 : Int) ≤ id) = false := by rw [decide_eq_false_iff_not]; omega
    clear cb
    unfold ptr
    go_enter Try.func25, Try.ntmps25
    go_wp2
    go_ret
    exact ⟨rfl, rfl⟩
theorem there_yes (h : RfM w R t r) (hw : t.Wf) (i : Nat) (v : Int × Int) (hi : t.s i = some v) :
    Calls Try.prog 25 #[ptr R, .int .i64 (i : Int)] w fun e w' => e = .returned (.bool true) ∧ w' = w := by
  obtain ⟨Bb, Bl, e1, e2, l1, l2, n1, n2, q1, q2, q3, cb, cl0, cl1, f1, f2⟩ := h.opens hw
  have c1 : w.cell? ⟨R, 1, none⟩ = some (.slice r.pb t.n r.cb) := h.cell 1 rfl
  have c2 : w.cell? ⟨R, 2, none⟩ = some (.slice r.pl t.n r.cl) := h.cell 2 rfl
  obtain ⟨h0, h1⟩ := hw.held hi
  rw [e1] at c1
  have h2 := hw.top
  have h3 := hw.cap
  have d1 : decide ((1 : Int) ≤ (i : Int)) = true := by rw [decide_eq_true_eq]; omega
  have d2 : decide ((i : Int) < (t.n : Int)) = true := by rw [decide_eq_true_eq]; omega
  have ci := cb i h1
  rw [hi] at ci
  have ci' : w.cell? ⟨Bb, i, none⟩ = some (.bool true) := ci
  obtain ⟨n, hn'⟩ : ∃ n, n = t.n := ⟨_, rfl⟩
  simp only [← hn'] at *
  clear cb ci hi cl0 cl1 f1 f2
  unfold ptr
  go_enter Try.func25, Try.ntmps25
  go_wp2
  go_ret
  exact ⟨rfl, rfl⟩
theorem rget_no (h : RfM w R t r) (hw : t.Wf) (id : Int) (hid : t.under id = none) :
    Calls Try.prog 18 #[ptr R, .int .i64 id] w fun e w' => e = .returned (.tuple #[nodeV (0, 0), .int .i64 3]) ∧ Grown w w' := by
  have hh := fun W (g : Grown w W) => there_no (show RfM W R t r from Hold.grown h g) hw id hid
  unfold ptr at *
  go_enter Try.func18, Try.ntmps18
  go_wp2_with (go_at_call 25; refine (hh _ ((Grown.refl _).alloc _ _)).mono ?_; rintro e w' ⟨rfl, hw'⟩; have hw' := hw'.symm; subst hw')
  exact bodyPost_ret (results_row_tmp Try.results18 _ _ w.heap.size 30 _ (0, 0) _ rfl (heap_alloc_new _ _) Try.underlying30 rfl (infoNode _ _)) rfl ⟨rfl, (Grown.refl _).alloc _ _⟩
theorem rget_yes (h : RfM w R t r) (hw : t.Wf) (i : Nat) (v : Int × Int) (hi : t.s i = some v) :
    Calls Try.prog 18 #[ptr R, .int .i64 (i : Int)] w fun e w' => e = .returned (.tuple #[nodeV v, .int .i64 0]) ∧ Grown w w' := by
  have hh := fun W (g : Grown w W) => there_yes (show RfM W R t r from Hold.grown h g) hw i v hi
  obtain ⟨h0, h1⟩ := hw.held hi
  have hat : ∀ c y, (w.alloc (.cells c y)).cell? ⟨R, 2, none⟩ = some (.slice r.pl t.n r.cl) := fun c y => (Hold.grown h ((Grown.refl _).alloc c y)).cell 2 rfl
  have hg := fun c y => (show RfM (w.alloc (.cells c y)) R t r from Hold.grown h ((Grown.refl _).alloc c y)).opens hw
  obtain ⟨Bb, Bl, e1, e2, l1, l2, n1, n2, q1, q2, q3, cb, cl0, cl1, f1, f2⟩ := h.opens hw
  have c2 : ∀ c y, (w.alloc (.cells c y)).cell? ⟨Bl, i * 2, none⟩ = some (.int .i64 v.1) ∧ (w.alloc (.cells c y)).cell? ⟨Bl, i * 2 + 1, none⟩ = some (.int .i64 v.2) := fun c y => by
    obtain ⟨Bb', Bl', _, e2', _, _, _, _, _, _, _, _, g1, g2, _⟩ := hg c y
    rw [e2] at e2'
    cases e2'
    exact ⟨(g1 i h1).trans (by rw [hi]; rfl), (g2 i h1).trans (by rw [hi]; rfl)⟩
  have c3 := fun c y => (c2 c y).1
  have c4 := fun c y => (c2 c y).2
  rw [e2] at hat
  have h2 := hw.top
  have h3 := hw.cap
  clear hg cb cl0 cl1 f1 f2 c2 hi
  unfold ptr at *
  go_enter Try.func18, Try.ntmps18
  go_wp2_with (go_at_call 25; refine (hh _ ((Grown.refl _).alloc _ _)).mono ?_; rintro e w' ⟨rfl, hw'⟩; have hw' := hw'.symm; subst hw')
  exact bodyPost_ret (results_row_tmp Try.results18 _ _ w.heap.size 30 _ (0, 0) _ rfl (heap_alloc_new _ _) Try.underlying30 rfl (infoNode _ _)) rfl ⟨rfl, (Grown.refl _).alloc _ _⟩
/-- Which node is under number i, and whether there is one. -/
def As.at (t : As) (i : Nat) (o : Option (Int × Int)) : As := { t with s := fun k => if k = i then o else t.s k }
theorem heldC_at (t : As) (i : Nat) (o : Option (Int × Int)) : heldC (t.at i o).s = fun x => if x = i then .bool o.isSome else heldC t.s x := by
  funext x
  show Value.bool (if x = i then o else t.s x).isSome = if x = i then .bool o.isSome else .bool (t.s x).isSome
  split <;> rfl
theorem nodC_at (t : As) (i : Nat) (o : Option (Int × Int)) : nodC (t.at i o).s = fun x => if x = i * 2 + 1 then .int .i64 (o.getD (0, 0)).2 else if x = i * 2 then .int .i64 (o.getD (0, 0)).1 else nodC t.s x := by
  funext x
  exact nodC_set t.s i o x
theorem RfM.putNode {Bl : Nat} (h : RfM w R t r) (hl : r.pl = some ⟨Bl, 0, none⟩) (i : Nat) (v : Int × Int) :
    Hold ((w.setCell ⟨Bl, i * 2, none⟩ (.int .i64 v.1)).setCell ⟨Bl, i * 2 + 1, none⟩ (.int .i64 v.2)) R 43 (rhd t r) [⟨4, 1, r.pb, t.n, r.cb, heldC t.s⟩, ⟨30, 2, r.pl, t.n, r.cl, nodC (t.at i (some v)).s⟩, ⟨3, 1, r.pg, t.d.length, r.cg, dropC t.d⟩] := by
  have h1 := Hold.setElem (i := 1) h rfl hl (i * 2) (.int .i64 v.1)
  have h2 := Hold.setElem (i := 1) h1 rfl hl (i * 2 + 1) (.int .i64 v.2)
  rw [nodC_at]
  exact h2
theorem RfM.setNode {Bl : Nat} (h : RfM w R t r) (hl : r.pl = some ⟨Bl, 0, none⟩) (i : Nat) (v : Int × Int) {u : Int × Int} (hi : t.s i = some u) :
    RfM ((w.setCell ⟨Bl, i * 2, none⟩ (.int .i64 v.1)).setCell ⟨Bl, i * 2 + 1, none⟩ (.int .i64 v.2)) R (t.set i v) r := by
  have h1 := h.putNode hl i v
  have e : heldC t.s = heldC (t.set i v).s := by
    funext x
    show Value.bool (t.s x).isSome = .bool (if x = i then some v else t.s x).isSome
    by_cases hx : x = i
    · subst hx; rw [if_pos rfl, hi]; rfl
    · rw [if_neg hx]
  rw [e] at h1
  exact h1
theorem RfM.fullNode {Bb Bl : Nat} (h : RfM w R t r) (hb : r.pb = some ⟨Bb, 0, none⟩) (hl : r.pl = some ⟨Bl, 0, none⟩) (i : Nat) (v : Int × Int) :
    RfM (((w.setCell ⟨Bl, i * 2, none⟩ (.int .i64 v.1)).setCell ⟨Bl, i * 2 + 1, none⟩ (.int .i64 v.2)).setCell ⟨Bb, i, none⟩ (.bool true)) R (t.at i (some v)) r := by
  have h1 := Hold.setElem (i := 0) (h.putNode hl i v) rfl hb i (.bool true)
  have e : (fun x => if x = i then Value.bool true else heldC t.s x) = heldC (t.at i (some v)).s := by rw [heldC_at]; rfl
  rw [e] at h1
  exact h1
def remptied (w : World) (Bb Bl i : Nat) : World := ((w.setCell ⟨Bb, i, none⟩ (.bool false)).setCell ⟨Bl, i * 2, none⟩ (.int .i64 0)).setCell ⟨Bl, i * 2 + 1, none⟩ (.int .i64 0)
theorem remptied_size (w : World) (Bb Bl i : Nat) : (remptied w Bb Bl i).heap.size = w.heap.size := by unfold remptied; rw [nblk_setCell, nblk_setCell, nblk_setCell]
theorem RfM.emptied {Bb Bl : Nat} (h : RfM w R t r) (hb : r.pb = some ⟨Bb, 0, none⟩) (hl : r.pl = some ⟨Bl, 0, none⟩) (i : Nat) : RfM (remptied w Bb Bl i) R (t.at i none) r := by
  have h1 := Hold.setElem (i := 0) h rfl hb i (.bool false)
  have h2 := Hold.setElem (i := 1) h1 rfl hl (i * 2) (.int .i64 0)
  have h3 := Hold.setElem (i := 1) h2 rfl hl (i * 2 + 1) (.int .i64 0)
  have e1 : (fun x => if x = i then Value.bool false else heldC t.s x) = heldC (t.at i none).s := by rw [heldC_at]; rfl
  have e2 : (fun x => if x = i * 2 + 1 then Value.int .i64 0 else if x = i * 2 then .int .i64 0 else nodC t.s x) = nodC (t.at i none).s := by rw [nodC_at]; rfl
  unfold RfM rvs
  rw [← e1, ← e2]
  exact h3
theorem foot_b {Bb : Nat} (hb : r.pb = some ⟨Bb, 0, none⟩) : Foot R (rvs t r) Bb := Or.inr ⟨0, _, rfl, by show In r.pb Bb; rw [hb]; exact In.self Bb⟩
theorem foot_l {Bl : Nat} (hl : r.pl = some ⟨Bl, 0, none⟩) : Foot R (rvs t r) Bl := Or.inr ⟨1, _, rfl, by show In r.pl Bl; rw [hl]; exact In.self Bl⟩
theorem rset_no (h : RfM w R t r) (hw : t.Wf) (id : Int) (v : Int × Int) (hid : t.under id = none) :
    Calls Try.prog 16 #[ptr R, .int .i64 id, nodeV v] w fun e w' => e = .returned (.int .i64 3) ∧ Grown w w' := by
  have hh := fun W (g : Grown w W) => there_no (show RfM W R t r from Hold.grown h g) hw id hid
  unfold ptr nodeV at *
  go_enter Try.func16, Try.ntmps16
  go_wp2_with (go_at_call 25; refine (hh _ ((Grown.refl _).alloc _ _)).mono ?_; rintro e w' ⟨rfl, hw'⟩; have hw' := hw'.symm; subst hw')
  go_ret
  exact ⟨rfl, (Grown.refl _).alloc _ _⟩
theorem rset_yes (h : RfM w R t r) (hw : t.Wf) (i : Nat) (v : Int × Int) (u : Int × Int) (hi : t.s i = some u) :
    Calls Try.prog 16 #[ptr R, .int .i64 (i : Int), nodeV v] w fun e w' => e = .returned (.int .i64 0) ∧ RfM w' R (t.set i v) r ∧ Out (Foot R (rvs t r)) w w' := by
  have hh := fun W (g : Grown w W) => there_yes (show RfM W R t r from Hold.grown h g) hw i u hi
  obtain ⟨h0, h1⟩ := hw.held hi
  obtain ⟨Bb, Bl, e1, e2, l1, l2, n1, n2, q1, q2, q3, cb, cl0, cl1, f1, f2⟩ := h.opens hw
  have c1 : w.cell? ⟨R, 2, none⟩ = some (.slice r.pl t.n r.cl) := h.cell 2 rfl
  rw [e2] at c1
  have c2 := cl0 i h1
  have c3 := cl1 i h1
  rw [hi] at c2 c3
  have c2' : w.cell? ⟨Bl, i * 2, none⟩ = some (.int .i64 u.1) := c2
  have c3' : w.cell? ⟨Bl, i * 2 + 1, none⟩ = some (.int .i64 u.2) := c3
  have h3 := hw.cap
  have h2 := hw.top
  have hA := h.lt
  have RR : Hid (∀ W, Grown ((w.setCell ⟨Bl, i * 2, none⟩ (.int .i64 v.1)).setCell ⟨Bl, i * 2 + 1, none⟩ (.int .i64 v.2)) W → RfM W R (t.set i v) r ∧ Out (Foot R (rvs t r)) w W) := fun W g =>
    ⟨Hold.grown (h.setNode e2 i v hi) g, (((Out.refl (Foot R (rvs t r)) w).setCell (a := ⟨Bl, i * 2, none⟩) (foot_l e2) _).setCell (a := ⟨Bl, i * 2 + 1, none⟩) (foot_l e2) _).more g⟩
  clear hi h cb cl0 cl1 f1 c2 c3 e1 e2
  unfold ptr nodeV at *
  go_enter Try.func16, Try.ntmps16
  go_wp2_with (go_at_call 25; refine (hh _ ((Grown.refl _).alloc _ _)).mono ?_; rintro e w' ⟨rfl, hw'⟩; have hw' := hw'.symm; subst hw')
  go_region
  all_goals (try go_wp2)
  all_goals go_ret
  all_goals exact ⟨rfl, RR.out _ ((Grown.refl _).alloc _ _).drew⟩
theorem rdrop_no (h : RfM w R t r) (hw : t.Wf) (id : Int) (hid : t.under id = none) :
    Calls Try.prog 14 #[ptr R, .int .i64 id] w fun e w' => e = .returned (.int .i64 3) ∧ w' = w := by
  have hh := there_no h hw id hid
  unfold ptr at *
  go_enter Try.func14, Try.ntmps14
  go_wp2_with (go_at_call 25; refine hh.mono ?_; rintro e w' ⟨rfl, hw'⟩; have hw' := hw'.symm; subst hw')
  go_ret
  exact ⟨rfl, rfl⟩
set_option maxHeartbeats 1000000 in
theorem rdrop_yes (h : RfM w R t r) (hw : t.Wf) (i : Nat) (u : Int × Int) (hi : t.s i = some u) :
    Calls Try.prog 14 #[ptr R, .int .i64 (i : Int)] w fun e w' => e = .returned (.int .i64 0) ∧ ∃ r', RfM w' R (t.drop i) r' ∧ Step (Foot R (rvs t r)) (Foot R (rvs (t.drop i) r')) w w' := by
  have hh := there_yes h hw i u hi
  obtain ⟨h0, h1⟩ := hw.held hi
  obtain ⟨Bb, Bl, e1, e2, l1, l2, n1, n2, q1, q2, q3, cb, cl0, cl1, f1, f2⟩ := h.opens hw
  have c1 : w.cell? ⟨R, 1, none⟩ = some (.slice r.pb t.n r.cb) := h.cell 1 rfl
  have c2 : w.cell? ⟨R, 2, none⟩ = some (.slice r.pl t.n r.cl) := h.cell 2 rfl
  have c3 : w.cell? ⟨R, 3, none⟩ = some (.slice r.pg t.d.length r.cg) := h.cell 3 rfl
  rw [e1] at c1
  rw [e2] at c2
  have c4 := cb i h1
  have c5 := cl0 i h1
  have c6 := cl1 i h1
  rw [hi] at c4 c5 c6
  have c4' : w.cell? ⟨Bb, i, none⟩ = some (.bool true) := c4
  have c5' : w.cell? ⟨Bl, i * 2, none⟩ = some (.int .i64 u.1) := c5
  have c6' : w.cell? ⟨Bl, i * 2 + 1, none⟩ = some (.int .i64 u.2) := c6
  have hfew := hw.few
  have h3 := hw.cap
  have h2 := hw.top
  have hA := h.lt
  have hf := h.frozen
  have hem := h.emptied e1 e2 i
  have ho1 : Out (Foot R (rvs t r)) w (remptied w Bb Bl i) := (((Out.refl (Foot R (rvs t r)) w).setCell (a := ⟨Bb, i, none⟩) (foot_b e1) _).setCell (a := ⟨Bl, i * 2, none⟩) (foot_l e2) _).setCell (a := ⟨Bl, i * 2 + 1, none⟩) (foot_l e2) _
  obtain ⟨k, hk⟩ : ∃ k, k = t.d.length := ⟨_, rfl⟩
  rw [← hk] at c3 hfew
  have HV : Hid (∀ cc yy, Vec ((remptied w Bb Bl i).alloc (.cells cc yy)) 3 1 r.pg k r.cg (dropC t.d)) := fun cc yy => by
    rw [hk]; exact (show Vec _ 3 1 r.pg t.d.length r.cg (dropC t.d) from hem.vec 2 _ rfl).grown ((Grown.refl _).alloc _ _)
  have HC : Hid (∀ j, j < 1 * 1 → ((remptied w Bb Bl i).alloc (.cells #[.int .i64 (i : Int)] 3)).cell? ((⟨w.heap.size, 0, none⟩ : Addr).add j) = some (.int .i64 (i : Int))) := by
    rw [← remptied_size w Bb Bl i]; exact new_one _ _ _
  have HR : Hid (∀ p' c' w2, Vec w2 3 1 p' (k + 1) c' (fun j => if j < k * 1 then dropC t.d j else .int .i64 (i : Int)) → Out (In r.pg) ((remptied w Bb Bl i).alloc (.cells #[.int .i64 (i : Int)] 3)) w2 → (p' = r.pg ∨ p' = some ⟨((remptied w Bb Bl i).alloc (.cells #[.int .i64 (i : Int)] 3)).heap.size, 0, none⟩) →
      (w2.cell? ⟨R, 3, none⟩ = some (.slice r.pg k r.cg) ∧ w2.frozen? ⟨R, 3, none⟩ = false) ∧ ∃ r', RfM (w2.setCell ⟨R, 3, none⟩ (.slice p' (k + 1) c')) R (t.drop i) r' ∧ Step (Foot R (rvs t r)) (Foot R (rvs (t.drop i) r')) w (w2.setCell ⟨R, 3, none⟩ (.slice p' (k + 1) c'))) := fun p' c' w2 hv ho hp => by
    subst hk
    obtain ⟨g1, g2, g3, g4⟩ := Hold.append (i := 2) (k := 3) hem rfl rfl hv ho hp
    have e : (fun j => if j < t.d.length * 1 then dropC t.d j else Value.int .i64 (i : Int)) = fun j => if j < t.d.length then dropC t.d j else .int .i64 (i : Int) := by funext j; rw [Nat.mul_one]
    have hx := Hold.retell (i := 2) g3 rfl (t.d.length + 1) (dropC (i :: t.d)) (Nat.le_refl _) (fun j hj => by
      show (if j < t.d.length * 1 then dropC t.d j else Value.int .i64 (i : Int)) = _
      have hj' : j < (t.d.length + 1) * 1 := hj
      rw [dropC_cons _ _ _ (by omega), Nat.mul_one])
    refine ⟨⟨g1, g2⟩, { r with pg := p', cg := c' }, hx, ?_⟩
    have st : Step (Foot R (rvs t r)) (Foot R (rvs (t.at i none) r)) w (remptied w Bb Bl i) := ⟨ho1, fun k hk => Or.inl (foot_cast (by rfl) hk)⟩
    have st2 := st.trans g4
    exact ⟨st2.out, fun k hk => st2.new k (foot_cast (by rfl) hk)⟩
  clear hi h cb cl0 cl1 c4 c5 c6 e1 e2 hem ho1 hk
  unfold ptr at *
  go_enter Try.func14, Try.ntmps14
  go_wp2_with (first | (go_at_call 25; refine hh.mono ?_; rintro e w' ⟨rfl, hw'⟩; have hw' := hw'.symm; subst hw') | (at_builtin; refine wpList_append_vec rfl (.tmp 26) (.tmp 28) 41 rfl Try.underlying41 infoInt rfl rfl (HV.out _ _) rfl (by decide) HC.out (fun _ _ => rfl) (by omega) (by omega) ?_; intro p' c' w2 hv2 ho2 hp2; obtain ⟨⟨hc2, hf2⟩, hr⟩ := HR.out _ _ _ hv2 ho2 hp2; have HX : Hid _ := hr; clear hr hv2 ho2 hp2))
  go_ret
  exact ⟨rfl, HX.out⟩
theorem infoNodeZ : (Try.prog.info? 30).map (fun i => (i.zero, i.size, i.bytes)) = some (some (.agg #[.int .i64 0, .int .i64 0]), 2, 16) := by kernel_rfl
theorem infoBool : (Try.prog.info? 4).map (fun i => (i.zero, i.size, i.bytes)) = some (some (.bool false), 1, 1) := by kernel_rfl
theorem new_two (w : World) (x y : Value) (ty : TypeId) (H : Nat) (hH : w.heap.size = H) : ∀ j, j < 1 * 2 → (w.alloc (.cells #[x, y] ty)).cell? ((⟨H, 0, none⟩ : Addr).add j) = some (if j = 0 then x else y) := fun j hj => by
  subst hH
  rw [new_cells]
  have : j = 0 ∨ j = 1 := by omega
  rcases this with rfl | rfl <;> rfl
theorem rput_full (h : RfM w R t r) (hw : t.Wf) (hf : t.m ≤ t.len) (v : Int × Int) :
    Calls Try.prog 12 #[ptr R, nodeV v] w fun e w' => e = .returned (.tuple #[.int .i64 0, .int .i64 2]) ∧ Grown w w' := by
  have hl := fun W (g : Grown w W) => rlen_m (show RfM W R t r from Hold.grown h g) hw
  have c0 : w.cell? ⟨R, 0, none⟩ = some (.int .i64 (t.m : Int)) := h.cell 0 rfl
  have hA := h.lt
  have d1 : decide ((t.m : Int) ≤ (t.len : Int)) = true := by rw [decide_eq_true_eq]; omega
  obtain ⟨L, hL⟩ : ∃ L : Int, L = (t.len : Int) := ⟨_, rfl⟩
  obtain ⟨M, hM⟩ : ∃ M : Int, M = (t.m : Int) := ⟨_, rfl⟩
  simp only [← hL] at hl d1
  rw [← hM] at c0 d1
  clear hL hM h
  unfold ptr nodeV at *
  go_enter Try.func12, Try.ntmps12
  go_wp2
  go_quiet (first | (go_at_call 20; exact Calls.quiet_of (hl _ (grownDrewN ((Grown.refl _).alloc _ _) _))))
  go_wp2
  go_ret2
  exact ⟨rfl, grownDrewN ((Grown.refl _).alloc _ _) _⟩
/-- One more node behind the others. -/
theorem RfM.pushed {X0 w2 : World} {p' : Option Addr} {c' : Nat} {v : Int × Int} (h : RfM X0 R t r) (hd : t.d = []) (hv : Vec w2 30 2 p' (t.n + 1) c' (fun j => if j < t.n * 2 then nodC t.s j else if j - t.n * 2 = 0 then .int .i64 v.1 else .int .i64 v.2)) (ho : Out (In r.pl) (X0.alloc (.cells #[.int .i64 v.1, .int .i64 v.2] 30)) w2) (hp : p' = r.pl ∨ p' = some ⟨(X0.alloc (.cells #[.int .i64 v.1, .int .i64 v.2] 30)).heap.size, 0, none⟩) :
    (w2.cell? ⟨R, 2, none⟩ = some (.slice r.pl t.n r.cl) ∧ w2.frozen? ⟨R, 2, none⟩ = false) ∧ ∃ X1, w2.setCell ⟨R, 2, none⟩ (.slice p' (t.n + 1) c') = X1 ∧ X1.cell? ⟨R, 1, none⟩ = some (.slice r.pb t.n r.cb) ∧ X1.cell? ⟨R, 2, none⟩ = some (.slice p' (t.n + 1) c') ∧ R < X1.heap.size ∧
      Hold X1 R 43 #[.int .i64 (t.m : Int), .slice r.pb t.n r.cb, .slice p' (t.n + 1) c', .slice r.pg 0 r.cg] [⟨4, 1, r.pb, t.n, r.cb, heldC t.s⟩, ⟨30, 2, p', t.n + 1, c', nodC (t.put v).s⟩, ⟨3, 1, r.pg, 0, r.cg, dropC []⟩] ∧
      Step (Foot R (rvs t r)) (Foot R (rvs t { r with pl := p', cl := c' })) X0 X1 := by
  obtain ⟨g1, g2, g3, g4⟩ := Hold.append (i := 1) (k := 2) h rfl rfl hv ho hp
  have hx := Hold.retell (i := 1) g3 rfl (t.n + 1) (nodC (t.put v).s) (Nat.le_refl _) (fun j hj => by
    show (if j < t.n * 2 then nodC t.s j else if j - t.n * 2 = 0 then Value.int .i64 v.1 else .int .i64 v.2) = nodC (fun i => if i = t.give then some v else t.s i) j
    have hj' : j < (t.n + 1) * 2 := hj
    rw [As.give_new hd, nodC_set]
    by_cases e : j < t.n * 2
    · rw [if_pos e, if_neg (by omega), if_neg (by omega)]
    · rw [if_neg e]
      by_cases e2 : j = t.n * 2
      · rw [if_pos (by omega), if_neg (by omega), if_pos e2]; rfl
      · rw [if_neg (by omega), if_pos (by omega)]; rfl)
  refine ⟨⟨g1, g2⟩, _, rfl, hx.cell 1 rfl, hx.cell 2 rfl, hx.lt, ?_, g4.out, fun k hk => g4.new k (foot_cast (by rfl) hk)⟩
  have hx' := hx
  simp only [rhd, rvs, hd] at hx'
  exact hx'
theorem RfM.pushed2 {X1 w2 : World} {pb pl pg p' : Option Addr} {cb cl cg c' : Nat} {v : Int × Int} (hd : t.d = [])
    (h : Hold X1 R 43 #[.int .i64 (t.m : Int), .slice pb t.n cb, .slice pl (t.n + 1) cl, .slice pg 0 cg] [⟨4, 1, pb, t.n, cb, heldC t.s⟩, ⟨30, 2, pl, t.n + 1, cl, nodC (t.put v).s⟩, ⟨3, 1, pg, 0, cg, dropC []⟩])
    (hv : Vec w2 4 1 p' (t.n + 1) c' (fun j => if j < t.n * 1 then heldC t.s j else .bool true)) (ho : Out (In pb) (X1.alloc (.cells #[.bool true] 4)) w2) (hp : p' = pb ∨ p' = some ⟨(X1.alloc (.cells #[.bool true] 4)).heap.size, 0, none⟩) :
    (w2.cell? ⟨R, 1, none⟩ = some (.slice pb t.n cb) ∧ w2.frozen? ⟨R, 1, none⟩ = false) ∧ ∃ X2, w2.setCell ⟨R, 1, none⟩ (.slice p' (t.n + 1) c') = X2 ∧ X2.cell? ⟨R, 2, none⟩ = some (.slice pl (t.n + 1) cl) ∧ RfM X2 R (t.put v) ⟨p', c', pl, cl, pg, cg⟩ ∧
      Step (Foot R (rvs t ⟨pb, cb, pl, cl, pg, cg⟩)) (Foot R (rvs (t.put v) ⟨p', c', pl, cl, pg, cg⟩)) X1 X2 := by
  obtain ⟨g1, g2, g3, g4⟩ := Hold.append (i := 0) (k := 1) h rfl rfl hv ho hp
  have hx := Hold.retell (i := 0) g3 rfl (t.n + 1) (heldC (t.put v).s) (Nat.le_refl _) (fun j hj => by
    show (if j < t.n * 1 then heldC t.s j else Value.bool true) = .bool (if j = t.give then some v else t.s j).isSome
    have hj' : j < (t.n + 1) * 1 := hj
    rw [As.give_new hd]
    by_cases e : j < t.n * 1
    · rw [if_pos e, if_neg (by omega)]; rfl
    · rw [if_neg e, if_pos (by omega)]; rfl)
  have e1 : (t.put v).n = t.n + 1 := by show (if t.d = [] then t.n + 1 else t.n) = _; rw [if_pos hd]
  have e2 : (t.put v).d = [] := by show t.d.tail = []; rw [hd]; rfl
  refine ⟨⟨g1, g2⟩, _, rfl, hx.cell 2 rfl, ?_, g4.out.wide fun k _ hk => foot_cast (by rfl) hk, fun k hk => (g4.new k (foot_cast (by rfl) hk)).imp (fun hk => foot_cast (by rfl) hk) id⟩
  unfold RfM rhd rvs
  rw [e1, e2]
  exact hx
set_option maxHeartbeats 2000000 in
theorem rput_new (h : RfM w R t r) (hw : t.Wf) (hf : t.len < t.m) (hd : t.d = []) (v : Int × Int) :
    Calls Try.prog 12 #[ptr R, nodeV v] w fun e w' => e = .returned (.tuple #[.int .i64 (t.n : Int), .int .i64 0]) ∧ ∃ r', RfM w' R (t.put v) r' ∧ Step (Foot R (rvs t r)) (Foot R (rvs (t.put v) r')) w w' := by
  have hl := fun W (g : Grown w W) => rlen_m (show RfM W R t r from Hold.grown h g) hw
  have c0 : w.cell? ⟨R, 0, none⟩ = some (.int .i64 (t.m : Int)) := h.cell 0 rfl
  have c2 : w.cell? ⟨R, 2, none⟩ = some (.slice r.pl t.n r.cl) := h.cell 2 rfl
  have c3 : w.cell? ⟨R, 3, none⟩ = some (.slice r.pg t.d.length r.cg) := h.cell 3 rfl
  rw [hd] at c3
  have c3' : w.cell? ⟨R, 3, none⟩ = some (.slice r.pg 0 r.cg) := c3
  have hA := h.lt
  have d1 : decide ((t.m : Int) ≤ (t.len : Int)) = false := by rw [decide_eq_false_iff_not]; omega
  have hnb : t.n ≤ 65537 := by have := hw.top; have := hw.cap; omega
  have HV : Hid (∀ X, Grown w X → Vec X 30 2 r.pl t.n r.cl (nodC t.s)) := fun X g => (show Vec w 30 2 r.pl t.n r.cl (nodC t.s) from h.vec 1 _ rfl).grown g
  have HP : Hid (∀ X0, Grown (w.alloc (.cells #[.int .i64 v.1, .int .i64 v.2] 30)) X0 → ∀ p' c' w2, Vec w2 30 2 p' (t.n + 1) c' (fun j => if j < t.n * 2 then nodC t.s j else if j - t.n * 2 = 0 then .int .i64 v.1 else .int .i64 v.2) → Out (In r.pl) (X0.alloc (.cells #[.int .i64 v.1, .int .i64 v.2] 30)) w2 → (p' = r.pl ∨ p' = some ⟨(X0.alloc (.cells #[.int .i64 v.1, .int .i64 v.2] 30)).heap.size, 0, none⟩) →
      (w2.cell? ⟨R, 2, none⟩ = some (.slice r.pl t.n r.cl) ∧ w2.frozen? ⟨R, 2, none⟩ = false ∧ w2.cell? ⟨w.heap.size, 0, none⟩ = some (.int .i64 v.1) ∧ w2.cell? ⟨w.heap.size, 1, none⟩ = some (.int .i64 v.2)) ∧ ∃ X1, w2.setCell ⟨R, 2, none⟩ (.slice p' (t.n + 1) c') = X1 ∧ X1.cell? ⟨R, 1, none⟩ = some (.slice r.pb t.n r.cb) ∧ X1.cell? ⟨R, 2, none⟩ = some (.slice p' (t.n + 1) c') ∧ R < X1.heap.size ∧ X1.cell? ⟨w.heap.size, 0, none⟩ = some (.int .i64 v.1) ∧ X1.cell? ⟨w.heap.size, 1, none⟩ = some (.int .i64 v.2) ∧
      Hid (∀ X, Grown X1 X → Hold X R 43 #[.int .i64 (t.m : Int), .slice r.pb t.n r.cb, .slice p' (t.n + 1) c', .slice r.pg 0 r.cg] [⟨4, 1, r.pb, t.n, r.cb, heldC t.s⟩, ⟨30, 2, p', t.n + 1, c', nodC (t.put v).s⟩, ⟨3, 1, r.pg, 0, r.cg, dropC []⟩] ∧
      Step (Foot R (rvs t r)) (Foot R (rvs t { r with pl := p', cl := c' })) w X)) := fun X0 g p' c' w2 hv ho hp => by
    have g0 : Grown w X0 := grownTrans ((Grown.refl _).alloc _ _) g
    obtain ⟨⟨k1, k2⟩, X1, hX, k3, k4, k5, k6, k7⟩ := RfM.pushed (show RfM X0 R t r from Hold.grown h g0) hd hv ho hp
    have hnb : w2.heap[w.heap.size]? = some (.cells #[.int .i64 v.1, .int .i64 v.2] 30 (0, 0)) := by
      have hs : w.heap.size < X0.heap.size := by have := g.2.2; rw [nblk_alloc] at this; omega
      rw [ho.block _ (by rw [nblk_alloc]; omega) (fun e => by have := (show Vec w 30 2 r.pl t.n r.cl (nodC t.s) from h.vec 1 _ rfl).lt e; omega), grown_block ((Grown.refl X0).alloc _ _) hs, grown_block g (by rw [nblk_alloc]; omega), blk_alloc_new]
    have hnb2 : X1.heap[w.heap.size]? = some (.cells #[.int .i64 v.1, .int .i64 v.2] 30 (0, 0)) := by rw [← hX, blk_setCell_other _ _ _ _ (by show w.heap.size ≠ R; have := h.lt; omega)]; exact hnb
    exact ⟨⟨k1, k2, by simp only [World.cell?, hnb]; rfl, by simp only [World.cell?, hnb]; rfl⟩, X1, hX, k3, k4, k5, by simp only [World.cell?, hnb2]; rfl, by simp only [World.cell?, hnb2]; rfl, fun X gx => ⟨k6.grown gx, ((Step.grown _ g0).trans k7).more gx⟩⟩
  have HV2 : Hid (∀ X p' c', Hold X R 43 #[.int .i64 (t.m : Int), .slice r.pb t.n r.cb, .slice p' (t.n + 1) c', .slice r.pg 0 r.cg] [⟨4, 1, r.pb, t.n, r.cb, heldC t.s⟩, ⟨30, 2, p', t.n + 1, c', nodC (t.put v).s⟩, ⟨3, 1, r.pg, 0, r.cg, dropC []⟩] → Vec (X.alloc (.cells #[.bool true] 4)) 4 1 r.pb t.n r.cb (heldC t.s)) := fun X p' c' hx => (show Vec X 4 1 r.pb t.n r.cb (heldC t.s) from hx.vec 0 _ rfl).grown ((Grown.refl _).alloc _ _)
  have HP2 : Hid (∀ X1 pl cl, Hold X1 R 43 #[.int .i64 (t.m : Int), .slice r.pb t.n r.cb, .slice pl (t.n + 1) cl, .slice r.pg 0 r.cg] [⟨4, 1, r.pb, t.n, r.cb, heldC t.s⟩, ⟨30, 2, pl, t.n + 1, cl, nodC (t.put v).s⟩, ⟨3, 1, r.pg, 0, r.cg, dropC []⟩] ∧ Step (Foot R (rvs t r)) (Foot R (rvs t { r with pl := pl, cl := cl })) w X1 → ∀ p' c' w2, Vec w2 4 1 p' (t.n + 1) c' (fun j => if j < t.n * 1 then heldC t.s j else .bool true) → Out (In r.pb) (X1.alloc (.cells #[.bool true] 4)) w2 → (p' = r.pb ∨ p' = some ⟨(X1.alloc (.cells #[.bool true] 4)).heap.size, 0, none⟩) →
      (w2.cell? ⟨R, 1, none⟩ = some (.slice r.pb t.n r.cb) ∧ w2.frozen? ⟨R, 1, none⟩ = false) ∧ ∃ X2, w2.setCell ⟨R, 1, none⟩ (.slice p' (t.n + 1) c') = X2 ∧ X2.cell? ⟨R, 2, none⟩ = some (.slice pl (t.n + 1) cl) ∧ Hid (∃ r', RfM X2 R (t.put v) r' ∧ Step (Foot R (rvs t r)) (Foot R (rvs (t.put v) r')) w X2)) := fun X1 pl cl hx p' c' w2 hv ho hp => by
    obtain ⟨k1, X2, hX, k2, k3, k4⟩ := RfM.pushed2 hd hx.1 hv ho hp
    exact ⟨k1, X2, hX, k2, _, k3, hx.2.trans k4⟩
  obtain ⟨L, hL⟩ : ∃ L : Int, L = (t.len : Int) := ⟨_, rfl⟩
  obtain ⟨M, hM⟩ : ∃ M : Int, M = (t.m : Int) := ⟨_, rfl⟩
  obtain ⟨n, hn⟩ : ∃ n, n = t.n := ⟨_, rfl⟩
  simp only [← hL] at hl d1
  rw [← hM] at c0 d1
  simp only [← hn] at HV HP HV2 HP2 c2 hnb
  rw [← hn]
  clear hL hM hn h hd c3
  unfold ptr nodeV at *
  go_enter Try.func12, Try.ntmps12
  go_wp2
  go_quiet (first | (go_at_call 20; exact Calls.quiet_of (hl _ (grownDrewN ((Grown.refl _).alloc _ _) _))))
  go_wp2
  go_region_law ((refine step_append_vec (by rfl) (.tmp 24) (.tmp 26) 40 (by rfl) Try.underlying40 infoNodeZ rfl (by rfl) (HV.out _ ((grownDrewN ((Grown.refl _).alloc _ _) _).drew.alloc _ _)) (by rfl) (by decide) (new_two _ _ _ _ _ (by simp)) (fun j _ => by split <;> rfl) (by omega) (by omega) ?_; intro p' c' w2 hv2 ho2 hp2; obtain ⟨⟨k1, k2, k3, k4⟩, X1, hX1, k5, k6, k7, k9, k10, k8⟩ := HP.out _ (grownDrewN (Grown.refl _) _).drew _ _ _ hv2 ho2 hp2; clear hv2 ho2 hp2))
  all_goals go_wp2_with (at_builtin; refine wpList_append_vec rfl (.tmp 34) (.tmp 35) 39 rfl Try.underlying39 infoBool rfl rfl (HV2.out _ _ _ (k8.out _ (Grown.refl _)).1) rfl (by decide) (new_one _ _ _) (fun _ _ => rfl) (by omega) (by omega) ?_; intro p2 c2' w4 hv4 ho4 hp4; obtain ⟨⟨m1, m2⟩, X2, hX2, m3, m4⟩ := HP2.out _ _ _ (k8.out _ (Grown.refl _)) _ _ _ hv4 ho4 hp4; clear hv4 ho4 hp4)
  all_goals go_ret2
  all_goals exact ⟨rfl, m4.out⟩
set_option maxHeartbeats 2000000 in
theorem rput_old {x : Nat} {rr : List Nat} (h : RfM w R t r) (hw : t.Wf) (hf : t.len < t.m) (hd : t.d = x :: rr) (v : Int × Int) :
    Calls Try.prog 12 #[ptr R, nodeV v] w fun e w' => e = .returned (.tuple #[.int .i64 (x : Int), .int .i64 0]) ∧ RfM w' R (t.put v) r ∧ Out (Foot R (rvs t r)) w w' := by
  have hl := fun W (g : Grown w W) => rlen_m (show RfM W R t r from Hold.grown h g) hw
  obtain ⟨Bb, Bl, e1, e2, l1, l2, n1, n2, q1, q2, q3, cb, cl0, cl1, f1, f2⟩ := h.opens hw
  have c0 : w.cell? ⟨R, 0, none⟩ = some (.int .i64 (t.m : Int)) := h.cell 0 rfl
  have c1 : w.cell? ⟨R, 1, none⟩ = some (.slice r.pb t.n r.cb) := h.cell 1 rfl
  have c2 : w.cell? ⟨R, 2, none⟩ = some (.slice r.pl t.n r.cl) := h.cell 2 rfl
  have c3 : w.cell? ⟨R, 3, none⟩ = some (.slice r.pg t.d.length r.cg) := h.cell 3 rfl
  have hg : Vec w 3 1 r.pg t.d.length r.cg (dropC t.d) := h.vec 2 _ rfl
  rw [e1] at c1
  rw [e2] at c2
  rw [hd] at c3 hg
  obtain ⟨Bg, e3, l3, cg, f3, n3⟩ := hg.opens (by simp)
  rw [e3] at c3
  obtain ⟨hx1, hx2, hx3⟩ := (hw.drop x).1 (by rw [hd]; exact List.mem_cons_self ..)
  have cx : w.cell? ⟨Bg, rr.length, none⟩ = some (.int .i64 (x : Int)) := (cg _ (by simp)).trans (by rw [dropC_last])
  have c4 := cb x hx2
  have c5 := cl0 x hx2
  have c6 := cl1 x hx2
  rw [hx3] at c4 c5 c6
  have c4' : w.cell? ⟨Bb, x, none⟩ = some (.bool false) := c4
  have c5' : w.cell? ⟨Bl, x * 2, none⟩ = some (.int .i64 0) := c5
  have c6' : w.cell? ⟨Bl, x * 2 + 1, none⟩ = some (.int .i64 0) := c6
  have c3' : w.cell? ⟨R, 3, none⟩ = some (.slice (some ⟨Bg, 0, none⟩) (rr.length + 1) r.cg) := c3
  have hA := h.lt
  have hfz := h.frozen
  have d1 : decide ((t.m : Int) ≤ (t.len : Int)) = false := by rw [decide_eq_false_iff_not]; omega
  have hr : rr.length ≤ 65536 := by
    have h1 := hw.few
    have := hw.top
    have := hw.cap
    rw [hd] at h1
    simp at h1; omega
  have hnb : t.n ≤ 65537 := by have := hw.top; have := hw.cap; omega
  have hcd : rr.length + 1 ≤ r.cg := by simpa using n3
  have RR : Hid (∀ X, Grown w X → ∀ W, Grown ((((X.setCell ⟨R, 3, none⟩ (.slice (some ⟨Bg, 0, none⟩) rr.length r.cg)).setCell ⟨Bl, x * 2, none⟩ (.int .i64 v.1)).setCell ⟨Bl, x * 2 + 1, none⟩ (.int .i64 v.2)).setCell ⟨Bb, x, none⟩ (.bool true)) W → RfM W R (t.put v) r ∧ Out (Foot R (rvs t r)) w W) := fun X gX W g => by
    have h := (show RfM X R t r from Hold.grown h gX)
    have g1 := Hold.retell (i := 2) (Hold.setHead h 3 (.slice (some ⟨Bg, 0, none⟩) rr.length r.cg)) rfl rr.length (dropC rr) (by show rr.length ≤ t.d.length; rw [hd]; simp) (fun j hj => by
      show dropC t.d j = dropC rr j
      have hj' : j < rr.length * 1 := hj
      rw [hd, dropC_cons _ _ _ (by omega), if_pos (by omega)])
    have g2 : RfM (X.setCell ⟨R, 3, none⟩ (.slice (some ⟨Bg, 0, none⟩) rr.length r.cg)) R { t with d := rr } r := by
      unfold RfM rhd
      rw [e3]
      exact g1
    have g3 := g2.fullNode e1 e2 x v
    have e : ({ t with d := rr } : As).at x (some v) = t.put v := by
      unfold As.at As.put As.mid
      rw [if_neg (by rw [hd]; simp), As.give_old hd, hd]
      rfl
    rw [e] at g3
    exact ⟨Hold.grown g3 g, Out.after gX ((((((Out.refl (Foot R (rvs t r)) X).setCell (a := ⟨R, 3, none⟩) (Or.inl rfl) _).setCell (a := ⟨Bl, x * 2, none⟩) (foot_l e2) _).setCell (a := ⟨Bl, x * 2 + 1, none⟩) (foot_l e2) _).setCell (a := ⟨Bb, x, none⟩) (foot_b e1) _).more g)⟩
  obtain ⟨L, hL⟩ : ∃ L : Int, L = (t.len : Int) := ⟨_, rfl⟩
  obtain ⟨M, hM⟩ : ∃ M : Int, M = (t.m : Int) := ⟨_, rfl⟩
  obtain ⟨n, hn⟩ : ∃ n, n = t.n := ⟨_, rfl⟩
  obtain ⟨k, hk⟩ : ∃ k, k = rr.length := ⟨_, rfl⟩
  simp only [← hL] at hl d1
  rw [← hM] at c0 d1
  rw [← hn] at c1 c2 hx2 hnb n1 n2
  rw [← hk] at c3' cx RR hr hcd
  clear hL hM hn hk h hd c3 cb cl0 cl1 c4 c5 c6 e1 e2 e3 hg cg n3 hx3
  unfold ptr nodeV at *
  go_enter Try.func12, Try.ntmps12
  go_wp2
  go_quiet (first | (go_at_call 20; exact Calls.quiet_of (hl _ (grownDrewN ((Grown.refl _).alloc _ _) _))))
  go_wp2
  go_quiet (fail)
  go_wp2
  go_region
  go_wp2
  go_region
  go_wp2
  go_ret2
  exact ⟨rfl, RR.out _ (grownDrewN ((Grown.refl _).alloc _ _) _) _ (Grown.refl _).drew⟩
theorem RfM.start {W : World} {A Bb Bl m : Nat} (hA : W.heap[A]? = some (.cells #[.int .i64 (m : Int), .slice (some ⟨Bb, 0, none⟩) 1 1, .slice (some ⟨Bl, 0, none⟩) 1 1, .slice none 0 0] 43 (0, 0))) (hb : W.heap[Bb]? = some (.cells #[.bool false] 4 (0, 0))) (hl : W.heap[Bl]? = some (.cells #[.int .i64 0, .int .i64 0] 30 (0, 0))) (h1 : A ≠ Bb) (h2 : A ≠ Bl) (h3 : Bb ≠ Bl) :
    RfM W A (As.zero m) ⟨some ⟨Bb, 0, none⟩, 1, some ⟨Bl, 0, none⟩, 1, none, 0⟩ := by
  have vb : Vec W 4 1 (some ⟨Bb, 0, none⟩) 1 1 (heldC (As.zero m).s) := Or.inr ⟨Bb, _, rfl, hb, by omega, by decide, rfl, fun j hj => by
    obtain rfl : j = 0 := by omega
    rfl⟩
  have vl : Vec W 30 2 (some ⟨Bl, 0, none⟩) 1 1 (nodC (As.zero m).s) := Or.inr ⟨Bl, _, rfl, hl, by omega, by decide, rfl, fun j hj => by
    have : j = 0 ∨ j = 1 := by omega
    rcases this with rfl | rfl <;> rfl⟩
  have vg : Vec W 3 1 none 0 0 (dropC []) := Vec.nil _ _ _ _
  refine ⟨hA, fun i V hi => ?_, fun i V hi => ?_, fun i j V U hi hj hij k hk hk' => ?_⟩
  · match i, hi with
    | 0, hi => cases hi; exact vb
    | 1, hi => cases hi; exact vl
    | 2, hi => cases hi; exact vg
  · match i, hi with
    | 0, hi => cases hi; exact fun e => h1 e.eq
    | 1, hi => cases hi; exact fun e => h2 e.eq
    | 2, hi => cases hi; exact In.no
  · match i, hi, j, hj with
    | 0, hi, 1, hj => cases hi; cases hj; exact h3 (hk.eq.symm.trans hk'.eq)
    | 1, hi, 0, hj => cases hi; cases hj; exact h3 (hk'.eq.symm.trans hk.eq)
    | 0, _, 0, _ => exact hij rfl
    | 1, _, 1, _ => exact hij rfl
    | 2, _, 2, _ => exact hij rfl
    | 2, hi, 0, _ => cases hi; exact In.no hk
    | 2, hi, 1, _ => cases hi; exact In.no hk
    | 0, _, 2, hj => cases hj; exact In.no hk'
    | 1, _, 2, hj => cases hj; exact In.no hk'
theorem rfoot {A Bb Bl B m : Nat} (h1 : B ≤ A) (h2 : B ≤ Bb) (h3 : B ≤ Bl) : ∀ k, Foot A (rvs (As.zero m) ⟨some ⟨Bb, 0, none⟩, 1, some ⟨Bl, 0, none⟩, 1, none, 0⟩) k → B ≤ k := by
  rintro k (rfl | ⟨i, V, hi, hk⟩)
  · exact h1
  · match i, hi with
    | 0, hi => cases hi; rw [hk.eq]; exact h2
    | 1, hi => cases hi; rw [hk.eq]; exact h3
    | 2, hi => cases hi; exact absurd hk In.no
/-- Three blocks, one behind the other. -/
theorem blocks3 (X : World) (o1 o2 o3 : Array Value) (y1 y2 y3 : TypeId) : (((X.alloc (.cells o1 y1)).alloc (.cells o2 y2)).alloc (.cells o3 y3)).heap[X.heap.size]? = some (.cells o1 y1 (0, 0)) ∧ (((X.alloc (.cells o1 y1)).alloc (.cells o2 y2)).alloc (.cells o3 y3)).heap[X.heap.size + 1]? = some (.cells o2 y2 (0, 0)) ∧ (((X.alloc (.cells o1 y1)).alloc (.cells o2 y2)).alloc (.cells o3 y3)).heap[X.heap.size + 1 + 1]? = some (.cells o3 y3 (0, 0)) := by
  have h1 := heap2_old (X.alloc (.cells o1 y1)) (.cells o2 y2) (.cells o3 y3)
  have h2 := heap2_new (X.alloc (.cells o1 y1)) (.cells o2 y2) (.cells o3 y3)
  rw [nblk_alloc] at h1 h2
  exact ⟨by rw [grown_block (((Grown.refl _).alloc _ _).alloc _ _) (by simp), blk_alloc_new], h1, h2⟩
theorem make_b (w : World) : (Instr.makeSlice 39 (.int .i64 1) (.int .i64 1)).run Try.prog w = .ok (.slice (some ⟨w.heap.size, 0, none⟩) 1 1) (w.alloc (.cells #[.bool false] 4)) := by kernel_rfl
theorem make_n (w : World) : (Instr.makeSlice 40 (.int .i64 1) (.int .i64 1)).run Try.prog w = .ok (.slice (some ⟨w.heap.size, 0, none⟩) 1 1) (w.alloc (.cells #[.int .i64 0, .int .i64 0] 30)) := by kernel_rfl
theorem rnew_m (most : Int) (w : World) :
    Calls Try.prog 10 #[.int .i64 most] w fun e w' => ∃ A, e = .returned (ptr A) ∧ Grown w w' ∧ ∃ r, RfM w' A (As.zero (mostI most)) r ∧ ∀ k, Foot A (rvs (As.zero (mostI most)) r) k → w.heap.size ≤ k := by
  have h0 : ((mostI most : Nat) : Int) = min (max most 0) 65536 := by unfold mostI; omega
  have hs1 : Hid (∀ x : Int, x = ((mostI most : Nat) : Int) → ∃ A, Ending.returned (.pointer (some ⟨w.heap.size + 1 + 1, 0, none⟩)) = .returned (ptr A) ∧ Grown w (((w.drew.alloc (.cells #[.bool false] 4)).alloc (.cells #[.int .i64 0, .int .i64 0] 30)).alloc (.cells #[.int .i64 x, .slice (some ⟨w.heap.size, 0, none⟩) 1 1, .slice (some ⟨w.heap.size + 1, 0, none⟩) 1 1, .slice none 0 0] 43)) ∧ ∃ r, RfM (((w.drew.alloc (.cells #[.bool false] 4)).alloc (.cells #[.int .i64 0, .int .i64 0] 30)).alloc (.cells #[.int .i64 x, .slice (some ⟨w.heap.size, 0, none⟩) 1 1, .slice (some ⟨w.heap.size + 1, 0, none⟩) 1 1, .slice none 0 0] 43)) A (As.zero (mostI most)) r ∧ ∀ k, Foot A (rvs (As.zero (mostI most)) r) k → w.heap.size ≤ k) := fun x hx => by
    subst hx
    obtain ⟨b1, b2, b3⟩ := blocks3 w.drew #[.bool false] #[.int .i64 0, .int .i64 0] #[.int .i64 ((mostI most : Nat) : Int), .slice (some ⟨w.heap.size, 0, none⟩) 1 1, .slice (some ⟨w.heap.size + 1, 0, none⟩) 1 1, .slice none 0 0] 4 30 43
    exact ⟨_, rfl, ((((Grown.refl _).drew).alloc _ _).alloc _ _).alloc _ _, _, RfM.start b3 b1 b2 (by show w.heap.size + 1 + 1 ≠ w.heap.size; omega) (by show w.heap.size + 1 + 1 ≠ w.heap.size + 1; omega) (by show w.heap.size ≠ w.heap.size + 1; omega), rfoot (by omega) (Nat.le_refl _) (by omega)⟩
  have hs2 : Hid (∀ x : Int, x = ((mostI most : Nat) : Int) → ∃ A, Ending.returned (.pointer (some ⟨w.heap.size + 1 + 1, 0, none⟩)) = .returned (ptr A) ∧ Grown w (((w.drew.alloc (.cells #[.int .i64 0, .int .i64 0] 30)).alloc (.cells #[.bool false] 4)).alloc (.cells #[.int .i64 x, .slice (some ⟨w.heap.size + 1, 0, none⟩) 1 1, .slice (some ⟨w.heap.size, 0, none⟩) 1 1, .slice none 0 0] 43)) ∧ ∃ r, RfM (((w.drew.alloc (.cells #[.int .i64 0, .int .i64 0] 30)).alloc (.cells #[.bool false] 4)).alloc (.cells #[.int .i64 x, .slice (some ⟨w.heap.size + 1, 0, none⟩) 1 1, .slice (some ⟨w.heap.size, 0, none⟩) 1 1, .slice none 0 0] 43)) A (As.zero (mostI most)) r ∧ ∀ k, Foot A (rvs (As.zero (mostI most)) r) k → w.heap.size ≤ k) := fun x hx => by
    subst hx
    obtain ⟨b1, b2, b3⟩ := blocks3 w.drew #[.int .i64 0, .int .i64 0] #[.bool false] #[.int .i64 ((mostI most : Nat) : Int), .slice (some ⟨w.heap.size + 1, 0, none⟩) 1 1, .slice (some ⟨w.heap.size, 0, none⟩) 1 1, .slice none 0 0] 30 4 43
    exact ⟨_, rfl, ((((Grown.refl _).drew).alloc _ _).alloc _ _).alloc _ _, _, RfM.start b3 b2 b1 (by show w.heap.size + 1 + 1 ≠ w.heap.size + 1; omega) (by show w.heap.size + 1 + 1 ≠ w.heap.size; omega) (by show w.heap.size + 1 ≠ w.heap.size; omega), rfoot (by omega) (by omega) (Nat.le_refl _)⟩
  have mk1 := make_b
  have mk2 := make_n
  have hc : most < 0 ∨ (0 ≤ most ∧ most ≤ 65536) ∨ (0 ≤ most ∧ 65536 < most) := by omega
  rcases hc with h | ⟨h, h'⟩ | ⟨h, h'⟩
  · have hx : Hid ((0 : Int) = ((mostI most : Nat) : Int)) := by show _ = _; omega
    clear h0
    go_enter Try.func10, Try.ntmps10
    go_wp2
    go_region
    all_goals (try go_wp2)
    all_goals go_ret
    all_goals first | exact hs1.out _ hx.out | exact hs2.out _ hx.out
  · have hx : Hid (most = ((mostI most : Nat) : Int)) := by show _ = _; omega
    clear h0
    go_enter Try.func10, Try.ntmps10
    go_wp2
    go_region
    all_goals (try go_wp2)
    all_goals go_ret
    all_goals first | exact hs1.out _ hx.out | exact hs2.out _ hx.out
  · have hx : Hid ((65536 : Int) = ((mostI most : Nat) : Int)) := by show _ = _; omega
    clear h0
    go_enter Try.func10, Try.ntmps10
    go_wp2
    go_region
    all_goals (try go_wp2)
    all_goals go_ret
    all_goals first | exact hs1.out _ hx.out | exact hs2.out _ hx.out

/-! ### The document's arena by its state and its blocks -/
def Rfe (w : World) (R : Nat) (F : Nat → Prop) (t : As) : Prop := t.Wf ∧ ∃ r, RfM w R t r ∧ F = Foot R (rvs t r)
theorem Rfe.lt {F : Nat → Prop} (h : Rfe w R F t) {k : Nat} (hk : F k) : k < w.heap.size := by
  obtain ⟨_, r, h, rfl⟩ := h
  exact Hold.foot_lt h hk
theorem Rfe.out {F G : Nat → Prop} (h : Rfe w R F t) (o : Out G w w') (hF : ∀ k, F k → ¬ G k) : Rfe w' R F t := by
  obtain ⟨hw, r, h, rfl⟩ := h
  exact ⟨hw, r, Hold.out h o hF, rfl⟩
theorem Rfe.grown {F : Nat → Prop} (h : Rfe w R F t) (g : Grown w w') : Rfe w' R F t := h.out (Out.of_grown g fun _ => False) (fun _ _ => id)
variable {F : Nat → Prop}
theorem rnew_a (most : Int) (w : World) :
    Calls Try.prog 10 #[.int .i64 most] w fun e w' => ∃ A F, e = .returned (ptr A) ∧ Rfe w' A F (As.zero (mostI most)) ∧ Grown w w' ∧ ∀ k, F k → w.heap.size ≤ k := by
  refine (rnew_m most w).mono ?_
  rintro e w' ⟨A, rfl, hg, r, hm, hf⟩
  exact ⟨A, _, rfl, ⟨As.zero_wf (mostI_le most), r, hm, rfl⟩, hg, hf⟩
theorem rlen_a (h : Rfe w R F t) : Calls Try.prog 20 #[ptr R] w fun e w' => e = .returned (.int .i64 (t.len : Int)) ∧ ∃ d, w' = w.drewN d := by
  obtain ⟨hw, r, h, rfl⟩ := h
  exact rlen_m h hw
theorem rget_a (h : Rfe w R F t) (id : Int) : Calls Try.prog 18 #[ptr R, .int .i64 id] w fun e w' => e = .returned (.tuple #[nodeV (t.nodeI id), .int .i64 (t.errI id)]) ∧ Grown w w' := by
  obtain ⟨hw, r, h, rfl⟩ := h
  unfold As.nodeI As.errI
  cases hu : t.under id with
  | none => exact rget_no h hw id hu
  | some u =>
    obtain ⟨i, rfl, hi⟩ := As.under_some hu
    exact rget_yes h hw i u hi
theorem rset_a (h : Rfe w R F t) (id : Int) (v : Int × Int) : Calls Try.prog 16 #[ptr R, .int .i64 id, nodeV v] w fun e w' => e = .returned (.int .i64 (t.errI id)) ∧ ∃ F', Rfe w' R F' (t.setI id v) ∧ Step F F' w w' := by
  obtain ⟨hw, r, h, rfl⟩ := h
  unfold As.setI As.errI
  cases hu : t.under id with
  | none =>
    refine (rset_no h hw id v hu).mono ?_
    rintro e w' ⟨rfl, g⟩
    exact ⟨rfl, _, ⟨hw, r, Hold.grown h g, rfl⟩, Step.grown _ g⟩
  | some u =>
    obtain ⟨i, rfl, hi⟩ := As.under_some hu
    refine (rset_yes h hw i v u hi).mono ?_
    rintro e w' ⟨rfl, hm, ho⟩
    exact ⟨rfl, _, ⟨As.set_wf hw hi, r, hm, rfl⟩, ho, fun k hk => Or.inl (foot_cast (by rfl) hk)⟩
theorem rdrop_a (h : Rfe w R F t) (id : Int) : Calls Try.prog 14 #[ptr R, .int .i64 id] w fun e w' => e = .returned (.int .i64 (t.errI id)) ∧ ∃ F', Rfe w' R F' (t.dropI id) ∧ Step F F' w w' := by
  obtain ⟨hw, r, h, rfl⟩ := h
  unfold As.dropI As.errI
  cases hu : t.under id with
  | none =>
    refine (rdrop_no h hw id hu).mono ?_
    rintro e w' ⟨rfl, rfl⟩
    exact ⟨rfl, _, ⟨hw, r, h, rfl⟩, Step.grown _ (Grown.refl _)⟩
  | some u =>
    obtain ⟨i, rfl, hi⟩ := As.under_some hu
    refine (rdrop_yes h hw i u hi).mono ?_
    rintro e w' ⟨rfl, r', hm, hs⟩
    exact ⟨rfl, _, ⟨As.drop_wf hw hi, r', hm, rfl⟩, hs⟩
theorem rput_a (h : Rfe w R F t) (v : Int × Int) : Calls Try.prog 12 #[ptr R, nodeV v] w fun e w' => e = .returned (.tuple #[.int .i64 t.giveI, .int .i64 t.putE]) ∧ ∃ F', Rfe w' R F' (t.putI v) ∧ Step F F' w w' := by
  obtain ⟨hw, r, h, rfl⟩ := h
  unfold As.putI As.giveI As.putE
  cases hr : t.room with
  | false =>
    refine (rput_full h hw (by simpa [As.room] using hr) v).mono ?_
    rintro e w' ⟨rfl, g⟩
    exact ⟨rfl, _, ⟨hw, r, Hold.grown h g, rfl⟩, Step.grown _ g⟩
  | true =>
    have hl : t.len < t.m := by simpa [As.room] using hr
    cases hd : t.d with
    | nil =>
      refine (rput_new h hw hl hd v).mono ?_
      rintro e w' ⟨rfl, r', hm, hs⟩
      exact ⟨by rw [← As.give_new hd]; rfl, _, ⟨As.put_wf hw hl, r', hm, rfl⟩, hs⟩
    | cons x rr =>
      refine (rput_old h hw hl hd v).mono ?_
      rintro e w' ⟨rfl, hm, ho⟩
      exact ⟨by rw [← As.give_old hd]; rfl, _, ⟨As.put_wf hw hl, r, hm, rfl⟩, ho, fun k hk => Or.inl (foot_cast (by rfl) hk)⟩
end Go.Proofs.Ytkjnpgpgcikhgaa
