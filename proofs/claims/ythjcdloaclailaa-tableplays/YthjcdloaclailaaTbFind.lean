/-
  A table all in one: its blocks, its chains, what it holds; what find and Get do when they are called. No condition but those told at each sentence.
-/
import Derived.Test.YthjcdloaclailaaTbMem
import Derived.Deep.MidRow
namespace Go.Proofs.Ythjcdloaclailaa.Tb
open Go.RowKit Go.Deep Us

structure Tab where
  X : Nat
  B : Nat
  s : Int
  n : Nat
  l : Nat
  D : List Lk
  val : Addr → Value
  c : Nat → List Lk
structure Shape (t : Tab) : Prop where
  link : ∀ j, j < t.n → Linked t.val ⟨t.B, j, none⟩ (t.c j)
  mem : ∀ j, j < t.n → ∀ x ∈ t.c j, x ∈ t.D ∧ pl t.s t.n t.l x.2.k = j
  all : ∀ x ∈ t.D, x ∈ t.c (pl t.s t.n t.l x.2.k)
  nod : ∀ j, j < t.n → ((t.c j).map (·.1)).Nodup
  keys : (t.D.map (·.2.k)).Nodup
  ev : t.n % 2 = 0
  lo : 8 ≤ t.n
  hi : t.n ≤ 131072
  le : t.l ≤ t.n / 2
structure Tb (w : World) (t : Tab) : Prop where
  mem : Mem w t.X t.B t.s t.n t.l t.D.length t.D t.val
  sh : Shape t
variable {w w' : World} {t : Tab} {key : Int} {l : List Lk}
def Tab.F (t : Tab) (k : Nat) : Prop := foot t.X t.B t.D k
namespace Tb
theorem out {F : Nat → Prop} (h : Tb w t) (o : Out F w w') (hF : ∀ i, t.F i → ¬ F i) : Tb w' t := ⟨h.mem.out o hF, h.sh⟩
theorem grown (h : Tb w t) (g : Grown w w') : Tb w' t := ⟨h.mem.grown g, h.sh⟩
theorem drewN (h : Tb w t) (k : Nat) : Tb (w.drewN k) t := ⟨h.mem.drewN k, h.sh⟩
theorem lt (h : Tb w t) {k : Nat} (hk : t.F k) : k < w.heap.size := h.mem.lt hk
end Tb
/-- The part of a chain ahead of a key, and the rest. -/
def ahd (key : Int) (l : List Lk) : List Lk := l.takeWhile fun x => decide (x.2.k ≠ key)
def rst (key : Int) (l : List Lk) : List Lk := l.dropWhile fun x => decide (x.2.k ≠ key)
theorem ahd_rst (key : Int) (l : List Lk) : ahd key l ++ rst key l = l := List.takeWhile_append_dropWhile ..
theorem ahd_split {key : Int} : ∀ {p r : List Lk}, (∀ x ∈ p, x.2.k ≠ key) → (∀ x q, r = x :: q → x.2.k = key) → ahd key (p ++ r) = p ∧ rst key (p ++ r) = r
  | [], [], _, _ => ⟨rfl, rfl⟩
  | [], x :: q, _, h => by simp [ahd, rst, h x q rfl]
  | y :: p, r, h1, h2 => by
    obtain ⟨e1, e2⟩ := ahd_split (fun x hx => h1 x (by simp [hx])) h2 (p := p) (r := r)
    have hy := h1 y (by simp)
    unfold ahd rst at *
    constructor
    · rw [List.cons_append, List.takeWhile_cons, if_pos (by simpa using hy), e1]
    · rw [List.cons_append, List.dropWhile_cons, if_pos (by simpa using hy), e2]
theorem nx_some {x : Lk} {r : List Lk} : nx (x :: r) = .pointer (some ⟨x.1, 0, none⟩) := rfl
theorem end_at {B j n : Nat} {D l : List Lk} (hj : j < n) (h : ∀ x ∈ l, x ∈ D) : At B n D (endA ⟨B, j, none⟩ l) := by
  rcases endA_at l ⟨B, j, none⟩ with ⟨e, _⟩ | ⟨x, hx, e⟩
  · exact .inl ⟨j, hj, e⟩
  · exact .inr ⟨x, h x hx, e⟩
/-- How much of a chain lies behind a place in it. -/
theorem rank_ex : ∀ (l : List Lk) (p : Addr), (l.map (·.1)).Nodup → (∀ x ∈ l, p ≠ ⟨x.1, 4, none⟩) → ∃ μ : Value → Nat, ∀ a r, l = a ++ r → μ (.pointer (some (endA p a))) = r.length
  | [], p, _, _ => ⟨fun _ => 0, fun a r h => by
    have : a = [] ∧ r = [] := by simpa using h.symm
    rw [this.2]; rfl⟩
  | x :: t, p, hn, hp => by
    classical
    simp only [List.map_cons, List.nodup_cons] at hn
    obtain ⟨μ, hμ⟩ := rank_ex t ⟨x.1, 4, none⟩ hn.2 fun y hy e => hn.1 (by
      rw [show x.1 = y.1 from congrArg Addr.block e]
      exact List.mem_map_of_mem hy)
    refine ⟨fun v => if v = .pointer (some p) then t.length + 1 else μ v, fun a r h => ?_⟩
    cases a with
    | nil =>
      have : r = x :: t := by simpa using h.symm
      show ite _ _ _ = _
      rw [this, endA, if_pos rfl]; rfl
    | cons y a =>
      simp only [List.cons_append, List.cons.injEq] at h
      obtain ⟨rfl, h⟩ := h
      have hne : endA p (x :: a) ≠ p := fun e => by
        rcases endA_at (x :: a) p with ⟨_, e2⟩ | ⟨z, hz, e2⟩
        · cases e2
        · refine hp z ?_ (e.symm.trans e2)
          rcases List.mem_cons.1 hz with rfl | hz
          · simp
          · rw [h]; simp [hz]
      show ite _ _ _ = _
      rw [if_neg (fun e => hne (by simpa using e))]
      exact hμ a r h
/-- How long a chain is from a link on. -/
theorem rank_nx : ∀ (l : List Lk), (l.map (·.1)).Nodup → ∃ μ : Value → Nat, ∀ a r, l = a ++ r → μ (nx r) = r.length
  | [], _ => ⟨fun _ => 0, fun a r h => by
    have : a = [] ∧ r = [] := by simpa using h.symm
    rw [this.2]; rfl⟩
  | x :: t, hn => by
    classical
    simp only [List.map_cons, List.nodup_cons] at hn
    obtain ⟨μ, hμ⟩ := rank_nx t hn.2
    refine ⟨fun v => if v = nx (x :: t) then t.length + 1 else μ v, fun a r h => ?_⟩
    cases a with
    | nil =>
      have : r = x :: t := by simpa using h.symm
      show ite _ _ _ = _
      rw [this, if_pos rfl]; rfl
    | cons y a =>
      simp only [List.cons_append, List.cons.injEq] at h
      obtain ⟨rfl, h⟩ := h
      have hne : nx r ≠ nx (x :: t) := fun e => by
        cases r with
        | nil => cases e
        | cons z r =>
          simp only [nx, Value.pointer.injEq, Option.some.injEq, Addr.mk.injEq, and_true] at e
          exact hn.1 (by rw [← e, h]; simp)
      show ite _ _ _ = _
      rw [if_neg hne]
      exact hμ a r h
theorem end_form (l : List Lk) (B j : Nat) : ∃ b o, (⟨b, o, none⟩ : Addr) = endA ⟨B, j, none⟩ l := by
  rcases endA_at l ⟨B, j, none⟩ with ⟨e, _⟩ | ⟨x, _, e⟩
  · exact ⟨_, _, e.symm⟩
  · exact ⟨_, _, e.symm⟩
set_option maxRecDepth 4000 in
set_option maxHeartbeats 1000000 in
theorem find_t (h : Tb w t) (key : Int) : Calls Try.prog 32 #[ptr t.X, .int .i64 key] w fun e w' => e = .returned (.pointer (some (endA ⟨t.B, pl t.s t.n t.l key, none⟩ (ahd key (t.c (pl t.s t.n t.l key)))))) ∧ ∃ k, w' = w.drewN k := by
  have hlo := h.sh.lo
  have hhi := h.sh.hi
  have pc := fun k => place_h (w := w.drewN k) (h.mem.drewN k).head h.sh.le h.sh.hi (by omega) key
  have hj : pl t.s t.n t.l key < t.n := pl_lt (by omega)
  obtain ⟨j, hjj⟩ : ∃ j, j = pl t.s t.n t.l key := ⟨_, rfl⟩
  rw [← hjj] at hj pc ⊢
  have hlk : Linked t.val ⟨t.B, j, none⟩ (t.c j) := h.sh.link j hj
  have hD : Hid (∀ x ∈ t.c j, x ∈ t.D) := fun x hx => (h.sh.mem j hj x hx).1
  have hM := h.mem
  obtain ⟨c0, c1, c2, c3⟩ := hM.head.cells
  have hb := lt_of hM.head
  obtain ⟨l, hl⟩ : ∃ l, l = t.c j := ⟨_, rfl⟩
  have hnd := h.sh.nod j hj
  rw [← hl] at hlk hD hnd ⊢
  have hM : Hid (Mem w t.X t.B t.s t.n t.l t.D.length t.D t.val) := hM
  have hlk : Hid (Linked t.val ⟨t.B, j, none⟩ l) := hlk
  have hn1 : (t.n : Int) ≤ 131072 := by omega
  have hjn : (j : Int) < (t.n : Int) := by omega
  have hn64 : t.n ≤ 131072 := hhi
  obtain ⟨X, hX⟩ : ∃ X, X = t.X := ⟨_, rfl⟩
  rw [← hX] at pc c0 c1 c2 c3 hb ⊢
  obtain ⟨B, hB⟩ : ∃ B, Hid (B = t.B) := ⟨_, rfl⟩
  obtain ⟨n, hn⟩ : ∃ n, Hid (n = t.n) := ⟨_, rfl⟩
  rw [← hn.out] at hj hlo hhi hn1 hjn hn64 c1
  rw [← hB.out] at c1 ⊢
  obtain ⟨μ, hμ⟩ := rank_ex l ⟨B, j, none⟩ hnd fun x hx e => (hM.out.sep x (hD.out x hx)).2 (by rw [← hB.out]; exact (congrArg Addr.block e).symm)
  have hμ : Hid (∀ a r, l = a ++ r → μ (.pointer (some (endA ⟨B, j, none⟩ a))) = r.length) := hμ
  clear h hX hjj hl hnd
  unfold ptr at *
  go_enter Try.func32, Try.ntmps32
  go_wp2
  go_quiet (first | (go_at_call 46; exact Calls.quiet_of (pc _)))
  go_wp2
  go_loopw [5] (fun p wr => ∃ (a r : List Lk) (d : Nat), Hid (l = a ++ r) ∧ Hid (∀ x ∈ a, x.2.k ≠ key) ∧ p = .pointer (some (endA ⟨B, j, none⟩ a)) ∧ wr = w.drewN d) (fun p _ => μ p)
  case atStart => exact ⟨[], l, _, rfl, fun x hx => by (cases hx), rfl, rfl⟩
  case round =>
    obtain ⟨a, r, d, hla, ha, rfl, rfl⟩ := hrel
    obtain ⟨Ab, Ao, hA⟩ : ∃ b o, Hid ((⟨b, o, none⟩ : Addr) = endA ⟨B, j, none⟩ a) := end_form a B j
    have hat : Hid (At t.B t.n t.D ⟨Ab, Ao, none⟩) := by
      show At t.B t.n t.D ⟨Ab, Ao, none⟩
      rw [hA.out, hB.out]
      exact end_at (by rw [← hn.out]; exact hj) fun x hx => hD.out x (by rw [hla.out]; simp [hx])
    obtain ⟨cA, _, lA⟩ := hM.out.cell hat.out
    have lA : Ab < w.heap.size := lA
    have hL : Linked t.val ⟨Ab, Ao, none⟩ r := by
      have := hlk.out
      rw [hla.out, linked_app, ← hB.out, ← hA.out] at this
      exact this.2
    rw [linked_first hL] at cA
    have hL : Hid (Linked t.val ⟨Ab, Ao, none⟩ r) := hL
    have hmu : Hid (μ (.pointer (some ⟨Ab, Ao, none⟩)) = r.length) := by
      show μ (.pointer (some ⟨Ab, Ao, none⟩)) = r.length
      rw [hA.out]
      exact hμ.out a r hla.out
    rw [← hA.out]
    cases r with
    | nil =>
      change _ = some (Value.pointer none) at cA
      have he : Hid ((⟨Ab, Ao, none⟩ : Addr) = endA ⟨B, j, none⟩ (ahd key l)) := by
        show (⟨Ab, Ao, none⟩ : Addr) = _
        have := (ahd_split ha.out (r := []) (fun x q e => by cases e)).1
        rw [← hla.out] at this
        rw [this, hA.out]
      clear pc
      go_wp2
      go_ret
      rw [← he.out]
      exact ⟨rfl, _, rfl⟩
    | cons x r =>
      change _ = some (Value.pointer (some ⟨x.1, 0, none⟩)) at cA
      have hx : x ∈ t.D := hD.out x (by rw [hla.out]; simp)
      have hk := hM.out.lnk x hx
      have k0 : w.cell? ⟨x.1, 0, none⟩ = some (.int .i64 x.2.k) := cell_of hk rfl
      have lx := lt_of hk
      by_cases e : x.2.k = key
      · have e1 : (x.2.k != key) = false := by simp [e]
        have he : Hid ((⟨Ab, Ao, none⟩ : Addr) = endA ⟨B, j, none⟩ (ahd key l)) := by
          show (⟨Ab, Ao, none⟩ : Addr) = _
          have := (ahd_split ha.out (r := x :: r) (fun y q e' => by cases e'; exact e)).1
          rw [← hla.out] at this
          rw [this, hA.out]
        clear pc hk e
        generalize x.2.k = xk at *
        go_wp2
        go_ret
        rw [← he.out]
        exact ⟨rfl, _, rfl⟩
      · have e1 : (x.2.k != key) = true := by simp [e]
        have hrel : Hid (∃ (a' r' : List Lk), l = a' ++ r' ∧ (∀ y ∈ a', y.2.k ≠ key) ∧ endA ⟨B, j, none⟩ a' = ⟨x.1, 4, none⟩ ∧ r'.length < (x :: r).length) := by
          refine ⟨a ++ [x], r, by rw [hla.out]; simp, fun y hy => ?_, by rw [endA_app]; rfl, by simp⟩
          rcases List.mem_append.1 hy with hy | hy
          · exact ha.out y hy
          · rw [List.mem_singleton.1 hy]; exact e
        clear pc hk e
        generalize x.2.k = xk at *
        go_wp2
        go_roundw
        case rel =>
          obtain ⟨a', r', h1, h2, h3, _⟩ := hrel.out
          exact ⟨a', r', _, h1, h2, by rw [h3], rfl⟩
        case measure =>
          obtain ⟨a', r', h1, h2, h3, h4⟩ := hrel.out
          have := hμ.out a' r' h1
          rw [h3] at this
          rw [this, hmu.out]
          exact h4
end Go.Proofs.Ythjcdloaclailaa.Tb
