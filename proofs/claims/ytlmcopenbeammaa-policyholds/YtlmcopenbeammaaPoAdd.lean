/-
  What add of package policy, and the calls that tell why an event may not happen, do when they are called. No condition but those told at each sentence.
-/
import Derived.Test.YtlmcopenbeammaaPoSet
namespace Go.Proofs.Ytlmcopenbeammaa.Po
open Go.RowKit Go.Deep Cm

/-- An event; a block that holds one. -/
def evV (d n k v : Int) : Value := .agg #[.int .i64 d, .int .i64 n, .int .i64 k, .int .i64 v]
def EvB (w : World) (b : Nat) (d n k v : Int) : Prop := w.heap[b]? = some (.cells #[.int .i64 d, .int .i64 n, .int .i64 k, .int .i64 v] 28 (0, 0))
theorem infoE (d n k v : Int) : (Try.prog.info? 28).map (·.size) = some (#[Value.int .i64 d, .int .i64 n, .int .i64 k, .int .i64 v]).size := by kernel_rfl
theorem EvB.cells {w : World} {b : Nat} {d n k v : Int} (h : EvB w b d n k v) : w.cell? ⟨b, 0, none⟩ = some (.int .i64 d) ∧ w.cell? ⟨b, 1, none⟩ = some (.int .i64 n) ∧ w.cell? ⟨b, 2, none⟩ = some (.int .i64 k) ∧ w.cell? ⟨b, 3, none⟩ = some (.int .i64 v) :=
  ⟨cell_of h rfl, cell_of h rfl, cell_of h rfl, cell_of h rfl⟩
theorem EvB.out {w w' : World} {b : Nat} {d n k v : Int} {Ψ : Nat → Prop} (h : EvB w b d n k v) (o : Out Ψ w w') (hb : ¬ Ψ b) : EvB w' b d n k v := (o.block b (lt_of h) hb).trans h
theorem EvB.new (w : World) (d n k v : Int) : EvB (w.alloc (.cells #[.int .i64 d, .int .i64 n, .int .i64 k, .int .i64 v] 28)) w.heap.size d n k v := blk_alloc_new _ _

def heavyE (C v : Int) : Int := if v < 0 then 1 else if 2147483648 < v ∨ C < v then 4 else 0
def refAdd (y : Ps) (C n v : Int) : Int := if n < 1 ∨ 65536 < n then 1 else if heavyE C v ≠ 0 then heavyE C v else if (y.k n).isSome then 5 else 0
def refE (y : Ps) (C d n v : Int) : Int := if d = 1 then refAdd y C n v else if d = 2 ∨ d = 3 ∨ d = 4 then (if (y.k n).isSome = false then 3 else if d = 3 then heavyE C v else 0) else 1
variable {w w' : World} {A S F X M mw : Nat} {G : Nat → Prop} {C seed : Int} {y : Ps}
theorem heavy_p (h : Pof w A S F X M G C seed mw y) (v : Int) :
    Calls Try.prog 42 #[ptr A, .int .i64 v] w fun e w' => e = .returned (.int .i64 (heavyE C v)) ∧ w' = w := by
  have k0 := h.pb.cells.2.2.2.1
  clear h
  unfold ptr
  by_cases h1 : v < 0
  · have e : heavyE C v = 1 := by unfold heavyE; rw [if_pos h1]
    have d1 : decide (v < 0) = true := by simpa using h1
    rw [e]
    clear e h1
    go_enter Try.func42, Try.ntmps42
    go_wp2
    go_ret
    exact ⟨rfl, rfl⟩
  · have d1 : decide (v < 0) = false := by simpa using h1
    by_cases h2 : 2147483648 < v
    · have e : heavyE C v = 4 := by unfold heavyE; rw [if_neg h1, if_pos (.inl h2)]
      have d2 : decide (2147483648 < v) = true := by simpa using h2
      rw [e]
      clear e h1 h2
      go_enter Try.func42, Try.ntmps42
      go_wp2
      go_ret
      exact ⟨rfl, rfl⟩
    · have d2 : decide (2147483648 < v) = false := by simpa using h2
      by_cases h3 : C < v
      · have e : heavyE C v = 4 := by unfold heavyE; rw [if_neg h1, if_pos (.inr h3)]
        have d3 : decide (C < v) = true := by simpa using h3
        rw [e]
        clear e h1 h2 h3
        go_enter Try.func42, Try.ntmps42
        go_wp2
        go_ret
        exact ⟨rfl, rfl⟩
      · have e : heavyE C v = 0 := by unfold heavyE; rw [if_neg h1, if_neg (fun h => h.elim h2 h3)]
        have d3 : decide (C < v) = false := by simpa using h3
        rw [e]
        clear e h1 h2 h3
        go_enter Try.func42, Try.ntmps42
        go_wp2
        go_ret
        exact ⟨rfl, rfl⟩
theorem grown_ev (w : World) (d n k v : Int) : Grown w (w.alloc (.cells #[.int .i64 d, .int .i64 n, .int .i64 k, .int .i64 v] 28)) := (Grown.refl _).alloc _ _
set_option maxHeartbeats 1000000 in
theorem refAdd_p (h : Pof w A S F X M G C seed mw y) (d n k v : Int) (hid : (Lit.int .i64 n).wf = true) :
    Calls Try.prog 40 #[ptr A, evV d n k v] w fun e w' => e = .returned (.int .i64 (refAdd y C n v)) ∧ Grown w w' := by
  have hg := grown_ev w d n k v
  have HW := heavy_p (h.grown hg) v
  have HA := has_p (h.grown hg) hid
  clear h
  unfold ptr evV at *
  have ev : refAdd y C n v = if n < 1 ∨ 65536 < n then 1 else if heavyE C v ≠ 0 then heavyE C v else if (y.k n).isSome then 5 else 0 := rfl
  obtain ⟨hv, ehv⟩ : ∃ x, x = heavyE C v := ⟨_, rfl⟩
  obtain ⟨b, eb⟩ : ∃ b, b = (y.k n).isSome := ⟨_, rfl⟩
  rw [← ehv] at HW ev
  rw [← eb] at HA ev
  obtain ⟨r, er⟩ : ∃ r, r = refAdd y C n v := ⟨_, rfl⟩
  rw [← er] at ev ⊢
  have EV : Hid (r = if n < 1 ∨ 65536 < n then 1 else if hv ≠ 0 then hv else if b then 5 else 0) := ev
  clear ehv eb er ev
  have done : ∀ z, r = z → Ending.returned (.int .i64 z) = Ending.returned (.int .i64 r) := fun z e => by rw [e]
  by_cases h1 : n < 1
  · have d1 : decide (n < 1) = true := by simpa using h1
    have e := EV.out
    rw [if_pos (.inl h1)] at e
    have E : Hid (r = 1) := e
    clear e h1
    go_enter Try.func40, Try.ntmps40
    go_wp2
    go_ret
    exact ⟨done _ E.out, hg⟩
  · have d1 : decide (n < 1) = false := by simpa using h1
    by_cases h2 : 65536 < n
    · have d2 : decide (65536 < n) = true := by simpa using h2
      have e := EV.out
      rw [if_pos (.inr h2)] at e
      have E : Hid (r = 1) := e
      clear e h1 h2
      go_enter Try.func40, Try.ntmps40
      go_wp2
      go_ret
      exact ⟨done _ E.out, hg⟩
    · have d2 : decide (65536 < n) = false := by simpa using h2
      have e := EV.out
      rw [if_neg (fun h => h.elim h1 h2)] at e
      clear EV h1 h2
      by_cases h3 : hv = 0
      · rw [if_neg (fun h => h h3)] at e
        have d3 : (hv == 0) = true := by simpa using h3
        cases b with
        | true =>
          have E : Hid (r = 5) := e
          clear e h3
          go_enter Try.func40, Try.ntmps40
          go_wp2_with (first | (go_at_call 42; refine HW.mono ?_; rintro e w' ⟨rfl, hw⟩; have hw := hw.symm; subst hw) | (go_at_call 41; refine HA.mono ?_; rintro e w' ⟨rfl, hw⟩; have hw := hw.symm; subst hw))
          go_ret
          exact ⟨done _ E.out, hg⟩
        | false =>
          have E : Hid (r = 0) := e
          clear e h3
          go_enter Try.func40, Try.ntmps40
          go_wp2_with (first | (go_at_call 42; refine HW.mono ?_; rintro e w' ⟨rfl, hw⟩; have hw := hw.symm; subst hw) | (go_at_call 41; refine HA.mono ?_; rintro e w' ⟨rfl, hw⟩; have hw := hw.symm; subst hw))
          go_ret
          exact ⟨done _ E.out, hg⟩
      · rw [if_pos h3] at e
        have d3 : (hv == 0) = false := by simpa using h3
        have E : Hid (r = hv) := e
        clear e h3
        go_enter Try.func40, Try.ntmps40
        go_wp2_with (first | (go_at_call 42; refine HW.mono ?_; rintro e w' ⟨rfl, hw⟩; have hw := hw.symm; subst hw))
        go_ret
        exact ⟨done _ E.out, hg⟩
end Go.Proofs.Ytlmcopenbeammaa.Po
