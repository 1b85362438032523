/-
  The statements' own 'fault' says true of what is told: its contract. Conditions: errors.errorType is laid; the numbers are of 64 bits; uint64pow10 holds what its type lets it.
-/
import Derived.Test.YtjdaacmopgfolaaDoorWgItoa
import Derived.Test.YtjdaacmopgfolaaDoorWgSmall
namespace Go.Proofs.YtjdaacmopgfolaaDoor
open Go.RowKit Go.Deep

theorem wf_in64 {n : Int} (h : (Lit.int .i64 n).wf = true) : In64 n := by
  have e : IntKind.i64.min ≤ n ∧ n ≤ IntKind.i64.max := by simpa [Lit.wf] using h
  exact ⟨Int.le_trans (by decide) e.1, Int.le_trans e.2 (by decide)⟩
theorem adm_in64 (x c : Int) : In64 (adm x c) := by
  unfold adm In64
  split
  · omega
  · split <;> omega
theorem adx_in64 (s x : Int) : In64 (adx s x) := by
  unfold adx In64
  split
  · omega
  · split <;> omega
theorem Tryd.mError (v : Value) (w : World) : (Go.method 232 46 v "Error").run Tryd.prog w = .ok (66, v) w := by kernel_rfl
theorem wrap_some (n k m : Int) (w : World) (h : n ≠ 0) : Calls Tryd.prog 19 #[.int .i64 n, .int .i64 k, .int .i64 m] w fun e w' => ∃ b, e = .returned (.iface 46 (.pointer (some ⟨b, 0, none⟩))) ∧ w'.heap[b]? = some (.cells #[.int .i64 n, .int .i64 k, .int .i64 m] 51) ∧ Grown w w' :=
  (wrap_c n k m w).mono fun e w' ⟨v, he, hv, hg⟩ => by
    obtain ⟨b, rfl, _, hb⟩ := hv.some h
    exact ⟨b, he, hb, hg⟩

theorem fault_c (W w : World) (T : Nat → Int) (v : Value) (n k m : Int) (hl : Laid w) (hT : Tab w T) (hv : FaultIs w v n k m) (hn : In64 n) (hk : In64 k) (hm : In64 m) (hW : Grown W w) :
    Calls Tryd.prog 12 #[v, .int .i64 n, .int .i64 k, .int .i64 m] w fun e w' => e = .returned (.bool true) ∧ Grown W w' := by
  have hv' := hv
  rcases hv with ⟨rfl, rfl⟩ | ⟨h0, b, rfl, hb⟩
  · go_enter Tryd.func12, Tryd.ntmps12
    go_wp2
    go_ret
    exact ⟨rfl, hW⟩
  · obtain ⟨s, cs⟩ := faultText_c T n k m hn hk hm
    have cn := number_c _ n k m w hl hv'
    have hbl : b < w.heap.size := (Array.getElem?_eq_some_iff.1 hb).1
    have mE := Tryd.mError
    have CS : Hid (∀ (w : World) (b : Nat), Tab w T → w.heap[b]? = some (.cells #[.int .i64 n, .int .i64 k, .int .i64 m] 51) → Calls Tryd.prog 66 #[.pointer (some ⟨b, 0, none⟩)] w fun e w' => e = .returned (.string s) ∧ Grown w w') := cs
    have HB : Hid (w.heap[b]? = some (.cells #[.int .i64 n, .int .i64 k, .int .i64 m] 51)) := hb
    have g0 : Hid True := trivial
    clear cs hv' hb hl hn hk hm
    unfold ptr at cn ⊢
    go_enter Tryd.func12, Tryd.ntmps12
    go_wp2_with (first
      | (go_at_call 18; refine cn.mono ?_; rintro e w1 ⟨rfl, g1⟩)
      | (go_at_call 66; clear g0; refine (CS.out _ b (hT.grown g1) ((grown_block g1 hbl).trans HB.out)).mono ?_; rintro e w2 ⟨rfl, g2⟩; have g3 := grownTrans g1 g2; clear g2)
      | (go_at_call 19; refine (wrap_some n k m _ h0).mono ?_; rintro e w3 ⟨b3, rfl, hb3, g4⟩; have HB3 : Hid (w3.heap[b3]? = some (.cells #[.int .i64 n, .int .i64 k, .int .i64 m] 51)) := hb3; have g5 := grownTrans g3 g4; clear g4 hb3 g3)
      | (go_at_call 66; refine (CS.out _ b3 (hT.grown g5) HB3.out).mono ?_; rintro e w6 ⟨rfl, g6⟩))
    go_ret
    exact ⟨rfl, grownTrans hW (grownTrans g5 g6)⟩
end Go.Proofs.YtjdaacmopgfolaaDoor
