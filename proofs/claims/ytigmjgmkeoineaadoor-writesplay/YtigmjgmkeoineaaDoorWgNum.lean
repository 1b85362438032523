/-
  Package internal/strconv's small helpers, told as far as that their answers hang on nothing but their arguments, and on what the variable uint64pow10 holds (whatever it is). Conditions: those told at each sentence.
-/
import Derived.Test.YtigmjgmkeoineaaDoorWgLaid
import Derived.Lib.Strings
import Derived.Lib.Small
import Derived.Lib.Walk
import Derived.Lib.BitFns
import Derived.Lib.ItoaNum
import Derived.Lib.ItoaWalk
namespace Go.Proofs.YtigmjgmkeoineaaDoor
open Go.RowKit Go.Deep

/-- The byte of the table of lengths. -/
theorem len8_at (y : Int) (h0 : 0 ≤ y) (h1 : y ≤ 255) : ∃ L : Int, 0 ≤ L ∧ L ≤ 8 ∧ ∀ w, (Instr.index 9 (.string Lib.len8tab) (.int .u8 y)).run Tryd.prog w = .ok (.int .u8 L) w := by
  have e := Lib.len8_of y h0 h1
  have l := Lib.bitLen_le8' y h0 h1
  exact ⟨Lib.len8 y, by omega, by omega, fun w => Lib.run_index_len8tab w 9 .u8 y Tryd.underlying9 h0 h1⟩

set_option maxRecDepth 100000 in
set_option maxHeartbeats 4000000 in
theorem len64_c (x : Int) (h0 : 0 ≤ x) (h1 : x ≤ 18446744073709551615) :
    ∃ r : Nat, r ≤ 64 ∧ ∀ w, Calls Tryd.prog 66 #[.int .u64 x] w fun e w' => e = .returned (.int .i64 r) ∧ w' = w := by
  by_cases g0 : 4294967296 ≤ x
  · by_cases g1 : 65536 ≤ x / 4294967296
    · by_cases g2 : 256 ≤ x / 4294967296 / 65536
      · obtain ⟨L, l0, l1, hi⟩ := len8_at (x / 4294967296 / 65536 / 256) (by omega) (by omega)
        refine ⟨(56 + L).toNat, by omega, fun w => ?_⟩
        have hr : (((56 + L).toNat : Nat) : Int) = 56 + L := by omega
        rw [hr]
        go_enter Tryd.func66, Tryd.ntmps66
        go_wp2
        go_ret
        exact ⟨rfl, rfl⟩
      · obtain ⟨L, l0, l1, hi⟩ := len8_at (x / 4294967296 / 65536) (by omega) (by omega)
        refine ⟨(48 + L).toNat, by omega, fun w => ?_⟩
        have hr : (((48 + L).toNat : Nat) : Int) = 48 + L := by omega
        rw [hr]
        go_enter Tryd.func66, Tryd.ntmps66
        go_wp2
        go_ret
        exact ⟨rfl, rfl⟩
    · by_cases g2 : 256 ≤ x / 4294967296
      · obtain ⟨L, l0, l1, hi⟩ := len8_at (x / 4294967296 / 256) (by omega) (by omega)
        refine ⟨(40 + L).toNat, by omega, fun w => ?_⟩
        have hr : (((40 + L).toNat : Nat) : Int) = 40 + L := by omega
        rw [hr]
        go_enter Tryd.func66, Tryd.ntmps66
        go_wp2
        go_ret
        exact ⟨rfl, rfl⟩
      · obtain ⟨L, l0, l1, hi⟩ := len8_at (x / 4294967296) (by omega) (by omega)
        refine ⟨(32 + L).toNat, by omega, fun w => ?_⟩
        have hr : (((32 + L).toNat : Nat) : Int) = 32 + L := by omega
        rw [hr]
        go_enter Tryd.func66, Tryd.ntmps66
        go_wp2
        go_ret
        exact ⟨rfl, rfl⟩
  · by_cases g1 : 65536 ≤ x
    · by_cases g2 : 256 ≤ x / 65536
      · obtain ⟨L, l0, l1, hi⟩ := len8_at (x / 65536 / 256) (by omega) (by omega)
        refine ⟨(24 + L).toNat, by omega, fun w => ?_⟩
        have hr : (((24 + L).toNat : Nat) : Int) = 24 + L := by omega
        rw [hr]
        go_enter Tryd.func66, Tryd.ntmps66
        go_wp2
        go_ret
        exact ⟨rfl, rfl⟩
      · obtain ⟨L, l0, l1, hi⟩ := len8_at (x / 65536) (by omega) (by omega)
        refine ⟨(16 + L).toNat, by omega, fun w => ?_⟩
        have hr : (((16 + L).toNat : Nat) : Int) = 16 + L := by omega
        rw [hr]
        go_enter Tryd.func66, Tryd.ntmps66
        go_wp2
        go_ret
        exact ⟨rfl, rfl⟩
    · by_cases g2 : 256 ≤ x
      · obtain ⟨L, l0, l1, hi⟩ := len8_at (x / 256) (by omega) (by omega)
        refine ⟨(8 + L).toNat, by omega, fun w => ?_⟩
        have hr : (((8 + L).toNat : Nat) : Int) = 8 + L := by omega
        rw [hr]
        go_enter Tryd.func66, Tryd.ntmps66
        go_wp2
        go_ret
        exact ⟨rfl, rfl⟩
      · obtain ⟨L, l0, l1, hi⟩ := len8_at (x) (by omega) (by omega)
        refine ⟨(0 + L).toNat, by omega, fun w => ?_⟩
        have hr : (((0 + L).toNat : Nat) : Int) = 0 + L := by omega
        rw [hr]
        go_enter Tryd.func66, Tryd.ntmps66
        go_wp2
        go_ret
        simp

theorem log10_c (x : Nat) (h : x ≤ 64) (w : World) : Calls Tryd.prog 65 #[.int .i64 x] w fun e w' => e = .returned (.int .i64 ((x : Int) * 78913 / 262144)) ∧ w' = w := by
  go_enter Tryd.func65, Tryd.ntmps65
  go_wp2
  go_ret
  exact ⟨rfl, rfl⟩
theorem bool2_c (b : Bool) (w : World) : Calls Tryd.prog 67 #[.bool b] w fun e w' => e = .returned (.int .i64 (if b then 1 else 0)) ∧ w' = w := by
  cases b
  · go_enter Tryd.func67, Tryd.ntmps67
    go_wp2
    go_ret
    exact ⟨rfl, rfl⟩
  · go_enter Tryd.func67, Tryd.ntmps67
    go_wp2
    go_ret
    exact ⟨rfl, rfl⟩

/-- What the variable uint64pow10 holds: twenty numbers, whatever they are. -/
def Tab (w : World) (T : Nat → Int) : Prop := ∀ k, k < 20 → w.cell? ⟨1, k, none⟩ = some (.int .u64 (T k))
theorem Tab.pos {w : World} {T : Nat → Int} (h : Tab w T) : 1 < w.heap.size := by
  have h0 := h 0 (by decide)
  apply Decidable.byContradiction; intro hb
  rw [World.cell?, Array.getElem?_eq_none (by show w.heap.size ≤ 1; omega)] at h0
  cases h0
theorem Tab.grown {w w' : World} {T : Nat → Int} (h : Tab w T) (g : Grown w w') : Tab w' T := fun k hk => (World.cell?_of_block (w := w) (grown_block g h.pos)).trans (h k hk)
theorem tab_any {P : Program} {w : World} {g : Nat} {t u : TypeId} (hs : w.ShapedOpen P) (hg : g < P.globals.size)
    (h0 : ((begin P (fun _ _ => 0) default).world.heap[g]?).bind Obj.row? = some (Array.replicate 20 (.int .u64 0), t)) (hb : P.buildable t = true)
    (hc : P.cellTypes P.depth t = some (List.replicate 20 u)) (hu : P.underlying u = some (.int .u64)) :
    ∃ T : Nat → Int, ∀ k, k < 20 → w.cell? ⟨g, k, none⟩ = some (.int .u64 (T k)) := by
  obtain ⟨cs, hh, hz, hr⟩ := hs.1 g _ t hg h0
  obtain ⟨ts, hts, _, hall⟩ := hr hb
  obtain rfl : ts = List.replicate 20 u := Option.some.inj (hts.symm.trans hc)
  rw [Array.size_replicate] at hz
  have hk : ∀ k, k < 20 → ∃ z, w.cell? ⟨g, k, none⟩ = some (.int .u64 z) := fun k hk => by
    have h1 : k < cs.size := by omega
    obtain ⟨u', hu', hok⟩ := hall k cs[k] (by simp [h1])
    rw [List.length_replicate, Nat.mod_eq_of_lt hk, List.getElem?_replicate, if_pos hk] at hu'
    obtain rfl := Option.some.inj hu'
    have hc : w.cell? ⟨g, k, none⟩ = some cs[k] := by simp [World.cell?, hh, h1]
    rw [hc]
    unfold Cell.ok at hok
    rw [hu] at hok
    generalize cs[k] = v at hok ⊢
    cases v <;> simp at hok
    obtain ⟨rfl, _⟩ := hok
    exact ⟨_, rfl⟩
  refine ⟨fun k => if h : k < 20 then (hk k h).choose else 0, fun k h => ?_⟩
  simp only [dif_pos h]
  exact (hk k h).choose_spec
theorem tab_ex {w : World} (hs : w.ShapedOpen Tryd.prog) : ∃ T, Tab w T :=
  tab_any (g := 1) (t := 112) hs (of_decide_eq_true (by kernel_rfl)) (by kernel_rfl) (by kernel_rfl) (by kernel_rfl) Tryd.underlying104

/-- How many digits are told of a number. -/
theorem numDigits_c (T : Nat → Int) (x : Int) (h0 : 0 ≤ x) (h1 : x ≤ 18446744073709551615) :
    ∃ r : Nat, r ≤ 20 ∧ ∀ w, Tab w T → Calls Tryd.prog 62 #[.int .u64 x] w fun e w' => e = .returned (.int .i64 r) ∧ w' = w := by
  obtain ⟨l, hl, c1⟩ := len64_c x h0 h1
  obtain ⟨q, hq⟩ : ∃ q : Nat, (q : Int) = (l : Int) * 78913 / 262144 := ⟨((l : Int) * 78913 / 262144).toNat, by omega⟩
  have hq19 : q < 20 := by omega
  have c2 := log10_c l hl
  rw [← hq] at c2
  clear hq
  by_cases ht : T q ≤ x
  · refine ⟨q + 1, by omega, fun w hT => ?_⟩
    have hc := hT q hq19
    clear hT
    have hd : decide (T q ≤ x) = true := by simp [ht]
    go_enter Tryd.func62, Tryd.ntmps62
    go_wp2_with (first
      | (go_at_call 66; refine (c1 _).mono ?_; rintro e w' ⟨rfl, rfl⟩)
      | (go_at_call 65; refine (c2 _).mono ?_; rintro e w' ⟨rfl, rfl⟩)
      | (go_at_call 67; refine (bool2_c true _).mono ?_; rintro e w' ⟨rfl, rfl⟩))
    go_ret
    exact ⟨rfl, rfl⟩
  · refine ⟨q, by omega, fun w hT => ?_⟩
    have hc := hT q hq19
    clear hT
    have hd : decide (T q ≤ x) = false := by simp [ht]
    go_enter Tryd.func62, Tryd.ntmps62
    go_wp2_with (first
      | (go_at_call 66; refine (c1 _).mono ?_; rintro e w' ⟨rfl, rfl⟩)
      | (go_at_call 65; refine (c2 _).mono ?_; rintro e w' ⟨rfl, rfl⟩)
      | (go_at_call 67; refine (bool2_c false _).mono ?_; rintro e w' ⟨rfl, rfl⟩))
    go_ret
    exact ⟨rfl, rfl⟩

/-- The numeral of a small number. -/
theorem extract_le (s : ByteArray) (i n : Nat) : (s.extract i (i + n)).size ≤ n := by
  rw [ByteArray.size_extract]; omega
set_option maxRecDepth 100000 in
theorem small_c (i : Nat) (h : i < 100) : ∃ s : ByteArray, s.size ≤ 2 ∧ ∀ w, Calls Tryd.prog 61 #[.int .i64 i] w fun e w' => e = .returned (.string s) ∧ w' = w := by
  by_cases h1 : i < 10
  · refine ⟨Lib.digits36.extract i (i + 1), Nat.le_trans (extract_le _ _ _) (by decide), fun w => ?_⟩
    go_enter Tryd.func61, Tryd.ntmps61
    go_name_bytes_deep 45 S1 h1
    clear h1
    go_name_bytes_deep 30 S2 h2
    obtain rfl : S2 = Lib.digits36 := by rw [← h2]; decide +kernel
    clear h2
    have hz := Lib.digits36_size
    go_wp2
    go_ret
    exact ⟨rfl, rfl⟩
  · refine ⟨Lib.smalls.extract (i * 2) (i * 2 + 2), extract_le _ _ _, fun w => ?_⟩
    go_enter Tryd.func61, Tryd.ntmps61
    go_name_bytes_deep 45 S1 h1
    obtain rfl : S1 = Lib.smalls := by rw [← h1]; decide +kernel
    clear h1
    have hz := Lib.smalls_size
    go_wp2
    go_ret
    exact ⟨rfl, rfl⟩
end Go.Proofs.YtigmjgmkeoineaaDoor
