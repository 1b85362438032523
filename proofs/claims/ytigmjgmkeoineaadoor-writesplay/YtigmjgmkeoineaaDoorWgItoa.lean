/-
  strconv.Itoa, told as far as that its answer hangs on nothing but the number, and on what the variable uint64pow10 holds (whatever it is). Condition: the number is one of 64 bits.
-/
import Derived.Test.YtigmjgmkeoineaaDoorWgFmt
import Derived.Laws.IdiomStrings
import Derived.Test.YtigmjgmkeoineaaDoorGenCls
import Derived.Test.YtigmjgmkeoineaaDoorWgWalks
namespace Go.Proofs.YtigmjgmkeoineaaDoor
open Go.RowKit Go.Deep

/-- The k bytes from cell a on. -/
def txt (f : Nat → UInt8) (a k : Nat) : List UInt8 := (List.range k).map fun j => f (a + j)
theorem txt_len (f : Nat → UInt8) (a k : Nat) : (txt f a k).length = k := by simp [txt]
theorem Bytes.text {w : World} {B : Nat} {f : Nat → UInt8} (h : Bytes w B f) (a k cap : Nat) (hk : a + k ≤ 24) :
    (convert 107 9 (.slice (some ⟨B, a, none⟩) k cap)).run Tryd.prog w = .ok (.string ⟨(txt f a k).toArray⟩) w := by
  have e := run_convert_bytes_back (P := Tryd.prog) w 107 9 5 ⟨B, a, none⟩ cap (txt f a k) Tryd.underlying107 Tryd.underlying5 Tryd.underlying9 (fun j hj => by
    rw [txt_len] at hj
    rw [WideShapes.add_plain, h.cells0.1 (a + j) (by omega)]
    simp [txt])
  rw [txt_len] at e
  exact e
theorem Bytes.new (w : World) : Bytes (w.alloc (.cells (Array.replicate 24 (.int .u8 0)) 103)) w.heap.size (fun _ => 0) :=
  Vec.laid w 103 _ 24 1 (by decide) (by simp) _ (fun j hj => by simp at hj; simp [hj])
theorem Tryd.len24 : Tryd.prog.arrayLen 103 = 24 := by kernel_rfl

set_option maxHeartbeats 6400000 in
set_option maxRecDepth 100000 in
theorem formatInt_c (T : Nat → Int) (n : Int) (h0 : -9223372036854775808 ≤ n) (h1 : n ≤ 9223372036854775807) :
    ∃ s : ByteArray, s.size ≤ 24 ∧ ∀ w, Tab w T → Calls Tryd.prog 60 #[.int .i64 n, .int .i64 10] w fun e w' => e = .returned (.string s) ∧ Grown w w' := by
  by_cases hs : 0 ≤ n ∧ n < 100
  · obtain ⟨i, rfl⟩ : ∃ i : Nat, n = i := ⟨n.toNat, by omega⟩
    have hi : i < 100 := by omega
    obtain ⟨s, hs2, c⟩ := small_c i hi
    refine ⟨s, by omega, fun w _ => ?_⟩
    go_enter Tryd.func60, Tryd.ntmps60
    go_wp2_with (first | (go_at_call 61; refine (c _).mono ?_; rintro e w' ⟨rfl, rfl⟩))
    go_ret
    exact ⟨rfl, Grown.refl _⟩
  · by_cases hneg : n < 0
    · obtain ⟨u, rfl⟩ : ∃ u : Nat, n = -(u : Int) := ⟨n.natAbs, by omega⟩
      have hu64 : u < 18446744073709551616 := by omega
      have hwr : IntKind.u64.wrap (-IntKind.u64.wrap (-(u : Int))) = (u : Int) := by rw [IntKind.wrap_u64, IntKind.wrap_u64]; omega
      obtain ⟨r, hr, c⟩ := numDigits_c T u (by omega) (by omega)
      refine ⟨⟨(txt (putAt (written r u) 0 45) 0 (1 + r)).toArray⟩, by show (txt _ _ _).toArray.size ≤ 24; rw [List.size_toArray, txt_len]; omega, fun w hT => ?_⟩
      have hsl1 : ∀ W, (Instr.sliceAt 103 (.pointer (some ⟨w.heap.size, 0, none⟩)) (some (.int .i64 1)) (some (.int .i64 (1 + (r : Int)))) none).run Tryd.prog W = .ok (.slice (some ⟨w.heap.size, 1, none⟩) r 23) W := fun W => by
        rw [run_sliceAt_array_lh W 103 ⟨w.heap.size, 0, none⟩ (by kernel_rfl) .i64 .i64 1 (1 + (r : Int)) (by omega) (by omega) (by rw [Tryd.len24]; omega), Tryd.len24]
        go_simp
        omega
      have hsl2 : ∀ W, (Instr.sliceAt 103 (.pointer (some ⟨w.heap.size, 0, none⟩)) none (some (.int .i64 (1 + (r : Int)))) none).run Tryd.prog W = .ok (.slice (some ⟨w.heap.size, 0, none⟩) (1 + r) 24) W := fun W => by
        rw [run_sliceAt_array_h W 103 ⟨w.heap.size, 0, none⟩ (by kernel_rfl) .i64 (1 + (r : Int)) (by omega) (by rw [Tryd.len24]; omega), Tryd.len24]
        go_simp
        omega
      have hb := Bytes.new w
      have hg : Grown w (w.alloc (.cells (Array.replicate 24 (.int .u8 0)) 103)) := (Grown.refl _).alloc _ _
      have hT1 := hT.grown hg
      have hfm := format_c w.heap.size r u _ (by omega) hu64 hb
      clear hb hT
      go_enter Tryd.func60, Tryd.ntmps60
      go_wp2_with (first
        | (go_at_call 62; refine (c _ hT1).mono ?_; rintro e w' ⟨rfl, rfl⟩)
        | (go_at_call 63; refine hfm.mono ?_; rintro e w2 ⟨rfl, hb2, ho2⟩
           obtain ⟨hc2, hz2⟩ := hb2.cells0
           have c0 := hc2 0 (by decide)
           have z0 := hz2 0 (by decide)
           have hb3 := hb2.put 0 0 45 rfl
           rw [show ((UInt8.toNat 45 : Nat) : Int) = 45 from rfl] at hb3
           have cv := hb3.text 0 (1 + r) 24 (by omega)
           have hg3 : Grown w (w2.setCell ⟨w.heap.size, 0, none⟩ (.int .u8 45)) := (ho2.setCell (a := ⟨w.heap.size, 0, none⟩) rfl _).grown hg (fun k hk => by rw [hk]; exact Nat.le_refl _)
           have HG : Hid (Grown w (w2.setCell ⟨w.heap.size, 0, none⟩ (.int .u8 45))) := hg3
           clear hc2 hz2 hg3 hb3 hb2 ho2))
      go_ret
      exact ⟨rfl, HG.out⟩
    · obtain ⟨u, rfl⟩ : ∃ u : Nat, n = (u : Int) := ⟨n.toNat, by omega⟩
      have hu64 : u < 18446744073709551616 := by omega
      obtain ⟨r, hr, c⟩ := numDigits_c T u (by omega) (by omega)
      refine ⟨⟨(txt (written r u) 1 r).toArray⟩, by show (txt _ _ _).toArray.size ≤ 24; rw [List.size_toArray, txt_len]; omega, fun w hT => ?_⟩
      have hsl1 : ∀ W, (Instr.sliceAt 103 (.pointer (some ⟨w.heap.size, 0, none⟩)) (some (.int .i64 1)) (some (.int .i64 (1 + (r : Int)))) none).run Tryd.prog W = .ok (.slice (some ⟨w.heap.size, 1, none⟩) r 23) W := fun W => by
        rw [run_sliceAt_array_lh W 103 ⟨w.heap.size, 0, none⟩ (by kernel_rfl) .i64 .i64 1 (1 + (r : Int)) (by omega) (by omega) (by rw [Tryd.len24]; omega), Tryd.len24]
        go_simp
        omega
      have hb := Bytes.new w
      have hg : Grown w (w.alloc (.cells (Array.replicate 24 (.int .u8 0)) 103)) := (Grown.refl _).alloc _ _
      have hT1 := hT.grown hg
      have hfm := format_c w.heap.size r u _ (by omega) hu64 hb
      clear hb hT
      go_enter Tryd.func60, Tryd.ntmps60
      go_wp2_with (first
        | (go_at_call 62; refine (c _ hT1).mono ?_; rintro e w' ⟨rfl, rfl⟩)
        | (go_at_call 63; refine hfm.mono ?_; rintro e w2 ⟨rfl, hb2, ho2⟩
           have cv := hb2.text 1 r 23 (by omega)
           have hg3 : Grown w w2 := ho2.grown hg (fun k hk => by rw [hk]; exact Nat.le_refl _)
           clear hb2 ho2))
      go_ret
      exact ⟨rfl, hg3⟩

theorem itoaI_c (T : Nat → Int) (n : Int) (h0 : -9223372036854775808 ≤ n) (h1 : n ≤ 9223372036854775807) :
    ∃ s : ByteArray, s.size ≤ 24 ∧ ∀ w, Tab w T → Calls Tryd.prog 59 #[.int .i64 n] w fun e w' => e = .returned (.string s) ∧ Grown w w' := by
  obtain ⟨s, hs, c⟩ := formatInt_c T n h0 h1
  refine ⟨s, hs, fun w hT => ?_⟩
  go_enter Tryd.func59, Tryd.ntmps59
  go_wp2_with (first | (go_at_call 60; refine (c _ hT).mono ?_; rintro e w' ⟨rfl, hg⟩))
  go_ret
  exact ⟨rfl, hg⟩
theorem itoa_c (T : Nat → Int) (n : Int) (h0 : -9223372036854775808 ≤ n) (h1 : n ≤ 9223372036854775807) :
    ∃ s : ByteArray, s.size ≤ 24 ∧ ∀ w, Tab w T → Calls Tryd.prog 58 #[.int .i64 n] w fun e w' => e = .returned (.string s) ∧ Grown w w' := by
  obtain ⟨s, hs, c⟩ := itoaI_c T n h0 h1
  refine ⟨s, hs, fun w hT => ?_⟩
  go_enter Tryd.func58, Tryd.ntmps58
  go_wp2_with (first | (go_at_call 59; refine (c _ hT).mono ?_; rintro e w' ⟨rfl, hg⟩))
  go_ret
  exact ⟨rfl, hg⟩
/-- A number of 64 bits. -/
def In64 (n : Int) : Prop := -9223372036854775808 ≤ n ∧ n ≤ 9223372036854775807
/-- An Errno's text. -/
theorem errnoText_c (T : Nat → Int) (n : Int) (hn : In64 n) :
    ∃ s : ByteArray, s.size ≤ 30 ∧ ∀ w, Tab w T → Calls Tryd.prog 57 #[.int .i64 n] w fun e w' => e = .returned (.string s) ∧ Grown w w' := by
  obtain ⟨s, hs, c⟩ := itoa_c T n hn.1 hn.2
  refine ⟨⟨#[101, 114, 114, 111, 114, 32]⟩ ++ s, by rw [ByteArray.size_append]; show 6 + s.size ≤ 30; omega, fun w hT => ?_⟩
  go_enter Tryd.func57, Tryd.ntmps57
  go_wp2_with (first | (go_at_call 58; refine (c _ hT).mono ?_; rintro e w' ⟨rfl, hg⟩))
  go_ret
  exact ⟨rfl, hg⟩

/-- A Fault's text. -/
theorem faultText_c (T : Nat → Int) (n k m : Int) (hn : In64 n) (hk : In64 k) (hm : In64 m) :
    ∃ s : ByteArray, ∀ (w : World) (b : Nat), Tab w T → w.heap[b]? = some (.cells #[.int .i64 n, .int .i64 k, .int .i64 m] 57) →
      Calls Tryd.prog 72 #[ptr b] w fun e w' => e = .returned (.string s) ∧ Grown w w' := by
  obtain ⟨E, hE, cE⟩ := errnoText_c T n hn
  obtain ⟨S, cS⟩ : ∃ S : Int → ByteArray, ∀ y, In64 y → (S y).size ≤ 24 ∧ ∀ w, Tab w T → Calls Tryd.prog 58 #[.int .i64 y] w fun e w' => e = .returned (.string (S y)) ∧ Grown w w' :=
    have ex : ∀ y, ∃ s : ByteArray, In64 y → s.size ≤ 24 ∧ ∀ w, Tab w T → Calls Tryd.prog 58 #[.int .i64 y] w fun e w' => e = .returned (.string s) ∧ Grown w w' := fun y => by
      by_cases h : In64 y
      · obtain ⟨s, hs, c⟩ := itoa_c T y h.1 h.2
        exact ⟨s, fun _ => ⟨hs, c⟩⟩
      · exact ⟨default, fun g => absurd g h⟩
    ⟨fun y => (ex y).choose, fun y h => (ex y).choose_spec h⟩
  refine ⟨E ++ ⟨#[32, 111, 102, 32]⟩ ++ S k ++ ⟨#[58, 32]⟩ ++ S m, fun w b hT hb => ?_⟩
  have hbl : b < w.heap.size := (Array.getElem?_eq_some_iff.1 hb).1
  obtain ⟨Good, hGood⟩ : ∃ Good : World → Prop, Good = fun W => Grown w W := ⟨_, rfl⟩
  have HG : Hid (∀ W, Good W → Grown w W) := fun W h => by rw [hGood] at h; exact h
  have G : ∀ W W', Good W → Grown W W' → Good W' := fun W W' h h' => by rw [hGood] at h ⊢; exact grownTrans h h'
  have hcell : ∀ (j : Nat) (v : Value), #[Value.int .i64 n, .int .i64 k, .int .i64 m][j]? = some v → ∀ r : Wor Good, r.w.cell? ⟨b, j, none⟩ = some v := fun j v h r => heap_cell ((grown_block (HG.out _ r.h) hbl).trans hb) h
  have k0 := hcell 0 _ rfl
  have k1 := hcell 1 _ rfl
  have k2 := hcell 2 _ rfl
  have CE : Hid (∀ r : Wor Good, Calls Tryd.prog 57 #[.int .i64 n] r.w fun e w' => e = .returned (.string E) ∧ ∃ r' : Wor Good, w' = r'.w) := fun r => calls_class ((cE _ (hT.grown (HG.out _ r.h))).mono fun _ _ ⟨he, hh⟩ => ⟨he, G _ _ r.h hh⟩)
  have CS : Hid (∀ (y : Int), In64 y → ∀ r : Wor Good, Calls Tryd.prog 58 #[.int .i64 y] r.w fun e w' => e = .returned (.string (S y)) ∧ ∃ r' : Wor Good, w' = r'.w) := fun y hy r => calls_class (((cS y hy).2 _ (hT.grown (HG.out _ r.h))).mono fun _ _ ⟨he, hh⟩ => ⟨he, G _ _ r.h hh⟩)
  have g0 : Good w.drew := by rw [hGood]; exact (Grown.refl _).drew
  have hne : Nonempty (Wor Good) := ⟨⟨_, g0⟩⟩
  have z1 : (S k).size ≤ 24 := (cS k hk).1
  have z2 : (S m).size ≤ 24 := (cS m hm).1
  have y1 : ¬ 9223372036854775807 < E.size + 4 := by omega
  have HK : Hid (In64 k) := hk
  have HM : Hid (In64 m) := hm
  clear hGood G hcell cE cS hT hb hn hk hm
  simp only [ptr]
  go_enter Tryd.func72, Tryd.ntmps72
  go_wp2
  refine wp_region_class (Good := Good) (by kernel_rfl) (by kernel_rfl) g0 ?_
  repeat (go_big_quiet_step (first | (go_at_call 57; exact CE.out _) | (go_at_call 58; first | exact CS.out k HK.out _ | exact CS.out m HM.out _)))
  refine wpQuiet_nil ?_
  intro _ hw'
  obtain ⟨r, hw''⟩ := hw'
  subst hw''
  have hgo := HG.out _ r.h
  clear k0 k1 k2 CE CS
  go_wp2
  go_ret
  exact ⟨rfl, hgo⟩
end Go.Proofs.YtigmjgmkeoineaaDoor
