/-
  The plain mathematics of layer 1's words of 64 bits: what the walk's integers are as bit vectors, that a word folded is unfolded again, that turns add up, and sums of bits. No condition: all is over bit vectors, integers and natural numbers.
-/
import Derived.WalkKit
import Derived.Test.YtlmcopenbeammaaRows
import Derived.WalkSpells
import Derived.WalkLawsBesides
import Derived.Deep.WholeRow
import Derived.Deep.OwnRows
import Derived.Carry
import Derived.OpenShut
namespace Go.Proofs.Ytlmcopenbeammaa

/-- The number of a word of 64 bits. -/
def U (x : BitVec 64) : Int := (x.toNat : Int)
/-- The word of a number. -/
def B (n : Int) : BitVec 64 := BitVec.ofInt 64 n

theorem U_nonneg (x : BitVec 64) : 0 ≤ U x := by unfold U; omega
theorem U_lt (x : BitVec 64) : U x < 18446744073709551616 := by have := x.isLt; unfold U; omega
theorem B_U (x : BitVec 64) : B (U x) = x := by
  unfold B U; rw [BitVec.ofInt_natCast]; exact BitVec.ofNat_toNat ..|>.trans (by simp)
theorem toNat_B (n : Int) : ((B n).toNat : Int) = n % 18446744073709551616 := by
  unfold B
  rw [BitVec.toNat_ofInt]
  omega
theorem U_B (n : Int) (h : 0 ≤ n) (h' : n < 18446744073709551616) : U (B n) = n := by
  unfold U; rw [toNat_B]; omega
theorem wrap_U (n : Int) : IntKind.u64.wrap n = U (B n) := by
  rw [IntKind.wrap_u64]; unfold U; rw [toNat_B]
theorem U_inj {x y : BitVec 64} (h : U x = U y) : x = y := by rw [← B_U x, h, B_U]
theorem U_beq (x y : BitVec 64) : (U x == U y) = (x == y) := by
  rw [Bool.eq_iff_iff]; simp only [beq_iff_eq]; exact ⟨U_inj, fun h => by rw [h]⟩
theorem wrap_nat (x : BitVec 64) : IntKind.u64.wrap (x.toNat : Int) = U x := by
  have := x.isLt; rw [IntKind.wrap_u64]; unfold U; omega
theorem bits_xor_U (a b : Int) : bits .xor .u64 a b = U (B a ^^^ B b) := wrap_nat _
theorem bits_or_U (a b : Int) : bits .or .u64 a b = U (B a ||| B b) := wrap_nat _
theorem bits_and_U (a b : Int) : bits .and .u64 a b = U (B a &&& B b) := wrap_nat _
theorem B_mul (a b : Int) : B (a * b) = B a * B b := BitVec.ofInt_mul ..
theorem B_add (a b : Int) : B (a + b) = B a + B b := BitVec.ofInt_add ..
theorem U_shr (x : BitVec 64) (k : Nat) : U x / 2 ^ k = U (x >>> k) := by
  unfold U; rw [BitVec.toNat_ushiftRight, Nat.shiftRight_eq_div_pow]; simp
theorem U_shl (x : BitVec 64) (k : Nat) : IntKind.u64.wrap (U x * 2 ^ k) = U (x <<< k) := by
  rw [IntKind.wrap_u64]; unfold U; rw [BitVec.toNat_shiftLeft, Nat.shiftLeft_eq, Int.natCast_emod, Int.natCast_mul, Int.natCast_pow]; rfl
theorem U_shr30 (x : BitVec 64) : U x / (1073741824 : Int) = U (x >>> 30) := U_shr x 30
theorem U_shr27 (x : BitVec 64) : U x / (134217728 : Int) = U (x >>> 27) := U_shr x 27
theorem U_shr31 (x : BitVec 64) : U x / (2147483648 : Int) = U (x >>> 31) := U_shr x 31
theorem U_shr63 (x : BitVec 64) : U x / (9223372036854775808 : Int) = U (x >>> 63) := U_shr x 63
theorem wrap64_toInt (n : Int) : Go.RowKit.wrap64 n = (B n).toInt := by
  unfold B Go.RowKit.wrap64
  rw [BitVec.toInt_ofInt, Int.bmod_def]
  simp only [Nat.reducePow]
  omega
theorem toInt_B (n : Int) (h : -9223372036854775808 ≤ n) (h' : n ≤ 9223372036854775807) : (B n).toInt = n := by
  rw [← wrap64_toInt]; unfold Go.RowKit.wrap64; omega
theorem B_toInt (x : BitVec 64) : B x.toInt = x := by unfold B; exact BitVec.ofInt_toInt
theorem B_inj {a b : Int} (h : -9223372036854775808 ≤ a) (h' : a ≤ 9223372036854775807) (g : -9223372036854775808 ≤ b) (g' : b ≤ 9223372036854775807) (e : B a = B b) : a = b := by
  rw [← toInt_B a h h', e, toInt_B b g g']
theorem wf_i64 {n : Int} (h : (Lit.int .i64 n).wf = true) : -9223372036854775808 ≤ n ∧ n ≤ 9223372036854775807 := by
  simpa [Lit.wf, IntKind.min, IntKind.max, IntKind.signed, IntKind.bits] using h
theorem wf_u64 {n : Int} (h : (Lit.int .u64 n).wf = true) : ∃ x, n = U x := by
  have h' : 0 ≤ n ∧ n ≤ 18446744073709551615 := by simpa [Lit.wf, IntKind.min, IntKind.max, IntKind.signed, IntKind.bits] using h
  exact ⟨B n, (U_B n (by omega) (by omega)).symm⟩

/-! ### words of keys -/
def foldB (x : BitVec 64) (k : Nat) : BitVec 64 := x ^^^ x >>> k
def unfB (x : BitVec 64) (k : Nat) : BitVec 64 := x ^^^ (x ^^^ x >>> k) >>> k
def seedB (s : Int) : BitVec 64 := B s * 0x9E3779B97F4A7C15#64
def mixB (s k : Int) : BitVec 64 :=
  foldB (foldB (foldB (B k ^^^ seedB s) 30 * 0xBF58476D1CE4E5B9#64) 27 * 0x94D049BB133111EB#64) 31
def backB (s : Int) (h : BitVec 64) : BitVec 64 :=
  unfB (unfB (unfB h 31 * 0x319642B2D24D8EC3#64) 27 * 0x96DE1B173F119089#64) 30 ^^^ seedB s

theorem unf_fold (x : BitVec 64) (k : Nat) (h : 64 ≤ 3 * k) : unfB (foldB x k) k = x := by
  apply BitVec.eq_of_getLsbD_eq
  intro i hi
  unfold unfB foldB
  simp only [BitVec.getLsbD_xor, BitVec.getLsbD_ushiftRight]
  rw [BitVec.getLsbD_of_ge x (k + (k + (k + i))) (by omega)]
  cases x.getLsbD i <;> cases x.getLsbD (k + i) <;> cases x.getLsbD (k + (k + i)) <;> rfl
theorem fold_unf (x : BitVec 64) (k : Nat) (h : 64 ≤ 3 * k) : foldB (unfB x k) k = x := by
  apply BitVec.eq_of_getLsbD_eq
  intro i hi
  unfold unfB foldB
  simp only [BitVec.getLsbD_xor, BitVec.getLsbD_ushiftRight]
  rw [BitVec.getLsbD_of_ge x (k + (k + (k + i))) (by omega)]
  cases x.getLsbD i <;> cases x.getLsbD (k + i) <;> cases x.getLsbD (k + (k + i)) <;> rfl
theorem mul_undo (x a b : BitVec 64) (h : a * b = 1#64) : x * a * b = x := by rw [BitVec.mul_assoc, h, BitVec.mul_one]
theorem xor_undo (x y : BitVec 64) : x ^^^ y ^^^ y = x := by rw [BitVec.xor_assoc, BitVec.xor_self, BitVec.xor_zero]
theorem back_mix (s k : Int) : backB s (mixB s k) = B k := by
  unfold backB mixB
  rw [unf_fold _ 31 (by omega), mul_undo _ _ _ (by decide), unf_fold _ 27 (by omega), mul_undo _ _ _ (by decide), unf_fold _ 30 (by omega), xor_undo]
theorem mix_back (s : Int) (h : BitVec 64) : mixB s (backB s h).toInt = h := by
  unfold mixB
  rw [B_toInt]
  unfold backB
  rw [xor_undo, fold_unf _ 30 (by omega), mul_undo _ _ _ (by decide), fold_unf _ 27 (by omega), mul_undo _ _ _ (by decide), fold_unf _ 31 (by omega)]

/-! ### turns -/
def rot (x : BitVec 64) (n : Nat) : BitVec 64 := x <<< n ||| x >>> (64 - n)
theorem rot_bit (x : BitVec 64) (n i : Nat) (hn : n < 64) (hi : i < 64) : (rot x n).getLsbD i = x.getLsbD ((i + (64 - n)) % 64) := by
  unfold rot
  simp only [BitVec.getLsbD_or, BitVec.getLsbD_shiftLeft, BitVec.getLsbD_ushiftRight]
  by_cases h : i < n
  · have e : (i + (64 - n)) % 64 = 64 - n + i := by omega
    rw [e]; simp [h]
  · have e : (i + (64 - n)) % 64 = i - n := by omega
    rw [e, BitVec.getLsbD_of_ge x (64 - n + i) (by omega)]; simp [h, hi]
theorem rot_zero (x : BitVec 64) : rot x 0 = x := by
  apply BitVec.eq_of_getLsbD_eq; intro i hi
  rw [rot_bit x 0 i (by omega) hi]; congr 1; omega
theorem rot_rot (x : BitVec 64) (m n : Nat) (hm : m < 64) (hn : n < 64) : rot (rot x m) n = rot x ((m + n) % 64) := by
  apply BitVec.eq_of_getLsbD_eq; intro i hi
  rw [rot_bit _ n i hn hi, rot_bit _ m _ hm (by omega), rot_bit _ _ i (by omega) hi]; congr 1; omega
theorem rot_none (n : Nat) (hn : n < 64) : rot 0#64 n = 0#64 := by
  apply BitVec.eq_of_getLsbD_eq; intro i hi
  rw [rot_bit _ n i hn hi]; simp
theorem rot_full (n : Nat) (hn : n < 64) : rot (BitVec.allOnes 64) n = BitVec.allOnes 64 := by
  apply BitVec.eq_of_getLsbD_eq; intro i hi
  rw [rot_bit _ n i hn hi, BitVec.getLsbD_allOnes, BitVec.getLsbD_allOnes, decide_eq_true hi, decide_eq_true (Nat.mod_lt _ (by omega))]
theorem rot_one (x : BitVec 64) : rot x 1 = x * 2#64 + x >>> 63 := by
  have e : x * 2#64 = x <<< 1 := by
    apply BitVec.eq_of_toNat_eq; simp [BitVec.toNat_mul, BitVec.toNat_shiftLeft, Nat.shiftLeft_eq]
  rw [e, BitVec.add_eq_or_of_and_eq_zero]
  · rfl
  · apply BitVec.eq_of_getLsbD_eq; intro i hi
    simp only [BitVec.getLsbD_and, BitVec.getLsbD_shiftLeft, BitVec.getLsbD_ushiftRight]
    by_cases h : i < 1
    · simp [h]
    · rw [BitVec.getLsbD_of_ge x (63 + i) (by omega)]; simp

/-- Turn: by as many places as the number is modulo 64. -/
def turnB (x : BitVec 64) (n : Int) : BitVec 64 := rot x (n % 64).toNat
theorem turn_turn (x : BitVec 64) (a b : Int) : turnB (turnB x a) b = turnB x (a + b) := by
  unfold turnB; rw [rot_rot _ _ _ (by omega) (by omega)]; congr 1; omega
theorem turn_mod (x : BitVec 64) (a b : Int) (h : a % 64 = b % 64) : turnB x a = turnB x b := by unfold turnB; rw [h]
theorem turn_round (x : BitVec 64) (a : Int) (h : a % 64 = 0) : turnB x a = x := by unfold turnB; rw [h]; exact rot_zero x

/-- The place in a row. -/
def indexI (x : BitVec 64) (row size : Int) : Int := if size < 1 then 0 else U (turnB x (16 * row)) % size
theorem index_bd (x : BitVec 64) (row size : Int) (h : 1 ≤ size) : 0 ≤ indexI x row size ∧ indexI x row size < size := by
  unfold indexI; rw [if_neg (by omega)]
  exact ⟨Int.emod_nonneg _ (by omega), Int.emod_lt_of_pos _ (by omega)⟩
theorem index_none (x : BitVec 64) (row size : Int) (h : size < 1) : indexI x row size = 0 := by unfold indexI; rw [if_pos h]

/-! ### the low six bits of a number -/
theorem and63_i64 (b : Int) : bits .and .i64 b 63 = b % 64 := by
  have e : ∀ x : BitVec 64, IntKind.i64.wrap ((x &&& 63#64).toNat : Int) = ((x.toNat % 64 : Nat) : Int) := by
    intro x
    have h : (x &&& 63#64).toNat = x.toNat % 64 := by
      rw [BitVec.toNat_and]; exact Nat.and_two_pow_sub_one_eq_mod x.toNat 6
    rw [h]; simp [IntKind.wrap, IntKind.signed, IntKind.bits]; omega
  have g : bits .and .i64 b 63 = IntKind.i64.wrap ((B b &&& 63#64).toNat : Int) := rfl
  rw [g, e]; have := toNat_B b; push_cast; omega
theorem and63_u64 (n : Nat) (h : n < 64) : bits .and .u64 (n : Int) 63 = n := by
  have g : bits .and .u64 (n : Int) 63 = IntKind.u64.wrap ((B n &&& 63#64).toNat : Int) := rfl
  rw [g, wrap_nat]; unfold U
  have h2 : (B (n : Int) &&& 63#64).toNat = (B (n : Int)).toNat % 64 := by
    rw [BitVec.toNat_and]; exact Nat.and_two_pow_sub_one_eq_mod _ 6
  have := toNat_B n
  omega
theorem ret_int {k : IntKind} {a b : Int} (h : a = b) : Ending.returned (.int k a) = .returned (.int k b) := by rw [h]
end Go.Proofs.Ytlmcopenbeammaa

/-
  Memory: what calls that make blocks, and such as write into blocks of their own, leave of the rest; slices that came in and are not written. No condition but those told at each sentence.
-/
namespace Go.Proofs.Ytlmcopenbeammaa
open Go.RowKit Go.Deep

theorem grownTrans {a b c : World} (h : Grown a b) (k : Grown b c) : Grown a c :=
  ⟨World.keptBut_trans h.1 k.1, fun x => (k.2.1 x).trans (h.2.1 x), Nat.le_trans h.2.2 k.2.2⟩
theorem grownDrewN {a b : World} (h : Grown a b) (n : Nat) : Grown a (b.drewN n) := h

theorem setRow_alloc2 (w : World) (c c' : Array Value) (t : TypeId) (o : Obj) : ((w.alloc (.cells c t)).alloc o).setRow w.heap.size c' = (w.alloc (.cells c' t)).alloc o := by
  simp only [World.setRow, World.alloc]
  congr 1
  apply Array.ext_getElem?
  intro i
  rw [Array.getElem?_modify]
  by_cases h : w.heap.size = i
  · subst h
    simp [Array.getElem?_push]
  · simp [h, Array.getElem?_push]
    split
    · rfl
    · split
      · omega
      · rfl
theorem heap2_new (w : World) (A B : Obj) : ((w.alloc A).alloc B).heap[w.heap.size + 1]? = some B := heap_alloc2_new w A B
theorem heap2_old (w : World) (A B : Obj) : ((w.alloc A).alloc B).heap[w.heap.size]? = some A := heap_alloc2_old w A B

/-- Outside the n blocks from b on nothing that was there has turned. -/
structure Off (b n : Nat) (w w' : World) : Prop where
  os : w'.os = w.os
  output : w'.output = w.output
  froz : ∀ a, w'.frozen? a = w.frozen? a
  size : w.heap.size ≤ w'.heap.size
  block : ∀ k, k < w.heap.size → (k < b ∨ b + n ≤ k) → w'.heap[k]? = w.heap[k]?

theorem grown_block {W w' : World} (h : Grown W w') {k : Nat} (hk : k < W.heap.size) : w'.heap[k]? = W.heap[k]? := by
  have h3 := h.1.2.2 k hk
  revert h3
  cases e1 : W.heap[k]? with
  | none => cases e2 : w'.heap[k]? <;> simp
  | some o =>
    cases e2 : w'.heap[k]? with
    | none => cases o <;> simp
    | some o' =>
      cases o <;> cases o' <;> simp
      intro h1 h2 h3 h4
      subst h1 h2
      refine ⟨Array.ext_getElem? ?_, ?_, ?_⟩
      · intro i; exact h4 i
      all_goals rfl
theorem keptBut_blocks {W w' : World} (h1 : w'.os = W.os) (h2 : w'.output = W.output) (h : ∀ k, k < W.heap.size → w'.heap[k]? = W.heap[k]?) : W.keptBut w' (fun _ => False) := by
  refine ⟨h1, h2, fun i hi => ?_⟩
  rw [h i hi]
  split <;> simp_all
namespace Off
variable {b n : Nat} {w w' w'' W : World}
theorem refl (b n : Nat) (w : World) : Off b n w w := ⟨rfl, rfl, fun _ => rfl, Nat.le_refl _, fun _ _ _ => rfl⟩
theorem trans (h : Off b n w w') (k : Off b n w' w'') : Off b n w w'' :=
  ⟨k.os.trans h.os, k.output.trans h.output, fun a => (k.froz a).trans (h.froz a), Nat.le_trans h.size k.size, fun i hi hb => (k.block i (Nat.lt_of_lt_of_le hi h.size) hb).trans (h.block i hi hb)⟩
theorem drewN (h : Off b n w w') (m : Nat) : Off b n w (w'.drewN m) := ⟨h.os, h.output, h.froz, h.size, h.block⟩
theorem drew (h : Off b n w w') : Off b n w w'.drew := ⟨h.os, h.output, h.froz, h.size, h.block⟩
theorem of_grown (h : Grown w w') (b n : Nat) : Off b n w w' := ⟨h.1.1, h.1.2.1, h.2.1, h.2.2, fun _ hk _ => grown_block h hk⟩
theorem more (h : Off b n w w') (g : Grown w' w'') : Off b n w w'' := h.trans (of_grown g b n)
/-- Blocks that were not there at first count for nothing. -/
theorem grown (h : Off b n w w') (g : Grown W w) (hb : W.heap.size ≤ b) : Grown W w' :=
  ⟨keptBut_blocks (h.os.trans g.1.1) (h.output.trans g.1.2.1) (fun k hk => (h.block k (Nat.lt_of_lt_of_le hk g.2.2) (Or.inl (by omega))).trans (grown_block g hk)), fun a => (h.froz a).trans (g.2.1 a), Nat.le_trans g.2.2 h.size⟩
theorem setCell (h : Off b n w w') {a : Addr} (h1 : b ≤ a.block) (h2 : a.block < b + n) (v : Value) : Off b n w (w'.setCell a v) :=
  h.trans ⟨rfl, rfl, fun x => World.frozen?_setCell _ _ _ _, by rw [nblk_setCell]; exact Nat.le_refl _, fun k _ hb => blk_setCell_other _ _ _ _ (by omega)⟩
theorem alloc (h : Off b n w w') (c : Array Value) (t : TypeId) : Off b n w (w'.alloc (.cells c t)) := h.more ((Grown.refl _).alloc c t)
end Off

/-- A slice of m elements, all of a block. -/
def sl (b m : Nat) : Value := .slice (some ⟨b, 0, none⟩) m m

def ptr (b : Nat) : Value := .pointer (some ⟨b, 0, none⟩)

theorem grown_same {W w' : World} (h : Grown W w') {p : MemPlace} (hp : p.block < W.heap.size) : W.sameAt w' p := by
  cases p with
  | cell b o => exact World.cell?_of_block (w := W) (grown_block h hp)
  | map b => exact grown_block h hp
/-- An argument reads as it did. -/
theorem grown_trod {H : Type} {enc : TypeId × Value → H} {P : Program} {t : TypeId} (hl : laidOutB P = true) (hr : P.readableRec t = true) (hrow : t < P.types.size) {W W' : World} {v : Value} {d : DataW H} {ps : List MemPlace}
    (h : DataW.Trod enc P W 0 (fun _ => true) true t v d ps) (hb : Grown W W') (hlt : ∀ x ∈ ps, x.block < W.heap.size) :
    DataW.Trod enc P W' 0 (fun b => decide (b < W.heap.size)) true t v d ps :=
  WideElems.Trod_stays hl hr hrow h (fun x hx => grown_same hb (hlt x hx)) (fun x hx => by simpa using hlt x hx)
/-- A slice of numbers that came in: it has none, or they lie in a block that was there. -/
theorem keys_open {w : World} {a : Option Addr} {len cap : Nat} {zs : List Int}
    (h : (a = none ∧ len = 0 ∧ cap = 0 ∧ zs = []) ∨ ∃ x, a = some x ∧ len ≤ cap ∧ cap ≤ maxLen ∧ zs.length = cap ∧ (∀ i, i < zs.length → w.cell? (x.add i) = some (.int .i64 (zs.getD i 0))) ∧ ∀ n ∈ zs, (Lit.int .i64 n).wf = true) :
    len = 0 ∨ ∃ b off, a = some ⟨b, off, none⟩ ∧ b < w.heap.size ∧ ∀ i, i < len → w.cell? ⟨b, off + i, none⟩ = some (.int .i64 (zs.getD i 0)) := by
  rcases h with ⟨_, h, _, _⟩ | ⟨x, rfl, hl, _, hz, hc, _⟩
  · exact Or.inl h
  · by_cases h0 : len = 0
    · exact Or.inl h0
    · obtain ⟨b, off, rfl, hc'⟩ := ints_at hc (by omega)
      refine Or.inr ⟨b, off, rfl, ?_, fun i hi => hc' i (by omega)⟩
      have := hc' 0 (by omega)
      apply Decidable.byContradiction; intro hb
      rw [World.cell?, Array.getElem?_eq_none (by show w.heap.size ≤ b; omega)] at this
      cases this
theorem keys_cell {w w' : World} {b off k : Nat} {u : Value} (h : w.cell? ⟨b, off + k, none⟩ = some u) (hb : b < w.heap.size) (g : Grown w w') : w'.cell? ⟨b, off + k, none⟩ = some u :=
  (World.cell?_of_block (w := w) (grown_block g hb)).trans h

theorem quiet_at {P : Program} {f : FuncId} {args : Array Value} {w : World} {d n : Nat} {v : Value}
    (h : Calls P f args (w.drewN (d + n)) fun e w' => e = .returned v ∧ ∃ m, w' = (w.drewN (d + n)).drewN m) : Calls P f args (w.drewN (d + n)) fun e w'' => e = .returned v ∧ ∃ m, w'' = w.drewN (d + m) :=
  h.mono fun _ _ ⟨he, m, hm⟩ => ⟨he, n + m, by rw [hm, World.drewN_drewN, Nat.add_assoc]⟩
theorem quiet_here {P : Program} {f : FuncId} {args : Array Value} {w : World} {d n : Nat} {v : Value}
    (h : ∀ W, Calls P f args W fun e w' => e = .returned v ∧ w' = W) : Calls P f args (w.drewN (d + n)) fun e w'' => e = .returned v ∧ ∃ m, w'' = w.drewN (d + m) :=
  (h _).mono fun _ _ ⟨he, hw⟩ => ⟨he, n, hw⟩
theorem off_setRow {w : World} {g : Nat} {old cs : Array Value} {t : TypeId} (h : w.heap[g]? = some (.cells old t (0, 0))) : Off g 1 w (w.setRow g cs) := by
  refine ⟨rfl, rfl, fun a => ?_, by simp [World.setRow], fun k _ hb => setRow_other w g k cs (by omega)⟩
  by_cases e : a.block = g
  · have h2 := setRow_heap w g old cs t (0, 0) h
    simp only [World.frozen?, e, h, h2]
  · exact World.frozen?_of_block (setRow_other w g a.block cs e)

end Go.Proofs.Ytlmcopenbeammaa

/-
  What each function of package mix, and each of the document's own answers for it, does when it is called: it returns the word or number told here and leaves memory as it was. No condition but that the numbers are of their Go types.
-/
namespace Go.Proofs.Ytlmcopenbeammaa
open Go.RowKit

theorem seedWord_any (a : Int) (w : World) :
    Calls Try.prog 90 #[.int .i64 a] w fun e w' => e = .returned (.int .u64 (U (seedB a))) ∧ w' = w := by
  go_enter Try.func90, Try.ntmps90
  go_wp2
  go_ret
  exact ⟨ret_int (by rw [wrap_U, wrap_U, B_mul, B_U]; rfl), rfl⟩

theorem fold_any (x : BitVec 64) (n : Nat) (w : World) (hn : n < 64) :
    Calls Try.prog 91 #[.int .u64 (U x), .int .u64 n] w fun e w' => e = .returned (.int .u64 (U (foldB x n))) ∧ w' = w := by
  have h0 := U_nonneg x
  go_enter Try.func91, Try.ntmps91
  go_wp2
  go_ret
  exact ⟨ret_int (by rw [U_shr, bits_xor_U, B_U, B_U]; rfl), rfl⟩

theorem mix_any (s k : Int) (w : World) :
    Calls Try.prog 77 #[.int .i64 s, .int .i64 k] w fun e w' => e = .returned (.int .u64 (U (mixB s k))) ∧ w' = w := by
  go_enter Try.func77, Try.ntmps77
  go_wp2
  go_ret
  exact ⟨ret_int (by simp only [wrap_U, bits_xor_U, B_mul, B_U, U_shr30, U_shr27, U_shr31]; rfl), rfl⟩

theorem rotate_any (x : BitVec 64) (n : Nat) (w : World) (hn : n < 64) :
    Calls Try.prog 105 #[.int .u64 (U x), .int .i64 n] w fun e w' => e = .returned (.int .u64 (U (rot x n))) ∧ w' = w := by
  have h0 := U_nonneg x
  have hb := and63_u64 n hn
  go_enter Try.func105, Try.ntmps105
  go_wp2
  go_ret
  exact ⟨ret_int (by rw [U_shl, U_shr, bits_or_U, B_U, B_U]; rfl), rfl⟩

theorem turn_any (x : BitVec 64) (n : Int) (w : World) :
    Calls Try.prog 102 #[.int .u64 (U x), .int .i64 n] w fun e w' => e = .returned (.int .u64 (U (turnB x n))) ∧ w' = w := by
  have hb := and63_i64 n
  obtain ⟨m, hm⟩ : ∃ m : Nat, n % 64 = m := ⟨(n % 64).toNat, by omega⟩
  have hlt : m < 64 := by omega
  have ht : turnB x n = rot x m := by unfold turnB; rw [hm]; rfl
  rw [ht]
  rw [hm] at hb
  clear ht hm
  go_enter Try.func102, Try.ntmps102
  go_wp2_with (go_at_call 105; refine (rotate_any _ _ _ hlt).mono ?_; rintro e w' ⟨rfl, rfl⟩)
  go_ret
  exact ⟨rfl, rfl⟩

def unfStep (x : BitVec 64) (k : Nat) : Nat → BitVec 64
  | 0 => x
  | c + 1 => x ^^^ unfStep x k c >>> k

theorem tmod64 (n : Int) (m : Nat) (h : n % 64 = m) : n.tmod 64 = (m : Int) ∨ n.tmod 64 = (m : Int) - 64 := by
  obtain ⟨k, rfl | rfl⟩ := Int.eq_nat_or_neg n
  · left; rw [Int.tmod_eq_emod_of_nonneg (by omega)]; exact h
  · rw [Int.neg_tmod, Int.tmod_eq_emod_of_nonneg (by omega)]; omega
theorem rot_next (x : BitVec 64) (k : Nat) (h : k + 1 < 64) : rot (rot x k) 1 = rot x (k + 1) := by
  rw [rot_rot _ _ _ (by omega) (by omega), Nat.mod_eq_of_lt h]

theorem index_any (x : BitVec 64) (row size : Int) (w : World) (hs : size ≤ 9223372036854775807) :
    Calls Try.prog 94 #[.int .u64 (U x), .int .i64 row, .int .i64 size] w fun e w' => e = .returned (.int .i64 (indexI x row size)) ∧ w' = w := by
  by_cases h : size < 1
  · rw [index_none x row size h]
    go_enter Try.func94, Try.ntmps94
    go_wp2
    go_ret
    exact ⟨rfl, rfl⟩
  · have hi : wrap64 (U (turnB x (16 * row)) % size) = indexI x row size := by
      have hb := index_bd x row size (by omega)
      unfold indexI at hb ⊢
      rw [if_neg h] at hb ⊢
      exact IntWalk.wrap64_in _ ⟨by omega, by omega⟩
    have hm : turnB x (wrap64 (16 * row)) = turnB x (16 * row) := turn_mod _ _ _ (by unfold wrap64; omega)
    have hu := U_nonneg (turnB x (16 * row))
    go_enter Try.func94, Try.ntmps94
    go_wp2_with (go_at_call 102; refine (turn_any _ _ _).mono ?_; rintro e w' ⟨rfl, rfl⟩)
    go_ret
    exact ⟨ret_int hi, rfl⟩

end Go.Proofs.Ytlmcopenbeammaa

/-
  Powers of two: what package mix's isPower and Ceil, and the document's own power and Ceil, return when they are called, and what holds of that number. No condition but that the numbers are of Go's type int.
-/
namespace Go.Proofs.Ytlmcopenbeammaa
open Go.RowKit

/-- Is a number a power of two? -/
def isP (n : Int) : Bool := decide (1 ≤ n) && (n.toNat &&& (n.toNat - 1)) == 0

theorem and_even (n : Nat) (h : n % 2 = 0) (h1 : 1 < n) : ((n &&& (n - 1)) == 0) = ((n / 2 &&& (n / 2 - 1)) == 0) := by
  have e1 : (n &&& (n - 1)) / 2 = n / 2 &&& (n / 2 - 1) := by
    rw [Nat.and_div_two]; congr 1; omega
  have e2 : (n &&& (n - 1)) % 2 = 0 := by
    have := Nat.and_mod_two_pow (a := n) (b := n - 1) (n := 1)
    simp only [Nat.pow_one] at this
    rw [this, h, Nat.zero_and]
  rw [Bool.eq_iff_iff]; simp only [beq_iff_eq]; rw [← e1]; omega
theorem and_odd (n : Nat) (h : n % 2 = 1) (h1 : 1 < n) : ((n &&& (n - 1)) == 0) = false := by
  have e1 : (n &&& (n - 1)) / 2 = n / 2 := by
    rw [Nat.and_div_two]
    have : (n - 1) / 2 = n / 2 := by omega
    rw [this, Nat.and_self]
  simp only [beq_eq_false_iff_ne]; omega
theorem isP_half (n : Int) (h : n % 2 = 0) (h1 : 1 < n) : isP (n / 2) = isP n := by
  unfold isP
  have e : (n / 2).toNat = n.toNat / 2 := by omega
  rw [e, ← and_even n.toNat (by omega) (by omega), decide_eq_true (by omega : 1 ≤ n / 2), decide_eq_true (by omega : 1 ≤ n)]
theorem isP_odd (n : Int) (h : ¬ n % 2 = 0) (h1 : 1 < n) : isP n = false := by
  unfold isP; rw [and_odd n.toNat (by omega) (by omega), Bool.and_false]
theorem isP_low (n : Int) (h : n < 1) : isP n = false := by
  unfold isP; rw [decide_eq_false (by omega), Bool.false_and]
theorem isP_one : isP 1 = true := by decide
theorem isP_pow (n : Int) (h : isP n = true) : ∃ k : Nat, n = 2 ^ k := by
  have go : ∀ (f : Nat) (n : Int), n.toNat ≤ f → isP n = true → ∃ k : Nat, n = 2 ^ k := by
    intro f
    induction f with
    | zero => intro n hn h; rw [isP_low n (by omega)] at h; cases h
    | succ f ih =>
      intro n hn h
      by_cases h1 : n < 1
      · rw [isP_low n h1] at h; cases h
      · by_cases h2 : n = 1
        · exact ⟨0, by omega⟩
        · by_cases h3 : n % 2 = 0
          · obtain ⟨k, hk⟩ := ih (n / 2) (by omega) (by rw [isP_half n h3 (by omega)]; exact h)
            exact ⟨k + 1, by rw [Int.pow_succ]; omega⟩
          · rw [isP_odd n h3 (by omega)] at h; cases h
  exact go _ n (Nat.le_refl _) h
theorem pow_isP (k : Nat) : isP (2 ^ k) = true := by
  induction k with
  | zero => exact isP_one
  | succ k ih =>
    have hp : (0 : Int) < 2 ^ k := Int.pow_pos (by decide)
    have e : (2 ^ (k + 1) : Int) / 2 = 2 ^ k := by rw [Int.pow_succ]; omega
    rw [← isP_half _ (by rw [Int.pow_succ]; omega) (by rw [Int.pow_succ]; omega), e, ih]
theorem bits_and_i64 (a b : Int) (h1 : 0 ≤ a) (h2 : a < 9223372036854775808) (h3 : 0 ≤ b) (h4 : b < 9223372036854775808) :
    bits .and .i64 a b = ((a.toNat &&& b.toNat : Nat) : Int) := by
  have g : bits .and .i64 a b = IntKind.i64.wrap ((B a &&& B b).toNat : Int) := rfl
  have ea : (B a).toNat = a.toNat := by have := toNat_B a; omega
  have eb : (B b).toNat = b.toNat := by have := toNat_B b; omega
  rw [g, BitVec.toNat_and, ea, eb]
  have hle : a.toNat &&& b.toNat ≤ a.toNat := Nat.and_le_left
  simp [IntKind.wrap, IntKind.signed, IntKind.bits]; omega
theorem isP_bits (n : Int) (h1 : 1 ≤ n) (h2 : n < 9223372036854775808) : (bits .and .i64 n (n - 1) == 0) = isP n := by
  rw [bits_and_i64 n (n - 1) (by omega) h2 (by omega) (by omega)]
  unfold isP
  have e : (n - 1).toNat = n.toNat - 1 := by omega
  rw [e, decide_eq_true h1, Bool.true_and, Bool.eq_iff_iff]; simp only [beq_iff_eq]; omega

theorem isP_end (k : Int) (h : ¬ 1 < k) : (k == 1) = isP k := by
  by_cases h1 : k = 1
  · subst h1; decide
  · rw [isP_low k (by omega)]; simp only [beq_eq_false_iff_ne]; exact h1
theorem ret_bool {a b : Bool} (h : a = b) : Ending.returned (.bool a) = .returned (.bool b) := by rw [h]

/-- The number that Ceil doubles up to. -/
def cl (n m : Int) : Nat → Int → Int
  | 0, p => p
  | f + 1, p => if n ≤ p ∨ p = m then p else cl n m f (2 * p)
def ceilI (n l m : Int) : Int := if isP l = true ∧ isP m = true ∧ l ≤ m then cl n m 62 l else 0

/-- The loop's state: a power of two below another one, with rounds enough left. -/
def Up (n m r : Int) (f : Nat) (p : Int) : Prop := ∃ j d : Nat, p = 2 ^ j ∧ m = 2 ^ (j + d) ∧ d ≤ f ∧ cl n m f p = r

theorem Up.le {n m r : Int} {f : Nat} {p : Int} (h : Up n m r f p) : 1 ≤ p ∧ p ≤ m := by
  obtain ⟨j, d, rfl, rfl, _, _⟩ := h
  have h1 : (0 : Int) < 2 ^ j := Int.pow_pos (by decide)
  have h2 : (0 : Int) < 2 ^ d := Int.pow_pos (by decide)
  refine ⟨by omega, ?_⟩
  rw [Int.pow_add]
  have h3 := Int.mul_le_mul_of_nonneg_left (a := (1 : Int)) (b := 2 ^ d) (c := 2 ^ j) (by omega) (by omega)
  omega
theorem Up.stop {n m r : Int} {f : Nat} {p : Int} (h : Up n m r f p) (hs : n ≤ p ∨ p = m) : p = r := by
  obtain ⟨j, d, _, _, _, hr⟩ := h
  cases f with
  | zero => exact hr
  | succ f => rw [cl, if_pos hs] at hr; exact hr
theorem Up.next {n m r : Int} {f : Nat} {p : Int} (h : Up n m r f p) (hs : ¬ (n ≤ p ∨ p = m)) : ∃ g, f = g + 1 ∧ Up n m r g (2 * p) ∧ 2 * p ≤ m := by
  obtain ⟨j, d, hp, hm, hd, hr⟩ := h
  cases d with
  | zero => exact absurd (Or.inr (by rw [hp, hm]; rfl)) hs
  | succ d =>
    cases f with
    | zero => omega
    | succ f =>
      rw [cl, if_neg hs] at hr
      have up : Up n m r f (2 * p) := ⟨j + 1, d, by rw [hp, Int.pow_succ]; omega, by rw [hm]; congr 1; omega, by omega, hr⟩
      exact ⟨f, rfl, up, up.le.2⟩
theorem Up.zero {n m r : Int} {p : Int} (h : Up n m r 0 p) : p = r := by
  obtain ⟨j, d, _, _, _, hr⟩ := h; exact hr
theorem Up.start {n l m : Int} (hl : isP l = true) (hm : isP m = true) (h : l ≤ m) (hb : m ≤ 9223372036854775807) : Up n m (ceilI n l m) 62 l := by
  obtain ⟨a, ha⟩ := isP_pow l hl
  obtain ⟨b, hb'⟩ := isP_pow m hm
  have hab : a ≤ b := by
    apply Decidable.byContradiction; intro hc
    have : (2 : Int) ^ b < 2 ^ a := Int.pow_lt_pow_of_lt (by decide) (by omega)
    omega
  have hb62 : b ≤ 62 := by
    apply Decidable.byContradiction; intro hc
    have : (2 : Int) ^ 63 ≤ 2 ^ b := by
      have e : b = 63 + (b - 63) := by omega
      rw [e, Int.pow_add]
      have : (0 : Int) < 2 ^ (b - 63) := Int.pow_pos (by decide)
      omega
    have : (2 : Int) ^ 63 = 9223372036854775808 := by decide
    omega
  exact ⟨a, b - a, ha, by rw [hb']; congr 1; omega, by omega, by unfold ceilI; rw [if_pos ⟨hl, hm, h⟩]⟩
theorem Up.props {n m r : Int} (f : Nat) : ∀ (p : Int), Up n m r f p → isP r = true ∧ p ≤ r ∧ r ≤ m ∧ (r = p ∨ r / 2 < n) ∧ (n ≤ r ∨ r = m) := by
  induction f with
  | zero =>
    intro p h
    have e := h.zero
    subst e
    have hle := h.le
    obtain ⟨j, d, hp, hm, hd, _⟩ := h
    have e0 : d = 0 := by omega
    subst e0
    exact ⟨by rw [hp]; exact pow_isP j, by omega, by omega, Or.inl rfl, Or.inr (by rw [hp, hm]; rfl)⟩
  | succ f ih =>
    intro p h
    by_cases hs : n ≤ p ∨ p = m
    · have e := h.stop hs
      subst e
      have hle := h.le
      obtain ⟨j, d, hp, hm, hd, _⟩ := h
      exact ⟨by rw [hp]; exact pow_isP j, by omega, by omega, Or.inl rfl, hs⟩
    · obtain ⟨g, hg, up, hle⟩ := h.next hs
      obtain rfl : f = g := by omega
      have hp := h.le
      obtain ⟨q1, q2, q3, q4, q5⟩ := ih (2 * p) up
      exact ⟨q1, by omega, q3, by omega, q5⟩
/-- What holds of Ceil's answer. -/
theorem ceil_props (n l m : Int) (hb : m ≤ 9223372036854775807) : ceilI n l m = 0 ∨
    (isP (ceilI n l m) = true ∧ l ≤ ceilI n l m ∧ ceilI n l m ≤ m ∧ (ceilI n l m = l ∨ ceilI n l m / 2 < n) ∧ (n ≤ ceilI n l m ∨ ceilI n l m = m)) := by
  by_cases h : isP l = true ∧ isP m = true ∧ l ≤ m
  · exact Or.inr (Up.props 62 l (Up.start h.1 h.2.1 h.2.2 hb))
  · left; unfold ceilI; rw [if_neg h]

theorem isPower_any (n : Int) (w : World) (h : n ≤ 9223372036854775807) :
    Calls Try.prog 81 #[.int .i64 n] w fun e w' => e = .returned (.bool (isP n)) ∧ w' = w := by
  by_cases h1 : 1 ≤ n
  · have hb := isP_bits n h1 (by omega)
    go_enter Try.func81, Try.ntmps81
    go_wp2
    go_ret
    exact ⟨rfl, rfl⟩
  · rw [isP_low n (by omega)]
    go_enter Try.func81, Try.ntmps81
    go_wp2
    go_ret
    exact ⟨rfl, rfl⟩

theorem ceil_any (n l m : Int) (w : World) (hl : l ≤ 9223372036854775807) (hm : m ≤ 9223372036854775807) :
    Calls Try.prog 58 #[.int .i64 n, .int .i64 l, .int .i64 m] w fun e w' => e = .returned (.int .i64 (ceilI n l m)) ∧ w' = w := by
  by_cases h : isP l = true ∧ isP m = true ∧ l ≤ m
  · obtain ⟨p1, p2, p3⟩ := h
    have up : Up n m (ceilI n l m) 62 l := Up.start p1 p2 p3 hm
    go_enter Try.func58, Try.ntmps58
    go_wp2_with (go_at_call 81; refine (isPower_any _ _ (by assumption)).mono ?_; rintro e w' ⟨rfl, rfl⟩)
    go_loop [7, 22] (fun p i => ∃ (k : Nat) (q : Int), k ≤ 62 ∧ i = .int .i64 k ∧ p = .int .i64 q ∧ Up n m (ceilI n l m) (62 - k) q) (fun _ i => 62 - (intOf i).toNat)
    case atStart => exact ⟨0, l, by omega, rfl, rfl, up⟩
    case round =>
      obtain ⟨k, q, hk, rfl, rfl, hup⟩ := hrel
      have hle := hup.le
      by_cases hlt : k < 62
      · by_cases hs : n ≤ q
        · have E : Hid (q = ceilI n l m) := hup.stop (Or.inl hs)
          go_wp2
          go_ret
          exact ⟨ret_int E.out, rfl⟩
        · by_cases hs' : q = m
          · have E : Hid (q = ceilI n l m) := hup.stop (Or.inr hs')
            have hq : (q == m) = true := by rw [hs']; exact beq_self_eq_true m
            clear hs'
            go_wp2
            go_ret
            exact ⟨ret_int E.out, rfl⟩
          · obtain ⟨g, hg, hup', hle'⟩ := hup.next (by omega)
            go_wp2
            go_round
            case rel => exact ⟨k + 1, 2 * q, by omega, by go_num, by go_num, by rw [(by omega : 62 - (k + 1) = g)]; exact hup'⟩
            case measure => simp [intOf]; omega
      · obtain rfl : k = 62 := by omega
        have E : Hid (q = ceilI n l m) := hup.zero
        go_wp2
        go_ret
        exact ⟨ret_int E.out, rfl⟩
  · have hz : ceilI n l m = 0 := by unfold ceilI; rw [if_neg h]
    rw [hz]
    clear hz
    cases p1 : isP l with
    | false =>
      clear h
      go_enter Try.func58, Try.ntmps58
      go_wp2_with (go_at_call 81; refine (isPower_any _ _ (by assumption)).mono ?_; rintro e w' ⟨rfl, rfl⟩)
      go_ret
      exact ⟨rfl, rfl⟩
    | true =>
      cases p2 : isP m with
      | false =>
        clear h
        go_enter Try.func58, Try.ntmps58
        go_wp2_with (go_at_call 81; refine (isPower_any _ _ (by assumption)).mono ?_; rintro e w' ⟨rfl, rfl⟩)
        go_ret
        exact ⟨rfl, rfl⟩
      | true =>
        have hgt : m < l := by
          apply Decidable.byContradiction; intro hc
          exact h ⟨p1, p2, by omega⟩
        clear h
        go_enter Try.func58, Try.ntmps58
        go_wp2_with (go_at_call 81; refine (isPower_any _ _ (by assumption)).mono ?_; rintro e w' ⟨rfl, rfl⟩)
        go_ret
        exact ⟨rfl, rfl⟩

/-- Widths are sixteen times as many words. -/
theorem width_of (cap : Int) : ∃ m : Nat, 1 ≤ m ∧ m ≤ 4096 ∧ ceilI cap 16 65536 = 16 * (m : Int) := by
  obtain ⟨h1, h2, h3, _, _⟩ := Up.props 62 16 (Up.start (n := cap) (l := 16) (m := 65536) (by decide) (by decide) (by decide) (by decide))
  obtain ⟨k, hk⟩ := isP_pow _ h1
  have hk4 : 4 ≤ k := by
    apply Decidable.byContradiction; intro hc
    have : (2 : Int) ^ k < 2 ^ 4 := Int.pow_lt_pow_of_lt (by decide) (by omega)
    have : (2 : Int) ^ 4 = 16 := by decide
    omega
  have e : (2 : Int) ^ k = 16 * 2 ^ (k - 4) := by
    have : k = 4 + (k - 4) := by omega
    rw [this, Int.pow_add, show 4 + (k - 4) - 4 = k - 4 by omega]; rfl
  have hp : (0 : Int) < 2 ^ (k - 4) := Int.pow_pos (by decide)
  exact ⟨(2 ^ (k - 4) : Int).toNat, by omega, by omega, by omega⟩
/-- A door's words: eight times as many bits, 64 a word. -/
theorem words_of (width : Int) : ∃ m : Nat, 2 ≤ m ∧ m ≤ 8192 ∧ 8 * ceilI width 16 65536 = 64 * (m : Int) ∧ isP (64 * (m : Int)) = true := by
  obtain ⟨h1, h2, h3, _, _⟩ := Up.props 62 16 (Up.start (n := width) (l := 16) (m := 65536) (by decide) (by decide) (by decide) (by decide))
  obtain ⟨m, a, b, c⟩ := width_of width
  refine ⟨2 * m, by omega, by omega, by omega, ?_⟩
  obtain ⟨k, hk⟩ := isP_pow _ h1
  have e : 64 * ((2 * m : Nat) : Int) = 2 ^ (k + 3) := by
    rw [Int.pow_add, ← hk]; omega
  rw [e]; exact pow_isP _
end Go.Proofs.Ytlmcopenbeammaa
