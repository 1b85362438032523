/-
  sort.Slice at a row of entries, by their keys: the row then holds the same entries, by rising keys. No condition but those told at each sentence.
-/
import Derived.Test.YthjcdloaclailaaTbSep
import Derived.Test.YthjcdloaclailaaTbShelf
import Derived.Shelf.SlSortFuncK.WholeK
import Derived.Shelf.GgSortFunc.Tiny
import Derived.Deep.QuietTactic
namespace Go.Proofs.Ythjcdloaclailaa.Tb
open Go.RowKit Go.Deep Us Go.Shelf Go.Lib Go.Sort

instance : Inhabited En := ⟨e0⟩
def cs (e : En) : List Value := [.int .i64 e.k, .int .i64 e.a, .int .i64 e.x, .int .i64 e.n]
/-- The cells of a row of entries. -/
def enL (q : List En) (j : Nat) : Value := (cs (q.getD (j / 4) e0)).getD (j % 4) undef
def ltK (a b : En) : Bool := decide (a.k < b.k)
theorem swo_ltK : SWO ltK where
  irrefl := fun x => by simp [ltK]
  trans := fun x y z h1 h2 => by simp [ltK] at *; omega
  ntrans := fun x y z h1 h2 => by simp [ltK] at *; omega
theorem slT : ∃ i, Try.prog.info? 41 = some i ∧ i.desc = .slice 30 := ⟨(Try.prog.info? 41).get (by kernel_rfl), by kernel_rfl, by kernel_rfl⟩
noncomputable def slE : TypeInfo := (Try.prog.info? 30).get (by kernel_rfl)
theorem slK (n : Nat) : Lib.swapperK n slE 25 = if n = 0 then 1 else if n = 1 then 2 else 9 := by
  have a : slE.hasPointers = false := by kernel_rfl
  have b : slE.bytes = 32 := by kernel_rfl
  by_cases h0 : n = 0
  · subst h0; simp [Lib.swapperK]
  · by_cases h1 : n = 1
    · subst h1; simp [Lib.swapperK]
    · have c : (n == 0) = false := by simp; omega
      have d : (n == 1) = false := by simp; omega
      simp [Lib.swapperK, a, b, c, d, h0, h1]
theorem hf9 : Try.prog.funcs.findIdx? (·.name == "internal/reflectlite" ++ ".Swapper$" ++ toString 9) = some 65 := by kernel_rfl
theorem hf1 : Try.prog.funcs.findIdx? (·.name == "internal/reflectlite" ++ ".Swapper$" ++ toString 1) = some 57 := by kernel_rfl
theorem hf2 : Try.prog.funcs.findIdx? (·.name == "internal/reflectlite" ++ ".Swapper$" ++ toString 2) = some 58 := by kernel_rfl
theorem hpk : Try.prog.packed 41 = false := by kernel_rfl
theorem hkd (w : World) : (Extern.Rtype.kind 30).run Try.prog w = .ok 25 w := by kernel_rfl
set_option maxHeartbeats 2000000 in
/-- The closure that All hands to sort.Slice. -/
theorem less_en (blk c V size : Nat) (W : World) (G : Nat → Int) (hs : W.cell? ⟨V, 0, none⟩ = some (.slice (some ⟨blk, 0, none⟩) size c))
    (hc : ∀ t, t < size → W.cell? ⟨blk, t * 4, none⟩ = some (.int .i64 (G t))) (i j : Nat) (hi : i < size) (hj : j < size) (_hsz : size < 4611686018427387904) :
    Calls Try.prog 41 #[.int .i64 i, .int .i64 j, .pointer (some ⟨V, 0, none⟩)] W fun e w' => e = .returned (.bool (decide (G i < G j))) ∧ ∃ q, w' = W.drewN q := by
  have ci := hc i hi
  have cj := hc j hj
  go_enter Try.func41, Try.ntmps41
  go_wp2
  go_quiet (fail)
  go_wp2
  go_ret
  exact ⟨rfl, nq, rfl⟩
theorem flat_get (q : List En) {j : Nat} (hj : j < q.length * 4) : (flatK cs 4 q.toArray)[j]! = enL q j := by
  rw [get_flatK _ _ _ _ (by simpa using hj)]
  have h4 : j / 4 < q.length := by omega
  have e1 : q.toArray[j / 4]! = q.getD (j / 4) e0 := by
    rw [getElem!_pos _ _ (by simpa using h4)]
    simp [List.getD_eq_getElem?_getD, h4]
  rw [e1]
  unfold enL
  have : j % 4 = 0 ∨ j % 4 = 1 ∨ j % 4 = 2 ∨ j % 4 = 3 := by omega
  rcases this with h | h | h | h <;> rw [h] <;> rfl
theorem pair_few : ∀ {q : List En}, q.length ≤ 1 → q.Pairwise (fun a b => a.k ≤ b.k)
  | [], _ => List.Pairwise.nil
  | [_], _ => List.pairwise_singleton _ _
  | _ :: _ :: _, h => by simp at h
theorem putRowK_block {w : World} {blk : Nat} {cur : Array Value} {ty : TypeId} (hb : w.heap[blk]? = some (.cells cur ty (0, 0))) (d : Array En) : (putRowK cs 4 w blk 0 d).heap[blk]? = some (.cells (putCells id 0 (flatK cs 4 d) cur) ty (0, 0)) := by
  show (mapBlock w blk (putCells id 0 (flatK cs 4 d))).heap[blk]? = _
  unfold mapBlock
  simp only [Array.getElem?_modify, if_true, hb]
  rfl
theorem putRowK_other {w : World} {blk k : Nat} (d : Array En) (h : k ≠ blk) : (putRowK cs 4 w blk 0 d).heap[k]? = w.heap[k]? := by
  show (mapBlock w blk (putCells id 0 (flatK cs 4 d))).heap[k]? = _
  unfold mapBlock
  simp only [Array.getElem?_modify]
  rw [if_neg (fun e => h e.symm)]
theorem grow_out (w : World) (os : Array Obj) (F : Nat → Prop) : Out F w (Sort.grow w os) :=
  ⟨rfl, rfl, fun a => frozen?_grow w os a.1 a.2, by rw [size_grow]; omega, fun k hk _ => heap_grow_old w os hk⟩
set_option maxHeartbeats 2000000 in
theorem sort_t {w : World} {blk V c : Nat} {q : List En} (hv : Vec w 30 4 (some ⟨blk, 0, none⟩) q.length c (enL q)) (hV : w.heap[V]? = some (.cells #[.slice (some ⟨blk, 0, none⟩) q.length c] 41 (0, 0))) (hne : V ≠ blk) (hn : q.length ≤ 1000000) :
    Calls Try.prog 40 #[.iface 41 (.slice (some ⟨blk, 0, none⟩) q.length c), .func (.func 41) #[] #[.pointer (some ⟨V, 0, none⟩)]] w fun e w' =>
      e = .returned (.tuple #[]) ∧ ∃ q', q'.Perm q ∧ q'.Pairwise (fun a b => a.k ≤ b.k) ∧ Vec w' 30 4 (some ⟨blk, 0, none⟩) q.length c (enL q') ∧ Out (· = blk) w w' := by
  obtain ⟨iT, hT, hTd⟩ := slT
  have lblk : blk < w.heap.size := hv.lt (In.self blk)
  have hE : Try.prog.info? 30 = some slE := by kernel_rfl
  by_cases h2 : 2 ≤ q.length
  · obtain ⟨cur, hcur, hc1, hc2, hc3, hc4⟩ : ∃ cur, w.heap[blk]? = some (.cells cur 30 (0, 0)) ∧ q.length ≤ c ∧ c ≤ maxLen ∧ cur.size = c * 4 ∧ ∀ j, j < q.length * 4 → cur[j]? = some (enL q j) := by
      rcases hv with ⟨h, _⟩ | ⟨B, cur, h, h'⟩
      · cases h
      · cases h; exact ⟨cur, h'⟩
    have hH : HoldsK cs 4 w blk 0 q.toArray := fun j hj => by
      have hj : j < q.length * 4 := by simpa using hj
      rw [Nat.zero_add, flat_get q hj]
      exact ⟨cell_of hcur (hc4 j hj), fr0 hcur j⟩
    have hless : LessReadsK Try.prog 41 #[.pointer (some ⟨V, 0, none⟩)] cs 4 ltK blk 0 q.toArray.size w := by
      intro m os dk hs i j hi hj
      have e : sortWorldK cs 4 w blk 0 m dk os = putRowK cs 4 (Sort.grow (Sort.ahead w m) os) blk 0 dk := by
        unfold sortWorldK; rw [putRowK_grow _ _ (Sort.ahead w m) _ blk 0 _ lblk]
      have hHg : HoldsK cs 4 (Sort.grow (Sort.ahead w m) os) blk 0 q.toArray := holdsK_grow _ _ _ _ blk 0 q.toArray lblk (holdsK_ahead _ _ _ _ _ _ _ hH)
      refine less_en blk c V q.toArray.size _ (fun t => dk[t]!.k) ?_ (fun t ht => ?_) i j hi hj (by simp; omega)
      · rw [e, cell?_putRowK_other _ _ _ blk 0 dk _ (by exact hne), cell?_grow _ _ _ (by exact lt_of hV)]
        exact cell_of hV rfl
      · rw [e]
        have := ((holdsK_putRowK _ _ _ blk 0 q.toArray dk hHg hs).cell (i := t) (c := 0) (by omega) (by omega)).1
        rw [Nat.zero_add, Nat.add_zero] at this
        exact this
    have hS := Any.sort_Slice_cells_sorted Try.sv6 41 30 iT slE hT hTd hpk hE 25 hkd cs 4 (fun _ => rfl) (by kernel_rfl) (fun _ => by kernel_rfl)
      (fun x v hv => by simp [cs] at hv; rcases hv with rfl | rfl | rfl | rfl <;> rfl) ltK swo_ltK 41 _
      (enters_of Try.func41 (by kernel_rfl) rfl) blk 0 c q.toArray (by simpa using h2) (by simp; omega) 65 (by rw [slK _, if_neg (by show ¬ q.length = 0; omega), if_neg (by show ¬ q.length = 1; omega)]; exact hf9) false
      (fun args W => run_callFunc_extern Try.func65 (by kernel_rfl) (by kernel_rfl) (by kernel_rfl) (e := Extern.ReflectliteSwapper.swap false) (by kernel_rfl) args W) w hless hH lblk
    change Calls Try.prog 40 _ _ _ at hS
    rw [show q.toArray.size = q.length from rfl] at hS
    refine hS.mono ?_
    rintro e w' ⟨rfl, d', n, os, ⟨hp1, _, hp3⟩, hso, rfl⟩
    have hsz : d'.size = q.length := hp1
    have hl : d'.toList.length = q.length := by simpa using hsz
    refine ⟨rfl, d'.toList, ?_, ?_, ?_, ?_⟩
    · have e1 : (d'.extract 0 q.length).toList = d'.toList := by rw [← hsz, Array.extract_size]
      have e2 : (q.toArray.extract 0 q.length).toList = q := by
        rw [show q.length = q.toArray.size from rfl, Array.extract_size]
      rw [e1, e2] at hp3
      exact hp3
    · rw [List.pairwise_iff_getElem]
      intro i j hi hj hij
      have := hso i j (Nat.zero_le _) hij (by omega)
      rw [getElem!_pos d' i (by simpa using hi), getElem!_pos d' j (by simpa using hj)] at this
      simp only [ltK, decide_eq_false_iff_not] at this
      simp only [Array.getElem_toList]
      omega
    · have hb : (Sort.grow (putRowK cs 4 (Sort.ahead w n) blk 0 d') os).heap[blk]? = some (.cells (putCells id 0 (flatK cs 4 d') cur) 30 (0, 0)) := by
        rw [heap_grow_old _ _ (by show blk < (putRow id _ blk 0 _).heap.size; rw [size_putRow]; exact lblk)]
        exact putRowK_block hcur d'
      refine Or.inr ⟨blk, _, rfl, hb, hc1, hc2, by simp [putCells, hc3], fun j hj => ?_⟩
      have hj' : j < cur.size := by rw [hc3]; omega
      have hf : j < 0 + (flatK cs 4 d').size := by rw [size_flatK, hsz]; omega
      simp only [putCells, Array.getElem?_mapIdx, Array.getElem?_eq_getElem hj', Option.map_some]
      rw [if_pos ⟨Nat.zero_le _, hf⟩]
      have := flat_get d'.toList (j := j) (by rw [hl]; exact hj)
      simp only [Array.toArray_toList] at this
      rw [Nat.sub_zero, this]
      rfl
    · refine Out.trans (w' := putRowK cs 4 (Sort.ahead w n) blk 0 d') ⟨rfl, rfl, fun a => frozen?_mapBlock _ _ _ _, by show _ ≤ (putRow id _ blk 0 _).heap.size; rw [size_putRow]; exact Nat.le_refl _, fun k _ hk => putRowK_other d' hk⟩ (grow_out _ _ (· = blk)) fun _ => Or.inl
  · have hle : q.length ≤ 1 := by omega
    obtain ⟨f, hf⟩ : ∃ f, Try.prog.funcs.findIdx? (·.name == "internal/reflectlite" ++ ".Swapper$" ++ toString (Lib.swapperK q.length slE 25)) = some f := by
      rw [slK]
      by_cases h : q.length = 0
      · rw [if_pos h]; exact ⟨_, hf1⟩
      · rw [if_neg h, if_pos (by omega)]; exact ⟨_, hf2⟩
    have hS := Any.sort_Slice_tiny Try.sv6 41 30 iT slE hT hTd hpk hE 25 hkd (some ⟨blk, 0, none⟩) q.length c hle f hf (.func 41) #[] #[.pointer (some ⟨V, 0, none⟩)] w
    change Calls Try.prog 40 _ _ _ at hS
    refine hS.mono ?_
    rintro e w' ⟨rfl, os, rfl⟩
    exact ⟨rfl, q, List.Perm.refl _, pair_few hle, hv.out (grow_out w os (fun _ => False)) (fun _ _ => id), grow_out w os _⟩
end Go.Proofs.Ythjcdloaclailaa.Tb
