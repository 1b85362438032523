/-
  What New of package stripes makes. No condition but those told at each sentence.
-/
import Derived.Test.YtbboomhgigaobaaSpLens
namespace Go.Proofs.Ytbboomhgigaobaa.Rn
open Go.RowKit Go.Deep
variable {W w w' : World} {l : List Ob} {i j k N : Nat} {X : Sp} {st : St} {q q' : List Int} {L L' : Int}

theorem infoS : (Try.prog.info? 46).map (fun i => (i.zero, i.size, i.bytes)) = some (some .nilIface, 1, 16) := by kernel_rfl
/-- How many rings: from 1 to 64. -/
theorem count_all (n : Int) : ∃ k : Nat, 1 ≤ k ∧ k ≤ 64 ∧ ceilI n 1 64 = (k : Int) := by
  obtain ⟨h1, h2, h3, _, _⟩ := Up.props 62 1 (Up.start (n := n) (l := 1) (m := 64) (by decide) (by decide) (by decide) (by decide))
  exact ⟨(ceilI n 1 64).toNat, by omega, by omega, by omega⟩
def ringsN (b : Nat → Nat) (N : Nat) (st : St) : List Ob := st.mapIdx fun i s => obR (b i) N s.1 s.2
def freshN (k : Nat) : St := List.replicate k ([], 0)
theorem ringsN_succ (b : Nat → Nat) (N k B : Nat) : ringsN (fun i => if i < k then b i else B) N (freshN (k + 1)) = ringsN b N (freshN k) ++ [obR B N [] 0] := by
  unfold ringsN freshN
  rw [List.replicate_succ', List.mapIdx_concat, List.length_replicate]
  congr 1
  · rw [List.mapIdx_eq_mapIdx_iff]
    intro i hi
    simp at hi
    simp [hi]
  · simp
/-- A row of rings, the rings and the struct of stripes, taken together. -/
theorem sp_new {b : Nat → Nat} {R : Nat} {seed : Int} {f : Nat → Value} {l2 : List Ob} (h : Apt W w ((l ++ [obVec 46 1 (some ⟨R, 0, none⟩) k k f]) ++ l2)) (hf : ∀ i, i < k → f i = .iface 43 (ptr (b i + 1))) (hl : l2 = ringsN b N (freshN k)) (hk1 : 1 ≤ k) (hk2 : k ≤ 64) :
    Apt W (w.alloc (.cells #[.slice (some ⟨R, 0, none⟩) k k, .int .i64 seed] 48)) (l ++ [obSp ⟨w.heap.size, R, k, N, seed, b⟩ (freshN k)]) := by
  have g : Grown w (w.alloc (.cells #[.slice (some ⟨R, 0, none⟩) k k, .int .i64 seed] 48)) := (Grown.refl _).alloc _ _
  have hr : ((l ++ [obVec 46 1 (some ⟨R, 0, none⟩) k k f]) ++ l2)[l.length]? = some (obVec 46 1 (some ⟨R, 0, none⟩) k k f) := by
    rw [List.getElem?_append_left (by simp)]
    exact last_at _ _
  have hv : Vec w 46 1 (some ⟨R, 0, none⟩) k k f := h.all _ _ hr
  obtain ⟨X, hX⟩ : ∃ X : Sp, X = ⟨w.heap.size, R, k, N, seed, b⟩ := ⟨_, rfl⟩
  have h6 := h.upd (o' := obVec 46 1 (some ⟨R, 0, none⟩) k k (spV X)) hr (hv.congr fun j hj => by rw [hf j (by omega), hX]; rfl) (Step.grown _ (Grown.refl _))
  rw [List.set_append_left (h := by simp), last_set] at h6
  have h7 := h6.add (u := spH X k) g ⟨by rw [hX]; exact blk_alloc_new _ _, by rw [hX], by rw [hX]; exact hk1, by rw [hX]; exact hk2⟩ fun k hk => by
    have hk : k = X.S := hk
    rw [hk, hX]; exact Nat.le_refl _
  have h8 : Apt W _ (l ++ spL X (freshN k)) := h7.same (by
    have e : spL X (freshN k) = [spH X k] ++ ([obVec 46 1 (some ⟨R, 0, none⟩) k k (spV X)] ++ l2) := by
      rw [hl, hX]; simp [spL, freshN, ringsN]
    rw [e, List.append_assoc l, List.append_assoc l]
    exact List.Perm.append_left _ List.perm_append_comm)
  have h9 := h8.packed
  rw [hX] at h9
  exact h9
theorem new_p (h : Apt W w l) (n size seed : Int) (hk1 : 1 ≤ k) (hk2 : k ≤ 64) (ek : ceilI n 1 64 = (k : Int)) (hN : 1 ≤ N) (hm : N ≤ 4096) (e : ceilI size 1 4096 = (N : Int)) :
    Calls Try.prog 8 #[.int .i64 n, .int .i64 size, .int .i64 seed] w fun e w' => ∃ X : Sp, e = .returned (ptr X.S) ∧ X.k = k ∧ X.N = N ∧ X.seed = seed ∧ Apt W w' (l ++ [obSp X (freshN k)]) := by
  have ce := fun w => ceil_any n 1 64 w (by decide) (by decide)
  rw [ek] at ce
  have nw := fun w1 l1 (h1 : Apt W w1 l1) => new_s h1 size hN hm e
  have hmk := run_make_row' (P := Try.prog) 41 46 .nilIface 16 Try.underlying41 infoS rfl .i64 .i64 k (by omega) (by omega)
  have h1 : Apt W (w.alloc (.cells (madeCells #[.nilIface] k) 46)) (l ++ [obVec 46 1 (some ⟨w.heap.size, 0, none⟩) k k fun _ => .nilIface]) :=
    h.add ((Grown.refl _).alloc _ _) (Vec.made w 46 #[.nilIface] k 1 (by unfold maxLen; omega) _ (fun j hj => made_one _ _ _ (by omega)) (by rw [size_madeCells]; omega)) fun k hk => by
      have hk : In (some ⟨w.heap.size, 0, none⟩) k := hk
      rw [hk.eq]; exact Nat.le_refl _
  obtain ⟨R, hR⟩ : ∃ R, Hid (R = w.heap.size) := ⟨_, rfl⟩
  rw [show obVec 46 1 (some ⟨w.heap.size, 0, none⟩) k k (fun _ => .nilIface) = obVec 46 1 (some ⟨R, 0, none⟩) k k (fun _ => .nilIface) by rw [hR.out]] at h1
  have h1 : Hid (Apt W (w.alloc (.cells (madeCells #[.nilIface] k) 46)) (l ++ [obVec 46 1 (some ⟨R, 0, none⟩) k k fun _ => .nilIface])) := h1
  clear ek h e
  unfold ptr at *
  go_enter Try.func8, Try.ntmps8
  go_wp2_with (go_at_call 25; refine (ce _).mono ?_; rintro e w' ⟨rfl, rfl⟩)
  rw [← hR.out]
  clear ce hmk
  go_loopw [8, 14] (fun _ iv wr => ∃ (j : Nat) (f : Nat → Value) (b : Nat → Nat), j ≤ k ∧ iv = .int .i64 (j : Int) ∧ (∀ i, i < j → f i = .iface 43 (ptr (b i + 1))) ∧ Apt W wr ((l ++ [obVec 46 1 (some ⟨R, 0, none⟩) k k f]) ++ ringsN b N (freshN j))) (fun _ iv _ => k - (intOf iv).toNat)
  case atStart => exact ⟨0, _, fun _ => 0, by omega, rfl, fun i hi => by omega, by simpa [ringsN, freshN] using h1.out⟩
  case round =>
    clear h1 hR
    obtain ⟨j, f, b, hj, rfl, hf, hx⟩ := hrel
    obtain ⟨l2, hl2⟩ : ∃ l2, Hid (l2 = ringsN b N (freshN j)) := ⟨_, rfl⟩
    have hll : Hid (l2.length = j) := by rw [hl2.out]; show _ = _; simp [ringsN, freshN]
    rw [← hl2.out] at hx
    have H : Hid (Apt W wr ((l ++ [obVec 46 1 (some ⟨R, 0, none⟩) k k f]) ++ l2)) := hx
    have hf : Hid (∀ i, i < j → f i = .iface 43 (ptr (b i + 1))) := hf
    have atR : ∀ x, Hid (((l ++ [obVec 46 1 (some ⟨R, 0, none⟩) k k f]) ++ l2 ++ x)[l.length]? = some (obVec 46 1 (some ⟨R, 0, none⟩) k k f)) := fun x => by
      show _ = _
      rw [List.getElem?_append_left (by simp), List.getElem?_append_left (by simp)]
      exact last_at _ _
    clear hx
    by_cases hlt : j < k
    · have a1 := nw _ _ H.out
      have hd : decide ((j : Int) < (k : Int)) = true := by rw [decide_eq_true_eq]; omega
      go_wp2_with (go_at_call 26; refine a1.mono ?_; rintro e w2 ⟨B, rfl, h2⟩; clear a1; obtain ⟨B', e, lB, cB, fB, _⟩ := Vec.opens (h2.all _ _ (atR _).out) (by omega); cases e; have cj := cB j (by omega); have fj := fB j; have h3 := vset h2 (atR _).out j (.iface 43 (.pointer (some ⟨B + 1, 0, none⟩))); have h3 : Hid (Apt W (w2.setCell ⟨R, j, none⟩ (.iface 43 (.pointer (some ⟨B + 1, 0, none⟩)))) _) := h3; clear cB fB h2)
      go_roundw
      case rel =>
        refine ⟨j + 1, fun i => if i = j then .iface 43 (.pointer (some ⟨B + 1, 0, none⟩)) else f i, fun i => if i < j then b i else B, by omega, by go_num, fun i hi => ?_, ?_⟩
        · by_cases e : i = j
          · subst e
            simp [ptr]
          · have : i < j := by omega
            simp only [if_neg e, if_pos this]
            exact hf.out i this
        · rw [ringsN_succ]
          have h4 := h3.out
          rw [List.append_assoc, List.append_assoc, List.set_append_right (h := Nat.le_refl _), Nat.sub_self, List.singleton_append, List.set_cons_zero, hl2.out] at h4
          rw [List.append_assoc, List.singleton_append]
          exact h4
      case measure => simp [intOf]; omega
    · obtain rfl : j = k := by omega
      have hd : decide ((j : Int) < (j : Int)) = false := by rw [decide_eq_false_iff_not]; omega
      go_wp2
      go_ret
      refine ⟨⟨wr.heap.size, R, j, N, seed, b⟩, rfl, rfl, rfl, rfl, ?_⟩
      exact sp_new H.out (fun i hi => hf.out i hi) hl2.out hk1 hk2
end Go.Proofs.Ytbboomhgigaobaa.Rn
