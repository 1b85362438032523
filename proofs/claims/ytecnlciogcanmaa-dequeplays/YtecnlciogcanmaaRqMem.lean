/-
  The document's own lists in memory: a struct, its slice of slices, each row a slice of its own; what row, fine and find of package pantryref07 do when they are called.
-/
import Derived.Test.YtecnlciogcanmaaDqSteps
namespace Go.Proofs.Ytecnlciogcanmaa
open Go.RowKit Go.Deep

/-- The cells of a row of numbers and weights. -/
def itC (l : List (Int × Int)) (j : Nat) : Value := if j % 2 = 0 then .int .i64 (l.getD (j / 2) (0, 0)).1 else .int .i64 (l.getD (j / 2) (0, 0)).2
theorem itC0 (l : List (Int × Int)) (i : Nat) : itC l (i * 2) = .int .i64 (l.getD i (0, 0)).1 := by unfold itC; rw [if_pos (by omega), show i * 2 / 2 = i by omega]
theorem itC1 (l : List (Int × Int)) (i : Nat) : itC l (i * 2 + 1) = .int .i64 (l.getD i (0, 0)).2 := by unfold itC; rw [if_neg (by omega), show (i * 2 + 1) / 2 = i by omega]
theorem itC_one (l : List (Int × Int)) (j : Nat) : (itC l j).oneCell' = true := by unfold itC; split <;> rfl
/-- Cells told by their row and column. -/
theorem itC_eq {l : List (Int × Int)} {f : Nat → Value} {n : Nat} (h0 : ∀ i, i < n → f (i * 2) = .int .i64 (l.getD i (0, 0)).1) (h1 : ∀ i, i < n → f (i * 2 + 1) = .int .i64 (l.getD i (0, 0)).2) : ∀ j, j < n * 2 → f j = itC l j := fun j hj => by
  have hc : j = j / 2 * 2 ∨ j = j / 2 * 2 + 1 := by omega
  rcases hc with e | e
  · rw [e, h0 _ (by omega), itC0]
  · rw [e, h1 _ (by omega), itC1]
/-- Two slices whose elements are of unlike types lie apart. -/
theorem vec_apart {w : World} {e e' : TypeId} {s s' n n' c c' : Nat} {p p' : Option Addr} {f f' : Nat → Value} (hv : Vec w e s p n c f) (hv' : Vec w e' s' p' n' c' f') (ht : e ≠ e') : ∀ k, In p k → ¬ In p' k := fun k hk hk' => by
  rcases hv with ⟨rfl, _⟩ | ⟨B, cur, rfl, h2, _⟩
  · exact In.no hk
  · rw [hk.eq] at hk'
    exact vec_ne hv' h2 ht hk'

structure RqM (w : World) (R : Nat) (pl : Option Addr) (cl : Nat) (q : Nat → Option Addr × Nat) (t : Ds) : Prop where
  head : w.heap[R]? = some (.cells #[.slice pl t.n cl] 55 (0, 0))
  outer : Vec w 61 1 pl t.n cl (fun i => .slice (q i).1 (t.L i).length (q i).2)
  inner : ∀ i, i < t.n → Vec w 63 2 (q i).1 (t.L i).length (q i).2 (itC (t.L i))
  apart : ∀ i j, i < t.n → j < t.n → i ≠ j → ∀ k, In (q i).1 k → ¬ In (q j).1 k
def qfoot (R : Nat) (pl : Option Addr) (q : Nat → Option Addr × Nat) (n : Nat) (k : Nat) : Prop := k = R ∨ In pl k ∨ ∃ i, i < n ∧ In (q i).1 k
variable {w w' : World} {R : Nat} {pl : Option Addr} {cl : Nat} {q : Nat → Option Addr × Nat} {t : Ds}
theorem Vec.keep {e : TypeId} {s : Nat} {p : Option Addr} {n c : Nat} {f : Nat → Value} (hv : Vec w e s p n c f) (h : ∀ k, In p k → w'.heap[k]? = w.heap[k]?) : Vec w' e s p n c f := by
  rcases hv with hv | ⟨B, cur, rfl, h2, h3⟩
  · exact Or.inl hv
  · exact Or.inr ⟨B, cur, rfl, (h B (In.self B)).trans h2, h3⟩
namespace RqM
theorem foot_lt (h : RqM w R pl cl q t) {k : Nat} (hk : qfoot R pl q t.n k) : k < w.heap.size := by
  rcases hk with rfl | hk | ⟨i, hi, hk⟩
  · exact lt_of h.head
  · exact h.outer.lt hk
  · exact (h.inner i hi).lt hk
theorem keep (h : RqM w R pl cl q t) (hk : ∀ k, qfoot R pl q t.n k → w'.heap[k]? = w.heap[k]?) : RqM w' R pl cl q t :=
  ⟨(hk R (Or.inl rfl)).trans h.head, h.outer.keep fun k hi => hk k (Or.inr (Or.inl hi)), fun i hi => (h.inner i hi).keep fun k hin => hk k (Or.inr (Or.inr ⟨i, hi, hin⟩)), h.apart⟩
theorem out {F : Nat → Prop} (h : RqM w R pl cl q t) (o : Out F w w') (hF : ∀ k, qfoot R pl q t.n k → ¬ F k) : RqM w' R pl cl q t := h.keep fun k hk => o.block k (h.foot_lt hk) (hF k hk)
theorem grown (h : RqM w R pl cl q t) (g : Grown w w') : RqM w' R pl cl q t := h.keep fun _ hk => grown_block g (h.foot_lt hk)
theorem drewN (h : RqM w R pl cl q t) (d : Nat) : RqM (w.drewN d) R pl cl q t := h.keep fun _ _ => rfl
theorem cell0 (h : RqM w R pl cl q t) : w.cell? ⟨R, 0, none⟩ = some (.slice pl t.n cl) := cell_of h.head rfl
theorem ofRow (h : RqM w R pl cl q t) {i : Nat} (hi : i < t.n) : ∃ P, pl = some ⟨P, 0, none⟩ ∧ P < w.heap.size ∧ w.cell? ⟨P, i, none⟩ = some (.slice (q i).1 (t.L i).length (q i).2) ∧ w.frozen? ⟨P, i, none⟩ = false ∧ t.n ≤ cl := by
  obtain ⟨P, h1, h2, h3, h4, h5⟩ := h.outer.opens (by omega)
  exact ⟨P, h1, h2, h3 i (by omega), h4 i, h5⟩
theorem item (h : RqM w R pl cl q t) {i k : Nat} (hi : i < t.n) (hk : k < (t.L i).length) : ∃ B, (q i).1 = some ⟨B, 0, none⟩ ∧ B < w.heap.size ∧ w.cell? ⟨B, k * 2, none⟩ = some (.int .i64 ((t.L i).getD k (0, 0)).1) ∧ w.cell? ⟨B, k * 2 + 1, none⟩ = some (.int .i64 ((t.L i).getD k (0, 0)).2) ∧ (∀ j, w.frozen? ⟨B, j, none⟩ = false) ∧ (t.L i).length ≤ (q i).2 := by
  obtain ⟨B, h1, h2, h3, h4, h5⟩ := (h.inner i hi).opens (by omega)
  exact ⟨B, h1, h2, (h3 (k * 2) (by omega)).trans (by rw [itC0]), (h3 (k * 2 + 1) (by omega)).trans (by rw [itC1]), h4, h5⟩
end RqM

theorem rrow_m (h : RqM w R pl cl q t) (l : Int) :
    Calls Try.prog 33 #[ptr R, .int .i64 l] w fun e w' => e = .returned (.bool (t.has l)) ∧ w' = w := by
  have c0 := h.cell0
  unfold Ds.has
  clear h
  unfold ptr
  have hc : l < 0 ∨ (0 ≤ l ∧ l < (t.n : Int)) ∨ (0 ≤ l ∧ (t.n : Int) ≤ l) := by omega
  generalize t.n = n at *
  rcases hc with h | ⟨h, h'⟩ | ⟨h, h'⟩
  all_goals
    go_enter Try.func33, Try.ntmps33
    go_wp2
    go_ret
    exact ⟨ret_b (by simp; try omega), rfl⟩
theorem fine_m (id : Int) (w : World) :
    Calls Try.prog 34 #[.int .i64 id] w fun e w' => e = .returned (.bool (Ds.mayWeigh id)) ∧ w' = w := by
  unfold Ds.mayWeigh
  have hc : id < 0 ∨ (0 ≤ id ∧ id ≤ 2147483648) ∨ (0 ≤ id ∧ 2147483648 < id) := by omega
  rcases hc with h | ⟨h, h'⟩ | ⟨h, h'⟩
  all_goals
    go_enter Try.func34, Try.ntmps34
    go_wp2
    go_ret
    exact ⟨ret_b (by simp; try omega), rfl⟩
theorem getD_at {l : List (Int × Int)} {k : Nat} (hk : k < l.length) : l[k]? = some (l.getD k (0, 0)) := by
  rw [List.getD_eq_getElem?_getD, List.getElem?_eq_getElem hk]; rfl
/-- A number is in none of the first rows; at none of the first places; at that place. -/
def NotIn (t : Ds) (id : Int) (i : Nat) : Prop := ∀ r v, r < i → (id, v) ∉ t.L r
def NotAt (l : List (Int × Int)) (id : Int) (k : Nat) : Prop := ∀ j, j < k → (l.getD j (0, 0)).1 ≠ id
def Found (t : Ds) (id : Int) (i k : Nat) : Prop := ∃ v, (t.L i)[k]? = some (id, v)
set_option maxHeartbeats 1000000 in
theorem find_m (h : RqM w R pl cl q t) (hw : t.Wf) (hlen : ∀ i, (t.L i).length ≤ 65536) (id : Int) :
    Calls Try.prog 35 #[ptr R, .int .i64 id] w fun e w' => ((e = .returned (.tuple #[.int .i64 (-1), .int .i64 (-1)]) ∧ t.find id = none) ∨ ∃ (i k : Nat), e = .returned (.tuple #[.int .i64 (i : Int), .int .i64 (k : Int)]) ∧ Found t id i k) ∧ w' = w := by
  have c0 := h.cell0
  have hn := hw.cap
  have lR := lt_of h.head
  have HH : Hid (RqM w R pl cl q t) := h
  have HW : Hid t.Wf := hw
  have HLn : Hid (∀ i, (t.L i).length ≤ 65536) := hlen
  obtain ⟨N, HN⟩ : ∃ N, Hid (N = t.n) := ⟨_, rfl⟩
  rw [← HN.out] at c0 hn
  clear h hw hlen
  unfold ptr
  go_enter Try.func35, Try.ntmps35
  go_wp2
  go_loopw [6] (fun iv wr => ∃ i : Nat, i ≤ N ∧ iv = .int .i64 (i : Int) ∧ NotIn t id i ∧ wr = w) (fun iv _ => N - (intOf iv).toNat)
  case atStart => exact ⟨0, by omega, rfl, fun r v hr => absurd hr (Nat.not_lt_zero r), rfl⟩
  case round =>
    obtain ⟨i, hi, rfl, hno, hwr⟩ := hrel
    have hwr := hwr.symm
    subst hwr
    have HNo : Hid (NotIn t id i) := hno
    clear hno
    by_cases hlt : i < N
    · have d1 : decide ((i : Int) < (N : Int)) = true := by rw [decide_eq_true_eq]; omega
      have hin : i < t.n := by rw [← HN.out]; exact hlt
      obtain ⟨P, rfl, lP, cP, _, hcl⟩ := HH.out.ofRow hin
      rw [← HN.out] at hcl
      obtain ⟨L, HL⟩ : ∃ L, Hid (L = (t.L i).length) := ⟨_, rfl⟩
      have hL : L ≤ 65536 := by rw [HL.out]; exact HLn.out i
      rw [← HL.out] at cP
      generalize hqp : (q i).1 = qp at *
      generalize hqc : (q i).2 = qc at *
      clear hin
      go_wp2
      go_loopw [7] (fun kv wr => ∃ k : Nat, k ≤ L ∧ kv = .int .i64 (k : Int) ∧ NotAt (t.L i) id k ∧ wr = w) (fun kv _ => L - (intOf kv).toNat)
      case atStart => exact ⟨0, by omega, rfl, fun j hj => absurd hj (Nat.not_lt_zero j), rfl⟩
      case round =>
        obtain ⟨k, hk, rfl, hnk, hwr⟩ := hrel
        have hwr := hwr.symm
        subst hwr
        have HNk : Hid (NotAt (t.L i) id k) := hnk
        clear hnk
        by_cases hkl : k < L
        · have d2 : decide ((k : Int) < (L : Int)) = true := by rw [decide_eq_true_eq]; omega
          obtain ⟨B, hB, lB, e0, _, _, hc⟩ := HH.out.item (i := i) (k := k) (by rw [← HN.out]; exact hlt) (by rw [← HL.out]; exact hkl)
          rw [hqp] at hB
          rw [hqc, ← HL.out] at hc
          subst hB
          have HA : Hid ((t.L i)[k]? = some ((t.L i).getD k (0, 0))) := getD_at (by rw [← HL.out]; exact hkl)
          obtain ⟨x, HX⟩ : ∃ x, Hid (x = ((t.L i).getD k (0, 0)).1) := ⟨_, rfl⟩
          rw [← HX.out] at e0
          by_cases hx : x = id
          · have d3 : (x == id) = true := by simpa using hx
            go_wp2
            go_ret2
            exact ⟨Or.inr ⟨i, k, rfl, ((t.L i).getD k (0, 0)).2, by rw [HA.out, ← hx, HX.out]⟩, rfl⟩
          · have d3 : (x == id) = false := by simpa using hx
            go_wp2
            go_roundw
            case rel =>
              refine ⟨k + 1, by omega, by go_num, fun j hj => ?_, trivial⟩
              by_cases e : j = k
              · subst e; rw [← HX.out]; exact hx
              · exact HNk.out j (by omega)
            case measure => simp [intOf]; omega
        · obtain rfl : k = L := by omega
          have d2 : decide ((k : Int) < (k : Int)) = false := by rw [decide_eq_false_iff_not]; omega
          go_wp2
          go_roundw
          case rel =>
            refine ⟨i + 1, by omega, by go_num, fun r v hr hm => ?_, trivial⟩
            by_cases e : r = i
            · subst e
              obtain ⟨j, hj, he⟩ := List.mem_iff_getElem.1 hm
              refine HNk.out j (by rw [HL.out]; exact hj) ?_
              rw [List.getD_eq_getElem?_getD, List.getElem?_eq_getElem hj, he]; rfl
            · exact HNo.out r v (by omega) hm
          case measure => simp [intOf]; omega
    · obtain rfl : i = N := by omega
      have d1 : decide ((i : Int) < (i : Int)) = false := by rw [decide_eq_false_iff_not]; omega
      go_wp2
      go_ret2
      refine ⟨Or.inl ⟨rfl, ?_⟩, rfl⟩
      cases hf : t.find id with
      | none => rfl
      | some p =>
        obtain ⟨r, v⟩ := p
        have := Ds.find_mem hf
        exact absurd this (HNo.out r v (by rw [HN.out]; exact HW.out.lt this))
theorem find_no (h : RqM w R pl cl q t) (hw : t.Wf) (hlen : ∀ i, (t.L i).length ≤ 65536) {id : Int} (hf : t.find id = none) :
    Calls Try.prog 35 #[ptr R, .int .i64 id] w fun e w' => e = .returned (.tuple #[.int .i64 (-1), .int .i64 (-1)]) ∧ w' = w := by
  refine (find_m h hw hlen id).mono ?_
  rintro e w' ⟨(⟨rfl, _⟩ | ⟨i, k, _, v, hk⟩), rfl⟩
  · exact ⟨rfl, rfl⟩
  · rw [hw.find_of (List.mem_of_getElem? hk)] at hf; cases hf
theorem find_yes (h : RqM w R pl cl q t) (hw : t.Wf) (hlen : ∀ i, (t.L i).length ≤ 65536) {id v : Int} {i : Nat} (hf : t.find id = some (i, v)) :
    ∃ k : Nat, (t.L i)[k]? = some (id, v) ∧ Calls Try.prog 35 #[ptr R, .int .i64 id] w fun e w' => e = .returned (.tuple #[.int .i64 (i : Int), .int .i64 (k : Int)]) ∧ w' = w := by
  obtain ⟨k, hk, he⟩ := List.mem_iff_getElem.1 (Ds.find_mem hf)
  have hkk : (t.L i)[k]? = some (id, v) := by rw [List.getElem?_eq_getElem hk, he]
  refine ⟨k, hkk, (find_m h hw hlen id).mono ?_⟩
  rintro e w' ⟨(⟨_, h0⟩ | ⟨i', k', rfl, v', hk'⟩), rfl⟩
  · rw [hf] at h0; cases h0
  · obtain ⟨e1, e2⟩ := hw.uniq i' i (id, v') (id, v) (List.mem_of_getElem? hk') (Ds.find_mem hf) rfl
    subst e1
    obtain ⟨l1, g1⟩ := List.getElem?_eq_some_iff.1 hk'
    have : k' = k := by
      have hd := hw.dup i'
      apply Decidable.byContradiction; intro hne
      rcases Nat.lt_or_gt_of_ne hne with c | c
      · exact absurd (show ((t.L i').map (·.1))[k']'(by simpa using l1) = ((t.L i').map (·.1))[k]'(by simpa using hk) by simp [g1, he]) (List.pairwise_iff_getElem.1 hd k' k (by simpa using l1) (by simpa using hk) c)
      · exact absurd (show ((t.L i').map (·.1))[k]'(by simpa using hk) = ((t.L i').map (·.1))[k']'(by simpa using l1) by simp [g1, he]) (List.pairwise_iff_getElem.1 hd k k' (by simpa using hk) (by simpa using l1) c)
    subst this
    exact ⟨rfl, rfl⟩
end Go.Proofs.Ytecnlciogcanmaa
