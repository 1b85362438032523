/-
  The document's ring: what New, Offer, Take and Drain of package pantryref12 do when they are called. No condition but those told at each sentence.
-/
import Derived.Test.YtbboomhgigaobaaRgMem
import Derived.Test.YtbboomhgigaobaaGenObj
import Derived.Test.YtbboomhgigaobaaGenApp
namespace Go.Proofs.Ytbboomhgigaobaa.Rn
open Go.RowKit Go.Deep

theorem fr0 {w : World} {b : Nat} {c : Array Value} {t : TypeId} (h : w.heap[b]? = some (.cells c t (0, 0))) (k : Nat) : w.frozen? ⟨b, k, none⟩ = false := by simp [World.frozen?, h]
/-- The document's ring at block A: its size N, what it holds, how many were lost. -/
structure Rr (w : World) (A N : Nat) (p : Option Addr) (c : Nat) (q : List Int) (L : Int) : Prop where
  head : w.heap[A]? = some (.cells #[.int .i64 (N : Int), .slice p q.length c, .int .i64 L] 61 (0, 0))
  vec : Vec w 3 1 p q.length c (ivL q)
  self : ¬ In p A
def rrF (A : Nat) (p : Option Addr) (k : Nat) : Prop := k = A ∨ In p k
variable {w w' : World} {A N c : Nat} {p : Option Addr} {q : List Int} {L : Int}
namespace Rr
theorem foot_lt (h : Rr w A N p c q L) {k : Nat} (hk : rrF A p k) : k < w.heap.size := by
  rcases hk with rfl | hk
  · exact lt_of h.head
  · exact h.vec.lt hk
theorem out {F : Nat → Prop} (h : Rr w A N p c q L) (o : Out F w w') (hF : ∀ k, rrF A p k → ¬ F k) : Rr w' A N p c q L :=
  ⟨(o.block A (lt_of h.head) (hF A (.inl rfl))).trans h.head, h.vec.out o fun k hk => hF k (.inr hk), h.self⟩
theorem grown (h : Rr w A N p c q L) (g : Grown w w') : Rr w' A N p c q L := h.out (Out.of_grown g fun _ => False) fun _ _ => id
theorem cells (h : Rr w A N p c q L) : w.cell? ⟨A, 0, none⟩ = some (.int .i64 (N : Int)) ∧ w.cell? ⟨A, 1, none⟩ = some (.slice p q.length c) ∧ w.cell? ⟨A, 2, none⟩ = some (.int .i64 L) := ⟨cell_of h.head rfl, cell_of h.head rfl, cell_of h.head rfl⟩
theorem free (h : Rr w A N p c q L) (i : Nat) : w.frozen? ⟨A, i, none⟩ = false := by simp [World.frozen?, h.head]
theorem lose (h : Rr w A N p c q L) (L' : Int) : Rr (w.setCell ⟨A, 2, none⟩ (.int .i64 L')) A N p c q L' :=
  ⟨blk_set h.head 2 _, h.vec.out ((Out.refl (fun x => x = A) w).setCell (a := ⟨A, 2, none⟩) rfl _) fun k hk e => h.self (by rw [← e]; exact hk), h.self⟩
/-- Another row, which lies in new blocks or where the elder lay. -/
theorem put {w2 : World} {p' : Option Addr} {c' : Nat} {q' : List Int} (h : Rr w A N p c q L) (o : Out (fun k => In p k ∨ w.heap.size ≤ k) w w2) (hv : Vec w2 3 1 p' q'.length c' (ivL q')) (hp : ∀ k, In p' k → In p k ∨ w.heap.size ≤ k) :
    Rr (w2.setCell ⟨A, 1, none⟩ (.slice p' q'.length c')) A N p' c' q' L ∧ Step (rrF A p) (rrF A p') w (w2.setCell ⟨A, 1, none⟩ (.slice p' q'.length c')) := by
  have hA := lt_of h.head
  have hnA : ¬ In p' A := fun x => by
    rcases hp A x with x | x
    · exact h.self x
    · omega
  have hh : w2.heap[A]? = _ := (o.block A hA fun x => by
    rcases x with x | x
    · exact h.self x
    · omega).trans h.head
  refine ⟨⟨blk_set hh 1 _, hv.out ((Out.refl (fun x => x = A) w2).setCell (a := ⟨A, 1, none⟩) rfl _) fun k hk e => hnA (by rw [← e]; exact hk), hnA⟩, ⟨(o.wide fun k hk x => ?_).setCell (a := ⟨A, 1, none⟩) (.inl rfl) _, fun k hk => ?_⟩⟩
  · rcases x with x | x
    · exact .inr x
    · omega
  · rcases hk with rfl | hk
    · exact .inl (.inl rfl)
    · exact (hp k hk).imp_left .inr
end Rr
theorem rnew_g (n : Int) (w : World) (e : ceilI n 1 4096 = (N : Int)) :
    Calls Try.prog 28 #[.int .i64 n] w fun e w' => e = .returned (ptr w.heap.size) ∧ Rr w' w.heap.size N none 0 [] 0 ∧ Grown w w' := by
  have ce := fun w => refCeil_any n 1 4096 w (by decide) (by decide) (by decide) (by decide)
  rw [e] at ce
  clear e
  go_enter Try.func28, Try.ntmps28
  go_wp2_with (go_at_call 27; refine (ce _).mono ?_; rintro e w' ⟨rfl, rfl⟩)
  go_ret
  exact ⟨rfl, ⟨blk_alloc_new _ _, Vec.nil _ _ _ _, In.no⟩, (Grown.refl _).alloc _ _⟩
theorem roffer_no (h : Rr w A N p c q L) (hl : q.length = N) (n : Int) (hL : 0 ≤ L ∧ L ≤ 1000000) :
    Calls Try.prog 31 #[ptr A, .int .i64 n] w fun e w' => e = .returned (.bool false) ∧ Rr w' A N p c q (L + 1) ∧ Out (rrF A p) w w' := by
  obtain ⟨c0, c1, c2⟩ := h.cells
  have f2 := h.free 2
  have H : Hid (Rr w A N p c q L) := h
  rw [hl] at c1
  have hb := lt_of h.head
  clear h
  unfold ptr
  go_enter Try.func31, Try.ntmps31
  go_wp2
  go_quiet (fail)
  go_wp2
  go_ret
  exact ⟨rfl, (H.out.grown (grownDrewN (Grown.refl _) _)).lose _, (((Out.refl _ _).drewN _).setCell (Or.inl rfl) _)⟩
theorem new_int (w : World) (u : Value) (y : TypeId) : ∀ j, j < 1 * 1 → (w.alloc (.cells #[u] y)).cell? ((⟨w.heap.size, 0, none⟩ : Addr).add j) = some u := fun j hj => by
  obtain rfl : j = 0 := by omega
  have e : (⟨w.heap.size, 0, none⟩ : Addr).add 0 = ⟨w.heap.size, 0, none⟩ := by unfold Addr.add; split <;> simp_all
  rw [e]
  exact cell_of (blk_alloc_new _ _) rfl
theorem ivL_push (q : List Int) (n : Int) : ∀ j, j < (q.length + 1) * 1 → (if j < q.length * 1 then ivL q j else .int .i64 n) = ivL (q ++ [n]) j := fun j hj => by
  by_cases h : j < q.length
  · rw [if_pos (by omega)]; simp [ivL, List.getElem?_append_left h]
  · rw [if_neg (by omega), show j = q.length by omega]; simp [ivL]
theorem roffer_yes (h : Rr w A N p c q L) (hl : q.length < N) (n : Int) (hm : N ≤ 4096) :
    Calls Try.prog 31 #[ptr A, .int .i64 n] w fun e w' => ∃ p' c', e = .returned (.bool true) ∧ Rr w' A N p' c' (q ++ [n]) L ∧ Step (rrF A p) (rrF A p') w w' := by
  obtain ⟨c0, c1, c2⟩ := h.cells
  have hd : decide (N ≤ q.length) = false := by rw [decide_eq_false_iff_not]; omega
  obtain ⟨k, hk⟩ : ∃ k, Hid (k = q.length) := ⟨_, rfl⟩
  have HV : Hid (∀ (w1 : World), Grown w w1 → Vec w1 3 1 p q.length c (ivL q)) := fun w1 g => h.vec.grown g
  have HP : Hid (∀ (w1 w2 : World) (p' : Option Addr) (c' : Nat), Grown w w1 → Vec w2 3 1 p' (q.length + 1) c' (fun j => if j < q.length * 1 then ivL q j else .int .i64 n) → Out (In p) w1 w2 → (p' = p ∨ p' = some ⟨w1.heap.size, 0, none⟩) →
      w2.heap[A]? = w.heap[A]? ∧ Rr (w2.setCell ⟨A, 1, none⟩ (.slice p' (q.length + 1) c')) A N p' c' (q ++ [n]) L ∧ Step (rrF A p) (rrF A p') w (w2.setCell ⟨A, 1, none⟩ (.slice p' (q.length + 1) c'))) := fun w1 w2 p' c' g hv ho hp => by
    have hv' : Vec w2 3 1 p' (q ++ [n]).length c' (ivL (q ++ [n])) := by
      rw [List.length_append]
      exact hv.congr (ivL_push q n)
    have o : Out (fun k => In p k ∨ w.heap.size ≤ k) w w2 := (Out.of_grown g _).trans ho fun k hk => .inl (.inl hk)
    have := h.put o hv' fun k hk => by
      rcases hp with rfl | rfl
      · exact .inl hk
      · have := hk.eq; have := g.2.2; exact .inr (by omega)
    rw [List.length_append] at this
    refine ⟨o.block A (lt_of h.head) fun x => ?_, this⟩
    rcases x with x | x
    · exact h.self x
    · have := lt_of h.head; omega
  have hA := h.head
  rw [← hk.out] at c1 hd HV HP hA
  have hk1 : k ≤ 4096 := by have := hk.out; omega
  have hb := lt_of h.head
  clear h hl
  unfold ptr
  go_enter Try.func31, Try.ntmps31
  go_wp2
  go_quiet (fail)
  go_wp2_with (at_builtin; refine wpList_append_vec rfl (.tmp 26) (.tmp 28) 32 rfl Try.underlying32 infoN rfl rfl (HV.out _ ((grownDrewN (Grown.refl _) _).alloc _ _)) rfl (by decide) (new_int _ _ _) (fun _ _ => rfl) (by omega) (by omega) ?_; intro p' c' w2 hv2 ho2 hp2; obtain ⟨k1, k2, k3⟩ := HP.out _ w2 p' c' ((grownDrewN (Grown.refl _) _).alloc _ _) hv2 ho2 hp2; have HK : Hid (Rr _ A N p' c' (q ++ [n]) L ∧ Step (rrF A p) (rrF A p') w _) := ⟨k2, k3⟩; have hA2 := k1.trans hA; clear hA c0 c1 c2 hv2 ho2 hp2 k1 k2 k3; have c1 := cell_of (k := 1) hA2 rfl; have f1 := fr0 hA2 1; have hb2 := lt_of hA2)
  go_ret
  exact ⟨p', c', rfl, HK.out.1, HK.out.2⟩
theorem rtake_no (h : Rr w A N p c [] L) :
    Calls Try.prog 29 #[ptr A] w fun e w' => e = .returned (.tuple #[.int .i64 0, .bool false]) ∧ w' = w := by
  obtain ⟨c0, c1, c2⟩ := h.cells
  have c1 : w.cell? ⟨A, 1, none⟩ = some (.slice p 0 c) := c1
  clear h
  unfold ptr
  go_enter Try.func29, Try.ntmps29
  go_wp2
  go_ret2
  exact ⟨rfl, rfl⟩
/-- append of none or more to a slice that has a block of its own. -/
theorem wpList_append_any {P : Program} {w : World} {ops : Array Oper} {rest : List Oper} {o : Oper} {a : Act} {Q : Exit → Act → World → Prop}
    (hg : o.guard = none) (so xo : Operand) (t : TypeId) (hop : o.op = Op.call { callee := Callee.builtin Builtin.append, args := #[so, xo], argTypes := #[t, t] })
    {e : TypeId} {z : Value} {s bytes : Nat} (ht : P.underlying t = some (.slice e)) (hinfo : (P.info? e).map (fun i => (i.zero, i.size, i.bytes)) = some (some z, s, bytes)) (hzs : z.cells.size = s)
    {p : Option Addr} {n c : Nat} {f : Nat → Value} (hs : a.eval so = .slice p n c) (h : Vec w e s p n c f)
    {xp : Option Addr} {m cx : Nat} {g : Nat → Value} (hx : a.eval xo = .slice xp m cx) (hc : 0 < m → ∃ ad, xp = some ad ∧ ∀ j, j < m * s → w.cell? (ad.add j) = some (g j)) (h1 : ∀ j, j < m * s → (g j).oneCell' = true) (hb : (n + m) * bytes ≤ 140737488355328) (h63 : n + m ≤ 9223372036854775807)
    (hK : ∀ p' c' w', Vec w' e s p' (n + m) c' (fun j => if j < n * s then f j else g (j - n * s)) → Out (In p) w w' → (p' = p ∨ p' = some ⟨w.heap.size, 0, none⟩) → wpList P ops Q rest (a.put o.dst (.slice p' (n + m) c')) w') :
    wpList P ops Q (o :: rest) a w := by
  by_cases hm : 0 < m
  · obtain ⟨ad, rfl, hc'⟩ := hc hm
    exact wpList_append_vec hg so xo t hop ht hinfo hzs hs h hx hm hc' h1 hb h63 hK
  · obtain rfl : m = 0 := by omega
    have hnc : n ≤ c := by
      rcases h with ⟨_, h1, h2⟩ | ⟨_, _, _, _, h3, _⟩
      · omega
      · exact h3
    exact wpList_append_nothing hg so xo t hop ht hinfo hs hx hnc (hK p c w (h.congr fun j hj => by rw [if_pos hj]) (Out.refl _ _) (.inl rfl))
theorem rtake_yes (h : Rr w A N p c q L) (hl : 0 < q.length) (hm : q.length ≤ 4096) :
    Calls Try.prog 29 #[ptr A] w fun e w' => ∃ p' c', e = .returned (.tuple #[.int .i64 (q.getD 0 0), .bool true]) ∧ Rr w' A N p' c' q.tail L ∧ Step (rrF A p) (rrF A p') w w' := by
  obtain ⟨c0, c1, c2⟩ := h.cells
  obtain ⟨B, rfl, lB, hB, _, nB⟩ := h.vec.opens hl
  have cB : w.cell? ⟨B, 0, none⟩ = some (.int .i64 (q.getD 0 0)) := hB 0 (by omega)
  obtain ⟨x, hx⟩ : ∃ x, x = q.getD 0 0 := ⟨_, rfl⟩
  rw [← hx] at cB ⊢
  obtain ⟨k, hk⟩ : ∃ k, Hid (k = q.length) := ⟨_, rfl⟩
  obtain ⟨ad, had, HAD⟩ : ∃ ad : Addr, ((if c = 1 then some ⟨B, 0, none⟩ else some ⟨B, 1, none⟩) : Option Addr) = some ad ∧ Hid (1 < k → ad = ⟨B, 1, none⟩) := by
    by_cases e : c = 1
    · exact ⟨_, if_pos e, fun x => by have := hk.out; omega⟩
    · exact ⟨_, if_neg e, fun _ => rfl⟩
  have addB : ∀ (B o j : Nat), (⟨B, o, none⟩ : Addr).add j = ⟨B, o + j, none⟩ := fun B o j => by unfold Addr.add; split <;> simp_all
  have HC : Hid (∀ (w1 : World), Grown w w1 → 0 < k - 1 → ∃ ad', some ad = some ad' ∧ ∀ j, j < (k - 1) * 1 → w1.cell? (ad'.add j) = some (ivL q (1 + j))) := fun w1 g hp => ⟨ad, rfl, fun j hj => by
    rw [HAD.out (by omega), addB]
    obtain ⟨B', hB', _, hc', _⟩ := (h.vec.grown g).opens hl
    cases hB'
    exact hc' (1 + j) (by have := hk.out; omega)⟩
  have HP : Hid (∀ (w2 : World) (p' : Option Addr) (c' : Nat), Vec w2 3 1 p' (0 + (k - 1)) c' (fun j => if j < 0 * 1 then undef else ivL q (1 + (j - 0 * 1))) → Out (In (some ⟨w.heap.size, 0, none⟩)) (w.alloc (.cells #[] 3)) w2 → (p' = some ⟨w.heap.size, 0, none⟩ ∨ p' = some ⟨(w.alloc (.cells #[] 3)).heap.size, 0, none⟩) →
      w2.heap[A]? = w.heap[A]? ∧ Rr (w2.setCell ⟨A, 1, none⟩ (.slice p' (0 + (k - 1)) c')) A N p' c' q.tail L ∧ Step (rrF A (some ⟨B, 0, none⟩)) (rrF A p') w (w2.setCell ⟨A, 1, none⟩ (.slice p' (0 + (k - 1)) c'))) := fun w2 p' c' hv ho hp => by
    have e0 : 0 + (k - 1) = q.tail.length := by rw [List.length_tail, hk.out]; omega
    have hv' : Vec w2 3 1 p' q.tail.length c' (ivL q.tail) := by
      rw [← e0]
      refine hv.congr fun j hj => ?_
      rw [if_neg (by omega)]
      simp [ivL, Nat.add_comm 1]
    have o : Out (fun k => In (some ⟨B, 0, none⟩) k ∨ w.heap.size ≤ k) w w2 := (Out.of_grown ((Grown.refl w).alloc _ _) _).trans ho fun k hk => .inr (by rw [hk.eq]; exact Nat.le_refl _)
    have := h.put o hv' fun k hk => by
      rcases hp with rfl | rfl
      · rw [hk.eq]; exact .inr (Nat.le_refl _)
      · rw [hk.eq, nblk_alloc]; exact .inr (by omega)
    rw [← e0] at this
    refine ⟨o.block A (lt_of h.head) fun x => ?_, this⟩
    rcases x with x | x
    · exact h.self x
    · have := lt_of h.head; omega
  have hA := h.head
  rw [← hk.out] at c1 hl hm hA nB
  have hk0 : ¬ k = 0 := by omega
  have hk0' : (k == 0) = false := by simp; omega
  have hk1 : 1 ≤ k := hl
  have hc1 : 1 ≤ c := by omega
  have hb := lt_of h.head
  have V0 : Vec (w.alloc (.cells #[] 3)) 3 1 (some ⟨w.heap.size, 0, none⟩) 0 0 (fun _ => undef) := Vec.laid w 3 #[] 0 1 (by unfold maxLen; omega) rfl _ (fun j hj => by omega)
  have HV0 : Hid (Vec (w.alloc (.cells #[] 3)) 3 1 (some ⟨w.heap.size, 0, none⟩) 0 0 (fun _ => undef)) := V0
  clear h hx hB V0 addB
  unfold ptr
  go_enter Try.func29, Try.ntmps29
  go_wp2_with (at_builtin; refine wpList_append_any rfl (.tmp 18) (.tmp 23) 32 rfl Try.underlying32 infoN rfl rfl HV0.out rfl (HC.out _ ((Grown.refl _).alloc _ _)) (fun _ _ => rfl) (by omega) (by omega) ?_; intro p' c' w2 hv2 ho2 hp2; obtain ⟨k1, k2, k3⟩ := HP.out w2 p' c' hv2 ho2 hp2; have HK : Hid (Rr _ A N p' c' q.tail L ∧ Step (rrF A (some ⟨B, 0, none⟩)) (rrF A p') w _) := ⟨k2, k3⟩; have hA2 := k1.trans hA; clear hA c0 c1 c2 hv2 ho2 hp2 k1 k2 k3; have c1 := cell_of (k := 1) hA2 rfl; have f1 := fr0 hA2 1; have hb2 := lt_of hA2)
  go_ret2
  have K := HK.out
  rw [Nat.zero_add] at K
  exact ⟨p', c', rfl, K.1, K.2⟩
theorem rdrain_g (h : Rr w A N p c q L) :
    Calls Try.prog 30 #[ptr A] w fun e w' => e = .returned (.slice p q.length c) ∧ Rr w' A N none 0 [] L ∧ Vec w' 3 1 p q.length c (ivL q) ∧ Out (· = A) w w' := by
  obtain ⟨c0, c1, c2⟩ := h.cells
  have f1 := h.free 1
  have H : Hid (Rr w A N p c q L) := h
  have hb := lt_of h.head
  clear h
  unfold ptr
  go_enter Try.func30, Try.ntmps30
  go_wp2
  go_ret
  have o : Out (· = A) w (w.setCell ⟨A, 1, none⟩ (.slice none 0 0)) := (Out.refl (fun x => x = A) w).setCell (a := ⟨A, 1, none⟩) rfl _
  exact ⟨rfl, ⟨blk_set H.out.head 1 _, Vec.nil _ _ _ _, In.no⟩, H.out.vec.out o fun k hk e => H.out.self (by rw [← e]; exact hk), o⟩
end Go.Proofs.Ytbboomhgigaobaa.Rn
