/-
  Rings, the document's rings and slices of numbers that lie apart from one another: what calls make of them. Conditions: numbers of the lost up to a million.
-/
import Derived.Test.YtbboomhgigaobaaRgDrain
import Derived.Test.YtbboomhgigaobaaRgRef
import Derived.Test.YtbboomhgigaobaaGenSep
namespace Go.Proofs.Ytbboomhgigaobaa.Rn
open Go.RowKit Go.Deep

def obR (b N : Nat) (q : List Int) (L : Int) : Ob := ⟨fun w => ∃ f, Rg w b N f q L, rgF b, fun _ _ _ ⟨f, h⟩ o hd => ⟨f, h.out o hd⟩, fun _ _ ⟨_, h⟩ hk => h.foot_lt hk⟩
def obD (A N : Nat) (p : Option Addr) (c : Nat) (q : List Int) (L : Int) : Ob := ⟨fun w => Rr w A N p c q L, rrF A p, fun _ _ _ h o hd => h.out o hd, fun _ _ h hk => h.foot_lt hk⟩
def obV (p : Option Addr) (c : Nat) (q : List Int) : Ob := obVec 3 1 p q.length c (ivL q)
def offQ (N : Nat) (q : List Int) (n : Int) : List Int := if q.length < N then q ++ [n] else q
def offL (N : Nat) (q : List Int) (L : Int) : Int := if q.length < N then L else L + 1
variable {W w w' : World} {l : List Ob} {i j b A N c d : Nat} {p r : Option Addr} {q : List Int} {L : Int}

theorem new_s (h : Apt W w l) (n : Int) (hN : 1 ≤ N) (hm : N ≤ 4096) (e : ceilI n 1 4096 = (N : Int)) :
    Calls Try.prog 26 #[.int .i64 n] w fun e w' => ∃ b, e = .returned (ptr (b + 1)) ∧ Apt W w' (l ++ [obR b N [] 0]) := by
  refine (new_g n w hN hm e).mono ?_
  rintro e w' ⟨rfl, h1, g⟩
  exact ⟨_, rfl, h.add g ⟨_, h1⟩ fun k hk => by rcases hk with rfl | rfl <;> omega⟩
theorem room (h : Apt W w l) (hi : l[i]? = some (obR b N q L)) : q.length ≤ N ∧ N ≤ 4096 ∧ 0 < N := by
  obtain ⟨f, k⟩ := h.all i _ hi
  have := k.lt
  exact ⟨k.le, k.most, by omega⟩
theorem offer_s (h : Apt W w l) (hi : l[i]? = some (obR b N q L)) (n : Int) (hL : 0 ≤ L ∧ L ≤ 1000000) :
    Calls Try.prog 63 #[ptr (b + 1), .int .i64 n] w fun e w' => e = .returned (.bool (decide (q.length < N))) ∧ Apt W w' (l.set i (obR b N (offQ N q n) (offL N q L))) := by
  obtain ⟨f, k⟩ := h.all i _ hi
  unfold offQ offL
  by_cases hl : q.length < N
  · rw [if_pos hl, if_pos hl, decide_eq_true hl]
    refine (offer_yes k hl n).mono ?_
    rintro e w' ⟨rfl, h1, o⟩
    exact ⟨rfl, h.upd hi ⟨f, h1⟩ ⟨o, fun _ => .inl⟩⟩
  · rw [if_neg hl, if_neg hl, decide_eq_false hl]
    refine (offer_no k (by have := k.le; omega) n hL).mono ?_
    rintro e w' ⟨rfl, h1, o⟩
    exact ⟨rfl, h.upd hi ⟨f, h1⟩ ⟨o, fun _ => .inl⟩⟩
theorem take_s (h : Apt W w l) (hi : l[i]? = some (obR b N q L)) :
    Calls Try.prog 64 #[ptr (b + 1)] w fun e w' => e = .returned (.tuple #[.int .i64 (q.getD 0 0), .bool (decide (0 < q.length))]) ∧ Apt W w' (l.set i (obR b N q.tail L)) := by
  obtain ⟨f, k⟩ := h.all i _ hi
  by_cases hl : 0 < q.length
  · rw [decide_eq_true hl]
    refine (take_yes k hl).mono ?_
    rintro e w' ⟨rfl, h1, o⟩
    exact ⟨rfl, h.upd hi ⟨_, h1⟩ ⟨o, fun _ => .inl⟩⟩
  · obtain rfl : q = [] := List.eq_nil_of_length_eq_zero (by omega)
    refine (take_no k).mono ?_
    rintro e w' ⟨rfl, rfl⟩
    exact ⟨rfl, h.upd hi ⟨_, k⟩ (Step.grown _ (Grown.refl _))⟩
theorem drain_s (h : Apt W w l) (hi : l[i]? = some (obR b N q L)) :
    Calls Try.prog 60 #[ptr (b + 1)] w fun e w' => ∃ p c, e = .returned (.slice p q.length c) ∧ Apt W w' (l.set i (obR b N [] L) ++ [obV p c q]) := by
  obtain ⟨f, k⟩ := h.all i _ hi
  refine (drain_g k).mono ?_
  rintro e w' ⟨rfl, h1, h2, o⟩
  refine ⟨_, _, rfl, h.both hi ⟨_, h2⟩ h1 ⟨o, fun _ => .inl⟩ (fun x hx => .inr (by rw [hx.eq]; exact Nat.le_refl _)) fun x hx hx' => ?_⟩
  have := hx'.eq
  have := k.foot_lt hx
  omega
theorem len_s (h : Apt W w l) (hi : l[i]? = some (obR b N q L)) : Calls Try.prog 61 #[ptr (b + 1)] w fun e w' => e = .returned (.int .i64 (q.length : Int)) ∧ w' = w := by
  obtain ⟨f, k⟩ := h.all i _ hi
  exact len_g k
theorem lost_s (h : Apt W w l) (hi : l[i]? = some (obR b N q L)) : Calls Try.prog 62 #[ptr (b + 1)] w fun e w' => e = .returned (.int .i64 L) ∧ w' = w := by
  obtain ⟨f, k⟩ := h.all i _ hi
  exact lost_g k
theorem rnew_s (h : Apt W w l) (n : Int) (e : ceilI n 1 4096 = (N : Int)) :
    Calls Try.prog 28 #[.int .i64 n] w fun e w' => ∃ A, e = .returned (ptr A) ∧ Apt W w' (l ++ [obD A N none 0 [] 0]) := by
  refine (rnew_g n w e).mono ?_
  rintro e w' ⟨rfl, h1, g⟩
  exact ⟨_, rfl, h.add g h1 fun k hk => by
    rcases hk with rfl | hk
    · exact Nat.le_refl _
    · exact absurd hk In.no⟩
theorem roffer_s (h : Apt W w l) (hi : l[i]? = some (obD A N p c q L)) (n : Int) (hm : N ≤ 4096) (hq : q.length ≤ N) (hL : 0 ≤ L ∧ L ≤ 1000000) :
    Calls Try.prog 31 #[ptr A, .int .i64 n] w fun e w' => ∃ p' c', e = .returned (.bool (decide (q.length < N))) ∧ Apt W w' (l.set i (obD A N p' c' (offQ N q n) (offL N q L))) := by
  have k := h.all i _ hi
  unfold offQ offL
  by_cases hl : q.length < N
  · rw [if_pos hl, if_pos hl, decide_eq_true hl]
    refine (roffer_yes k hl n hm).mono ?_
    rintro e w' ⟨p', c', rfl, h1, o⟩
    exact ⟨p', c', rfl, h.upd hi h1 o⟩
  · rw [if_neg hl, if_neg hl, decide_eq_false hl]
    refine (roffer_no k (by omega) n hL).mono ?_
    rintro e w' ⟨rfl, h1, o⟩
    exact ⟨p, c, rfl, h.upd hi h1 ⟨o, fun _ => .inl⟩⟩
theorem rtake_s (h : Apt W w l) (hi : l[i]? = some (obD A N p c q L)) (hm : q.length ≤ 4096) :
    Calls Try.prog 29 #[ptr A] w fun e w' => ∃ p' c', e = .returned (.tuple #[.int .i64 (q.getD 0 0), .bool (decide (0 < q.length))]) ∧ Apt W w' (l.set i (obD A N p' c' q.tail L)) := by
  have k := h.all i _ hi
  by_cases hl : 0 < q.length
  · rw [decide_eq_true hl]
    refine (rtake_yes k hl hm).mono ?_
    rintro e w' ⟨p', c', rfl, h1, o⟩
    exact ⟨p', c', rfl, h.upd hi h1 o⟩
  · obtain rfl : q = [] := List.eq_nil_of_length_eq_zero (by omega)
    refine (rtake_no k).mono ?_
    rintro e w' ⟨rfl, rfl⟩
    exact ⟨p, c, rfl, h.upd hi (o' := obD A N p c [] L) k (Step.grown _ (Grown.refl _))⟩
theorem rdrain_s (h : Apt W w l) (hi : l[i]? = some (obD A N p c q L)) :
    Calls Try.prog 30 #[ptr A] w fun e w' => e = .returned (.slice p q.length c) ∧ Apt W w' (l.set i (obD A N none 0 [] L) ++ [obV p c q]) := by
  have k := h.all i _ hi
  refine (rdrain_g k).mono ?_
  rintro e w' ⟨rfl, h1, h2, o⟩
  refine ⟨rfl, h.both hi h1 h2 ⟨o.wide fun x _ hx => .inl hx, fun x hx => ?_⟩ (fun x hx => .inl (.inr hx)) fun x hx hx' => ?_⟩
  · rcases hx with hx | hx
    · exact .inl (.inl hx)
    · exact absurd hx In.no
  · rcases hx with rfl | hx
    · exact k.self hx'
    · exact absurd hx In.no

/-- Two slices that hold the same numbers. -/
theorem ints_g {w : World} {p r : Option Addr} {n c d : Nat} {q : List Int} (hp : Vec w 3 1 p n c (ivL q)) (hq : Vec w 3 1 r n d (ivL q)) (hn : n ≤ 1000000) :
    Calls Try.prog 12 #[.slice p n c, .slice r n d] w fun e w' => e = .returned (.bool true) ∧ ∃ m, w' = w.drewN m := by
  have hx : ((n : Int) != (n : Int)) = false := by simp
  go_enter Try.func12, Try.ntmps12
  go_wp2
  go_loopw [5] (fun i wr => ∃ k d : Nat, k ≤ n ∧ i = .int .i64 k ∧ wr = w.drewN d) (fun i _ => n - (intOf i).toNat)
  case atStart => exact ⟨0, 0, by omega, rfl, rfl⟩
  case round =>
    obtain ⟨k, m, hk, rfl, rfl⟩ := hrel
    by_cases hlt : k < n
    · obtain ⟨A, rfl, lA, hA, _, nA⟩ := hp.opens (by omega)
      obtain ⟨B, rfl, lB, hB, _, nB⟩ := hq.opens (by omega)
      have c1 : w.cell? ⟨A, k, none⟩ = some (.int .i64 (q.getD k 0)) := hA k (by omega)
      have c2 : w.cell? ⟨B, k, none⟩ = some (.int .i64 (q.getD k 0)) := hB k (by omega)
      obtain ⟨z, hz⟩ : ∃ z, z = q.getD k 0 := ⟨_, rfl⟩
      rw [← hz] at c1 c2
      have hd : decide ((k : Int) < (n : Int)) = true := by rw [decide_eq_true_eq]; omega
      have hzz : (z != z) = false := by simp
      clear hp hq hA hB hz
      go_wp2
      go_quiet (fail)
      go_wp2
      go_roundw
      case rel => exact ⟨k + 1, _, by omega, by go_num, rfl⟩
      case measure => simp [intOf]; omega
    · obtain rfl : k = n := by omega
      have hd : decide ((k : Int) < (k : Int)) = false := by rw [decide_eq_false_iff_not]; omega
      go_wp2
      go_ret
      exact ⟨rfl, _, rfl⟩
theorem ints_s (h : Apt W w l) (hi : l[i]? = some (obV p c q)) (hj : l[j]? = some (obV r d q)) (hn : q.length ≤ 1000000) :
    Calls Try.prog 12 #[.slice p q.length c, .slice r q.length d] w fun e w' => e = .returned (.bool true) ∧ Apt W w' l := by
  refine (ints_g (h.all i _ hi) (h.all j _ hj) hn).mono ?_
  rintro e w' ⟨rfl, m, rfl⟩
  exact ⟨rfl, h.drewN m⟩
/-- What a slice brings to append. -/
theorem src_s (h : Apt W w l) (hi : l[i]? = some (obV p c q)) {n : Nat} (hn : n = q.length) (hp : 0 < n) : ∃ ad, p = some ad ∧ ∀ j, j < n * 1 → w.cell? (ad.add j) = some (ivL q j) := by
  have hv : Vec w 3 1 p q.length c (ivL q) := h.all i _ hi
  obtain ⟨B, rfl, lB, cB, _, _⟩ := hv.opens (by omega)
  refine ⟨_, rfl, fun j hj => ?_⟩
  have e : (⟨B, 0, none⟩ : Addr).add j = ⟨B, j, none⟩ := by unfold Addr.add; split <;> simp_all
  rw [e]
  exact cB j (by omega)
/-- append of one number. -/
theorem appended_s {x : Int} {tmp : Array Value} {y : TypeId} {p' : Option Addr} {c' : Nat} {w2 : World} (h : Apt W w l) (hi : l[i]? = some (obV p c q)) (hv : Vec w2 3 1 p' (q.length + 1) c' (fun j => if j < q.length * 1 then ivL q j else .int .i64 x)) (o : Out (In p) (w.alloc (.cells tmp y)) w2)
    (hp : p' = p ∨ p' = some ⟨(w.alloc (.cells tmp y)).heap.size, 0, none⟩) : Apt W w2 (l.set i (obV p' c' (q ++ [x]))) := by
  have g : Grown w (w.alloc (.cells tmp y)) := (Grown.refl w).alloc _ _
  have hv' : Vec w2 3 1 p' (q ++ [x]).length c' (ivL (q ++ [x])) := by
    rw [List.length_append]
    exact hv.congr (ivL_push q x)
  refine h.upd hi hv' ⟨Out.after g o, fun k hk => ?_⟩
  rcases hp with rfl | rfl
  · exact .inl hk
  · have hk : In (some ⟨(w.alloc (.cells tmp y)).heap.size, 0, none⟩) k := hk
    rw [hk.eq, nblk_alloc]; exact .inr (by omega)
/-- append of a whole slice. -/
theorem joined_s {z : List Int} {p' : Option Addr} {c' : Nat} {w2 : World} (h : Apt W w l) (hi : l[i]? = some (obV p c q)) (hv : Vec w2 3 1 p' (q.length + z.length) c' (fun j => if j < q.length * 1 then ivL q j else ivL z (j - q.length * 1))) (o : Out (In p) w w2)
    (hp : p' = p ∨ p' = some ⟨w.heap.size, 0, none⟩) : Apt W w2 (l.set i (obV p' c' (q ++ z))) := by
  have hv' : Vec w2 3 1 p' (q ++ z).length c' (ivL (q ++ z)) := by
    rw [List.length_append]
    refine hv.congr fun j hj => ?_
    by_cases e : j < q.length
    · rw [if_pos (by omega)]; simp [ivL, List.getElem?_append_left e]
    · rw [if_neg (by omega)]; simp [ivL, List.getElem?_append_right (Nat.le_of_not_lt e)]
  refine h.upd hi hv' ⟨o, fun k hk => ?_⟩
  rcases hp with rfl | rfl
  · exact .inl hk
  · have hk : In (some ⟨w.heap.size, 0, none⟩) k := hk
    rw [hk.eq]; exact .inr (Nat.le_refl _)
/-- A slice of one number, and one that was written out. -/
theorem ints_new {x : Int} (h : Apt W w l) (hi : l[i]? = some (obV p c [x])) :
    Calls Try.prog 12 #[.slice p 1 c, .slice (some ⟨w.heap.size, 0, none⟩) 1 1] (w.alloc (.cells #[.int .i64 x] 3)) fun e w' => e = .returned (.bool true) ∧ Apt W w' l := by
  have g : Grown w (w.alloc (.cells #[.int .i64 x] 3)) := (Grown.refl _).alloc _ _
  have v : Vec (w.alloc (.cells #[.int .i64 x] 3)) 3 1 (some ⟨w.heap.size, 0, none⟩) 1 1 (ivL [x]) := Vec.laid w 3 #[.int .i64 x] 1 1 (by decide) rfl (ivL [x]) fun j hj => by
    obtain rfl : j = 0 := by omega
    rfl
  have h1 : Apt W _ (l ++ [obV (some ⟨w.heap.size, 0, none⟩) 1 [x]]) := h.add g v fun k hk => by
    have hk : In (some ⟨w.heap.size, 0, none⟩) k := hk
    rw [hk.eq]; exact Nat.le_refl _
  have hil : i < l.length := (List.getElem?_eq_some_iff.1 hi).1
  refine (ints_s h1 (p := p) (c := c) (q := [x]) (i := i) (j := l.length) (by rw [List.getElem?_append_left hil]; exact hi) (by simp) (by simp)).mono ?_
  rintro e w' ⟨rfl, h2⟩
  exact ⟨rfl, h2.front⟩
def lenV : Value → Nat
  | .slice _ n _ => n
  | _ => 0
/-- The first k numbers. -/
def upto (k : Nat) : List Int := (List.range k).map fun i : Nat => (i : Int)
theorem upto_len (k : Nat) : (upto k).length = k := by simp [upto]
theorem upto_succ (k : Nat) : upto (k + 1) = upto k ++ [(k : Int)] := by simp [upto, List.range_succ]
theorem upto_get {k i : Nat} (h : i < k) : (upto k).getD i 0 = (i : Int) := by simp [upto, List.getD_eq_getElem?_getD, h]
/-- Its size is a power of two, the least that is as many. -/
theorem size_all (n : Int) : ∃ N : Nat, 1 ≤ N ∧ N ≤ 4096 ∧ ceilI n 1 4096 = (N : Int) ∧ (bits .and .i64 (N : Int) ((N : Int) - 1) == 0) = true ∧ (n ≤ (N : Int) ∨ N = 4096) ∧ (N = 1 ∨ (N : Int) / 2 < n) := by
  obtain ⟨h1, h2, h3, h4, h5⟩ := Up.props 62 1 (Up.start (n := n) (l := 1) (m := 4096) (by decide) (by decide) (by decide) (by decide))
  obtain ⟨c, hc⟩ : ∃ c, c = ceilI n 1 4096 := ⟨_, rfl⟩
  rw [← hc] at h1 h2 h3 h4 h5 ⊢
  have e : ((c.toNat : Nat) : Int) = c := by omega
  refine ⟨c.toNat, by omega, by omega, e.symm, ?_, by omega, by omega⟩
  rw [e, isP_bits c (by omega) (by omega)]
  exact h1
end Go.Proofs.Ytbboomhgigaobaa.Rn
