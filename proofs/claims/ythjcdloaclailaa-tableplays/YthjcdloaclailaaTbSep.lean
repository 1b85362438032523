/-
  A table that lies apart from other objects: what its functions do when they are called; Chain. No condition but those told at each sentence.
-/
import Derived.Test.YthjcdloaclailaaTbDel
namespace Go.Proofs.Ythjcdloaclailaa.Tb
open Go.RowKit Go.Deep Us
variable {W w w' : World} {t : Tab} {key : Int} {x : Lk} {e : En} {l : List Ob} {i : Nat} {p : Option Addr} {c : Nat} {q : List Int}

def obT (t : Tab) : Ob := ⟨fun w => Tb w t, t.F, fun _ _ _ h o hd => h.out o hd, fun _ _ h hk => h.lt hk⟩
/-- A call that leaves the world, or draws alone. -/
theorem len_s (h : Apt W w l) (hi : l[i]? = some (obT t)) : Calls Try.prog 18 #[ptr t.X] w fun e w' => e = .returned (.int .i64 (t.D.length : Int)) ∧ w' = w := len_h (h.all i _ hi : Tb w t).mem.head
theorem left_s (h : Apt W w l) (hi : l[i]? = some (obT t)) : Calls Try.prog 21 #[ptr t.X] w fun e w' => e = .returned (.int .i64 (t.l : Int)) ∧ w' = w := left_h (h.all i _ hi : Tb w t).mem.head
theorem buckets_s (h : Apt W w l) (hi : l[i]? = some (obT t)) : Calls Try.prog 20 #[ptr t.X] w fun e w' => e = .returned (.int .i64 (t.n : Int)) ∧ w' = w := buckets_h (h.all i _ hi : Tb w t).mem.head
theorem new_s (s : Int) (h : Apt W w l) : Calls Try.prog 10 #[.int .i64 s] w fun e w' => ∃ t, e = .returned (ptr t.X) ∧ Apt W w' (l ++ [obT t]) ∧ t.s = s ∧ t.n = 8 ∧ t.l = 0 ∧ t.D = [] ∧ t.c = fun _ => [] := by
  refine (new_t s w).mono ?_
  rintro e w' ⟨rfl, h1, g⟩
  refine ⟨_, rfl, h.add g h1 fun k hk => ?_, rfl, rfl, rfl, rfl, rfl⟩
  rcases hk with hk | hk | ⟨y, hy, _⟩
  · rw [hk]; show w.heap.size ≤ w.heap.size + 1; omega
  · rw [hk]; exact Nat.le_refl _
  · cases hy
theorem get_yes_s (h : Apt W w l) (hi : l[i]? = some (obT t)) (hx : x ∈ t.D) (hk : x.2.k = key) : Calls Try.prog 16 #[ptr t.X, .int .i64 key] w fun e w' => e = .returned (.tuple #[x.2.v, .bool true]) ∧ Apt W w' l := by
  refine (get_yes (h.all i _ hi : Tb w t) hx hk).mono ?_
  rintro e w' ⟨rfl, g⟩
  exact ⟨rfl, h.more g⟩
theorem get_no_s (h : Apt W w l) (hi : l[i]? = some (obT t)) (hx : ∀ x ∈ t.D, x.2.k ≠ key) : Calls Try.prog 16 #[ptr t.X, .int .i64 key] w fun e w' => e = .returned (.tuple #[e0.v, .bool false]) ∧ Apt W w' l := by
  refine (get_no (h.all i _ hi : Tb w t) hx).mono ?_
  rintro e w' ⟨rfl, g⟩
  exact ⟨rfl, h.more g⟩
theorem put_yes_s (h : Apt W w l) (hi : l[i]? = some (obT t)) (hx : x ∈ t.D) (hk : x.2.k = e.k) : Calls Try.prog 12 #[ptr t.X, e.v] w fun o w' => ∃ v, o = .returned (.tuple #[x.2.v, .bool true]) ∧ Apt W w' (l.set i (obT ((t.nxt v).rep x.1 e))) := by
  refine (put_yes (h.all i _ hi : Tb w t) hx hk).mono ?_
  rintro o w' ⟨rfl, v, h1, o1⟩
  exact ⟨v, rfl, h.upd hi h1 ⟨o1, fun k hk => .inl (rep_foot hk)⟩⟩
theorem put_no_s (h : Apt W w l) (hi : l[i]? = some (obT t)) (hx : ∀ x ∈ t.D, x.2.k ≠ e.k) (hm : t.D.length ≤ 1000000) : Calls Try.prog 12 #[ptr t.X, e.v] w fun o w' => ∃ t', o = .returned (.tuple #[e0.v, .bool false]) ∧ Apt W w' (l.set i (obT t')) ∧ Came t e t' := by
  refine (put_no (h.all i _ hi : Tb w t) hx hm).mono ?_
  rintro o w' ⟨rfl, t', h1, o1, h2, h3⟩
  exact ⟨t', rfl, h.upd hi h1 ⟨o1, h2⟩, h3⟩
theorem remove_no_s (h : Apt W w l) (hi : l[i]? = some (obT t)) (hx : ∀ x ∈ t.D, x.2.k ≠ key) : Calls Try.prog 14 #[ptr t.X, .int .i64 key] w fun o w' => ∃ v, o = .returned (.tuple #[e0.v, .bool false]) ∧ Apt W w' (l.set i (obT (t.nxt v))) := by
  refine (remove_no (h.all i _ hi : Tb w t) hx).mono ?_
  rintro o w' ⟨rfl, v, h1, o1⟩
  exact ⟨v, rfl, h.upd hi h1 ⟨o1, fun _ hk => .inl hk⟩⟩
theorem remove_yes_s (h : Apt W w l) (hi : l[i]? = some (obT t)) (hx : x ∈ t.D) (hk : x.2.k = key) (hm : t.D.length ≤ 1000000) : Calls Try.prog 14 #[ptr t.X, .int .i64 key] w fun o w' => ∃ v, o = .returned (.tuple #[x.2.v, .bool true]) ∧ Apt W w' (l.set i (obT ((t.nxt v).del key))) := by
  refine (remove_yes (h.all i _ hi : Tb w t) hx hk hm).mono ?_
  rintro o w' ⟨rfl, v, h1, o1⟩
  exact ⟨v, rfl, h.upd hi h1 ⟨o1, fun k hk => .inl (del_foot hk)⟩⟩
theorem chain_le (h : Shape t) {j : Nat} (hj : j < t.n) : (t.c j).length ≤ t.D.length := by
  have := List.Nodup.length_le_of_subset (h.nod j hj) (l₂ := t.D.map (·.1)) fun k hk => by
    obtain ⟨y, hy, rfl⟩ := List.mem_map.1 hk
    exact List.mem_map_of_mem (h.mem j hj y hy).1
  simpa using this
def kz (l : List Lk) : List Int := l.map fun x : Lk => x.2.k
/-- What Chain tells. -/
def Tab.kAt (t : Tab) (b : Int) : List Int := if 0 ≤ b ∧ b < (t.n : Int) ∧ ¬ (t.n / 2 ≤ b.toNat % (t.n / 2) + t.l) then kz (t.c b.toNat) else []
theorem obV_nil (W : World) (h : Apt W w l) : Apt W w (l ++ [obV none 0 []]) :=
  h.add (Grown.refl _) (Vec.nil _ _ _ _) fun _ hk => absurd hk In.no
theorem chain_no (h : Apt W w l) (hi : l[i]? = some (obT t)) (b : Int) (hb : b < 0 ∨ (t.n : Int) ≤ b) : Calls Try.prog 24 #[ptr t.X, .int .i64 b] w fun e w' => e = .returned (.slice none 0 0) ∧ w' = w := by
  obtain ⟨c0, c1, c2, c3⟩ := (h.all i _ hi : Tb w t).mem.head.cells
  have lX := (h.all i _ hi : Tb w t).mem.lt (.inl rfl)
  clear h hi
  unfold ptr
  by_cases e : b < 0
  · have d : decide (b < 0) = true := decide_eq_true e
    go_enter Try.func24, Try.ntmps24
    go_wp2
    go_ret
    exact ⟨rfl, rfl⟩
  · have d : decide (b < 0) = false := decide_eq_false e
    have hb : (t.n : Int) ≤ b := by omega
    have d2 : decide (b ≥ (t.n : Int)) = true := decide_eq_true hb
    have d3 : decide ((t.n : Int) ≤ b) = true := decide_eq_true hb
    go_enter Try.func24, Try.ntmps24
    go_wp2
    go_ret
    exact ⟨rfl, rfl⟩
theorem chain_left (h : Apt W w l) (hi : l[i]? = some (obT t)) (j : Nat) (hj : j < t.n) (hl : t.n / 2 ≤ j % (t.n / 2) + t.l) : Calls Try.prog 24 #[ptr t.X, .int .i64 (j : Int)] w fun e w' => e = .returned (.slice none 0 0) ∧ ∃ d, w' = w.drewN d := by
  have ht : Tb w t := h.all i _ hi
  obtain ⟨c0, c1, c2, c3⟩ := ht.mem.head.cells
  have lX := ht.mem.lt (.inl rfl)
  have hh := half_h ht.mem.head ht.sh.hi
  have il := isLeft_h ht.mem.head ht.sh.le ht.sh.hi (j % (t.n / 2))
  rw [decide_eq_true hl, Int.natCast_emod] at il
  have h8 := ht.sh.lo
  have hN4 : 4 ≤ t.n / 2 := by omega
  have hhi := ht.sh.hi
  clear h hi ht
  generalize t.n / 2 = N at *
  unfold ptr at *
  have hN0 : ((N : Int) == 0) = false := by simp; omega
  have hN1 : N ≠ 0 := by omega
  have d : decide ((j : Int) < 0) = false := decide_eq_false (by omega)
  have d2 : decide ((t.n : Int) ≤ (j : Int)) = false := decide_eq_false (by omega)
  have d3 : decide (t.n ≤ j) = false := decide_eq_false (by omega)
  go_enter Try.func24, Try.ntmps24
  go_wp2_with (first | (go_at_call 39; refine hh.mono ?_; rintro e w' ⟨rfl, hw⟩; have hw := hw.symm; subst hw) | (go_at_call 38; refine il.mono ?_; rintro e w' ⟨rfl, k, rfl⟩))
  go_ret
  exact ⟨rfl, _, rfl⟩
theorem at_mid (l2 : List Ob) (b c : Ob) : (l2 ++ [b] ++ [c])[l2.length]? = some b := by
  rw [List.getElem?_append_left (by simp), List.getElem?_append_right (Nat.le_refl _)]
  simp
theorem at_end (l2 : List Ob) (b : Ob) : (l2 ++ [b])[l2.length]? = some b := by
  rw [List.getElem?_append_right (Nat.le_refl _)]
  simp
theorem set_end (l2 : List Ob) (b c : Ob) : (l2 ++ [b]).set l2.length c = l2 ++ [c] := by
  rw [List.set_append_right _ _ (Nat.le_refl _)]
  simp
set_option maxRecDepth 4000 in
set_option maxHeartbeats 1000000 in
theorem chain_yes (h : Apt W w l) (hi : l[i]? = some (obT t)) (j : Nat) (hj : j < t.n) (hl : ¬ (t.n / 2 ≤ j % (t.n / 2) + t.l)) (hm : t.D.length ≤ 1000000) : Calls Try.prog 24 #[ptr t.X, .int .i64 (j : Int)] w fun e w' => ∃ p c, e = .returned (.slice p (t.c j).length c) ∧ Apt W w' (l ++ [obV p c (kz (t.c j))]) := by
  have ht : Tb w t := h.all i _ hi
  obtain ⟨c0, c1, c2, c3⟩ := ht.mem.head.cells
  have lX := ht.mem.lt (.inl rfl)
  have lB := ht.mem.lt (.inr (.inl rfl))
  have hh := half_h ht.mem.head ht.sh.hi
  have il := isLeft_h ht.mem.head ht.sh.le ht.sh.hi (j % (t.n / 2))
  rw [decide_eq_false hl, Int.natCast_emod] at il
  have h8 := ht.sh.lo
  have hN4 : 4 ≤ t.n / 2 := by omega
  have hhi := ht.sh.hi
  obtain ⟨cB, _, _⟩ := ht.mem.cell (.inl ⟨j, hj, rfl⟩ : At t.B t.n t.D ⟨t.B, j, none⟩)
  have hlk := ht.sh.link j hj
  rw [linked_first hlk] at cB
  obtain ⟨μ, hμ⟩ := rank_nx (t.c j) (ht.sh.nod j hj)
  have hμ : Hid (∀ a r, t.c j = a ++ r → μ (nx r) = r.length) := hμ
  have hn : (t.c j).length ≤ 1000000 := by
    have : (t.c j).length ≤ t.D.length := chain_le ht.sh hj
    omega
  have hn : Hid ((t.c j).length ≤ 1000000) := hn
  have hs : Hid (Shape t) := ht.sh
  have hjj : Hid (j < t.n) := hj
  have hi : Hid (l[i]? = some (obT t)) := hi
  have h0 : Hid (Apt W w l) := h
  have hlt : Hid (i < l.length) := (List.getElem?_eq_some_iff.1 hi.out).1
  clear h ht hlk hm
  generalize t.n / 2 = N at *
  unfold ptr at *
  have hN0 : ((N : Int) == 0) = false := by simp; omega
  have hN1 : N ≠ 0 := by omega
  have d : decide ((j : Int) < 0) = false := decide_eq_false (by omega)
  have d2 : decide ((t.n : Int) ≤ (j : Int)) = false := decide_eq_false (by omega)
  have d3 : decide (t.n ≤ j) = false := decide_eq_false (by omega)
  have jn : (j : Int) < (t.n : Int) := by omega
  go_enter Try.func24, Try.ntmps24
  go_wp2_with (first | (go_at_call 39; refine hh.mono ?_; rintro e w' ⟨rfl, hw⟩; have hw := hw.symm; subst hw) | (go_at_call 38; refine il.mono ?_; rintro e w' ⟨rfl, k, rfl⟩))
  clear hh il
  go_loopw [5, 6] (fun kv lv wr => ∃ (a r : List Lk) (m c : Nat) (p : Option Addr), Hid (t.c j = a ++ r) ∧ Hid (m = a.length) ∧ kv = .slice p m c ∧ Apt W wr (l ++ [obV p c (kz a)]) ∧ lv = nx r) (fun _ lv _ => μ lv)
  case atStart => exact ⟨[], t.c j, 0, 0, none, rfl, rfl, rfl, (obV_nil _ h0.out).drewN _, rfl⟩
  case round =>
    clear c0 c1 c2 c3 cB lX lB h0
    obtain ⟨a, r, m, c, p, hca, hma, rfl, hx, rfl⟩ := hrel
    cases r with
    | nil =>
      have hnil : nx [] = .pointer none := rfl
      rw [hnil]
      have ha : Hid (t.c j = a) := by show _ = _; rw [hca.out]; simp
      have hx : Hid (Apt W wr (l ++ [obV p c (kz a)])) := hx
      clear hnil
      go_wp2
      go_ret
      exact ⟨p, c, by rw [ha.out, ← hma.out]; rfl, by rw [ha.out]; exact hx.out⟩
    | cons x r =>
      have hcons : nx (x :: r) = .pointer (some ⟨x.1, 0, none⟩) := rfl
      have hme : Hid (μ (nx r) < μ (nx (x :: r))) := by
        show _ < _
        rw [hμ.out (a ++ [x]) r (by rw [hca.out]; simp), hμ.out a (x :: r) hca.out]
        simp
      rw [hcons] at hme ⊢
      have ht : ∀ (W' : World) (b : Ob), Apt W W' (l ++ [b]) → Tb W' t := fun W' b h => h.all i _ (by rw [List.getElem?_append_left hlt.out]; exact hi.out)
      have hxD : Hid (x ∈ t.D) := (hs.out.mem j hjj.out x (by rw [hca.out]; simp)).1
      have hk := (ht _ _ hx).mem.lnk x hxD.out
      have k0 : wr.cell? ⟨x.1, 0, none⟩ = some (.int .i64 x.2.k) := cell_of hk rfl
      have lx := lt_of hk
      have hv : Hid (t.val ⟨x.1, 4, none⟩ = nx r) := by
        have q := hs.out.link j hjj.out
        rw [hca.out, linked_app] at q
        exact linked_first q.2.2
      have ht : Hid (∀ (W' : World) (b : Ob), Apt W W' (l ++ [b]) → Tb W' t) := ht
      have hm3 : m ≤ 1000000 := by
        have := hn.out
        rw [hca.out] at this
        simp at this
        rw [hma.out]; omega
      have hx : Hid (Apt W wr (l ++ [obV p c (kz a)])) := hx
      have HM : Hid (m = (kz a).length) := by show _ = _; rw [hma.out]; simp [kz]
      clear hk hcons
      go_wp2_with (at_builtin; refine wpList_append_vec rfl (.tmp 39) (.tmp 45) 39 rfl Try.underlying39 infoN rfl rfl (f := ivL (kz a)) (by rw [HM.out]; exact (hx.out.all _ _ (at_end _ _)).grown ((Grown.refl _).alloc _ _)) rfl (by decide) (new_int _ _ _) (fun _ _ => rfl) (by omega) (by omega) ?_; intro p' c' w3 hv3 ho3 hp3; have h3 : Hid (Apt W w3 (l ++ [obV p' c' (kz a ++ [x.2.k])])) := (by have := appended_s hx.out (at_end _ _) (by rw [← HM.out]; exact hv3) ho3 hp3; rw [set_end] at this; exact this); clear hv3 ho3 hp3 hx; have hk3 := (ht.out _ _ h3.out).mem.lnk x hxD.out; rw [hv.out] at hk3; have k4 : w3.cell? ⟨x.1, 4, none⟩ = some (nx r) := cell_of hk3 rfl; have lx3 := lt_of hk3)
      go_roundw
      case rel => exact ⟨a ++ [x], r, m + 1, c', p', by show _ = _; rw [hca.out]; simp, by show _ = _; rw [hma.out]; simp, rfl, by rw [show kz (a ++ [x]) = kz a ++ [x.2.k] by simp [kz]]; exact h3.out, rfl⟩
      case measure => exact hme.out
theorem chain_s (h : Apt W w l) (hi : l[i]? = some (obT t)) (hm : t.D.length ≤ 1000000) (b : Int) : Calls Try.prog 24 #[ptr t.X, .int .i64 b] w fun e w' => ∃ p c, e = .returned (.slice p (t.kAt b).length c) ∧ Apt W w' (l ++ [obV p c (t.kAt b)]) := by
  by_cases e1 : 0 ≤ b ∧ b < (t.n : Int)
  · obtain ⟨j, rfl⟩ : ∃ j : Nat, b = j := ⟨b.toNat, by omega⟩
    have hj : j < t.n := by omega
    by_cases e2 : t.n / 2 ≤ j % (t.n / 2) + t.l
    · have hk : t.kAt j = [] := by unfold Tab.kAt; rw [if_neg (fun q => q.2.2 e2)]
      rw [hk]
      refine (chain_left h hi j hj e2).mono ?_
      rintro e w' ⟨rfl, d, rfl⟩
      exact ⟨none, 0, rfl, (obV_nil _ h).drewN d⟩
    · have hk : t.kAt j = kz (t.c j) := by unfold Tab.kAt; rw [if_pos ⟨e1.1, e1.2, e2⟩]; rfl
      rw [hk]
      refine (chain_yes h hi j hj e2 hm).mono ?_
      rintro e w' ⟨p, c, rfl, h2⟩
      exact ⟨p, c, by simp [kz], h2⟩
  · have hk : t.kAt b = [] := by unfold Tab.kAt; rw [if_neg (fun q => e1 ⟨q.1, q.2.1⟩)]
    rw [hk]
    refine (chain_no h hi b (by omega)).mono ?_
    rintro e w' ⟨rfl, rfl⟩
    exact ⟨none, 0, rfl, obV_nil _ h⟩
end Go.Proofs.Ythjcdloaclailaa.Tb
