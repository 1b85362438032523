/-
  What All, Len and Chain of package pantryref15 do when they are called. No condition but those told at each sentence.
-/
import Derived.Test.YthjcdloaclailaaRtIns
namespace Go.Proofs.Ythjcdloaclailaa.Tb
open Go.RowKit Go.Deep Us
variable {W w w' : World} {key : Int} {e r : En} {J X n : Nat} {q : List En} {l : List Ob} {i c : Nat} {p : Option Addr} {u : Rt}

def Rp.rowsB (A : Rp) (j : Nat) : List En := (List.range j).flatMap fun i => A.L (false, i)
def Rp.rowsO (A : Rp) (j : Nat) : List En := (List.range j).flatMap fun i => if A.m ≤ i then A.L (true, i) else []
def Rp.rows (A : Rp) : List En := A.rowsB A.n ++ A.rowsO A.k
theorem rowsB_succ (A : Rp) (j : Nat) : A.rowsB (j + 1) = A.rowsB j ++ A.L (false, j) := by
  unfold Rp.rowsB
  rw [List.range_succ, List.flatMap_append]
  simp
theorem rowsO_succ (A : Rp) (j : Nat) : A.rowsO (j + 1) = A.rowsO j ++ if A.m ≤ j then A.L (true, j) else [] := by
  unfold Rp.rowsO
  rw [List.range_succ, List.flatMap_append]
  simp
theorem rowsO_m (A : Rp) : A.rowsO A.m = [] := by
  unfold Rp.rowsO
  rw [List.flatMap_eq_nil_iff]
  intro x hx
  rw [List.mem_range] at hx
  rw [if_neg (by omega)]
theorem rowsB_le (A : Rp) {j k : Nat} (h : j ≤ k) : (A.rowsB j).length ≤ (A.rowsB k).length := by
  induction h with
  | refl => exact Nat.le_refl _
  | step _ ih => rw [rowsB_succ, List.length_append]; omega
theorem rowsO_le (A : Rp) {j k : Nat} (h : j ≤ k) : (A.rowsO j).length ≤ (A.rowsO k).length := by
  induction h with
  | refl => exact Nat.le_refl _
  | step _ ih => rw [rowsO_succ, List.length_append]; omega
theorem perm_in {q q2 a : List En} {k : Nat} (e : En) (h : q.Perm a) (h2 : q2 = ins k e q) : q2.Perm (a ++ [e]) := by
  subst h2
  exact (ins_perm k e q).trans ((List.Perm.cons e h).trans (by rw [← List.singleton_append]; exact List.perm_append_comm))
set_option maxRecDepth 8000 in
set_option maxHeartbeats 4000000 in
theorem rall_s (h : Apt W w l) (hi' : l[i]? = some (obR u)) (hX : u.X = X) (hn : u.h = none) (hm : u.A.rows.length ≤ 1000000) : Calls Try.prog 28 #[.pointer (some ⟨X, 0, none⟩)] w fun e w' => ∃ p c q, e = .returned (.slice p q.length c) ∧ Hid (Apt W w' (l ++ [obE p c q])) ∧ Hid (q.Perm u.A.rows) ∧ Hid (q.Pairwise fun a b => a.k ≤ b.k) := by
  have HT : Hid (∀ W' o, Apt W W' (l ++ [o]) → RM W' u) := fun W' o h => h.all i _ (by rw [List.getElem?_append_left (List.getElem?_eq_some_iff.1 hi').1]; exact hi')
  have h0 : Hid (Apt W w (l ++ [obE none 0 []])) := h.add (Grown.refl _) (Vec.nil _ _ _ _) fun _ hk => absurd hk In.no
  have hwk : Hid (8 ≤ u.A.n ∧ u.A.n ≤ 131072 ∧ u.A.m ≤ u.A.k ∧ u.A.k ≤ u.A.n) := (h.all i _ hi' : RM w u).wk
  change Hid (u.h = none) at hn
  change Hid (u.X = X) at hX
  obtain ⟨n, hn1⟩ : ∃ n, Hid (u.A.n = n) := ⟨_, rfl⟩
  obtain ⟨K, hk1⟩ : ∃ n, Hid (u.A.k = n) := ⟨_, rfl⟩
  obtain ⟨m, hm1⟩ : ∃ n, Hid (u.A.m = n) := ⟨_, rfl⟩
  have hn2 : n ≤ 131072 := by rw [← hn1.out]; exact hwk.out.2.1
  have hK2 : K ≤ 131072 := by rw [← hk1.out]; exact Nat.le_trans hwk.out.2.2.2 hwk.out.2.1
  have hmK : m ≤ K := by rw [← hk1.out, ← hm1.out]; exact hwk.out.2.2.1
  have cells : Hid (∀ W', RM W' u → W'.cell? ⟨X, 0, none⟩ = some (.slice (some ⟨u.P, 0, none⟩) n n) ∧ W'.cell? ⟨X, 1, none⟩ = some (.slice u.oP K K) ∧ W'.cell? ⟨X, 2, none⟩ = some (.int .i64 (m : Int)) ∧ X < W'.heap.size) := fun W' h => by
    obtain ⟨a, b, c, _⟩ := h.cells
    have e := lt_of h.head
    rw [hX.out] at a b c e
    rw [hn1.out] at a
    rw [hk1.out] at b
    rw [hm1.out] at c
    exact ⟨a, b, c, e⟩
  have hmB : Hid (∀ b k, b < n → (u.A.rowsB b ++ (u.A.L (false, b)).take k).length ≤ 1000000) := fun b k hb => by
    have h1 := rowsB_le u.A (show b + 1 ≤ u.A.n by rw [hn1.out]; exact hb)
    unfold Rp.rows at hm
    rw [rowsB_succ, List.length_append] at h1
    rw [List.length_append] at hm
    rw [List.length_append, List.length_take]
    omega
  have hmO : Hid (∀ b k, m ≤ b → b < K → (u.A.rowsB n ++ (u.A.rowsO b ++ (u.A.L (true, b)).take k)).length ≤ 1000000) := fun b k hb hb' => by
    have h1 := rowsO_le u.A (show b + 1 ≤ u.A.k by rw [hk1.out]; exact hb')
    unfold Rp.rows at hm
    rw [rowsO_succ, List.length_append, if_pos (by rw [hm1.out]; exact hb)] at h1
    rw [List.length_append, hn1.out] at hm
    rw [List.length_append, List.length_append, List.length_take]
    omega
  have hLB : Hid (∀ b, b < n → (u.A.L (false, b)).length ≤ 1000000) := fun b hb => by
    have := hmB.out b (u.A.L (false, b)).length hb
    rw [List.length_append, List.length_take] at this
    omega
  have hLO : Hid (∀ b, m ≤ b → b < K → (u.A.L (true, b)).length ≤ 1000000) := fun b hb hb' => by
    have := hmO.out b (u.A.L (true, b)).length hb hb'
    rw [List.length_append, List.length_append, List.length_take] at this
    omega
  clear h hi' hm
  go_enter Try.func28, Try.ntmps28
  go_wp2
  go_loopw [3, 4, 5] (fun ov bv _ wr => ∃ (b : Nat) (p : Option Addr) (c : Nat) (q : List En), b ≤ n ∧ bv = .int .i64 (b : Int) ∧ ov = .slice p q.length c ∧ Hid (q.Perm (u.A.rowsB b)) ∧ Hid (q.Pairwise fun a b => a.k ≤ b.k) ∧ Hid (Apt W wr (l ++ [obE p c q]))) (fun _ bv _ _ => n - (intOf bv).toNat)
  case atStart => exact ⟨0, none, 0, [], Nat.zero_le _, rfl, rfl, List.Perm.refl _, List.Pairwise.nil, h0⟩
  case round =>
    clear h0
    obtain ⟨b, p, c, q, hb, rfl, rfl, hp, hs, hx⟩ := hrel
    obtain ⟨cA, cB, cC, lX⟩ := cells.out _ (HT.out _ _ hx.out)
    by_cases hbn : b < n
    · have hd3 : decide ((b : Int) < (n : Int)) = true := by rw [decide_eq_true_eq]; omega
      have hbI : (b : Int) < (n : Int) := by omega
      have hbl : Hid (u.A.live (false, b)) := by show b < u.A.n; rw [hn1.out]; exact hbn
      clear cB cC
      obtain ⟨N, hN⟩ : ∃ N, Hid ((u.A.L (false, b)).length = N) := ⟨_, rfl⟩
      have hN2 : N ≤ 1000000 := by rw [← hN.out]; exact hLB.out b hbn
      obtain ⟨rp, hrp⟩ : ∃ rp, Hid ((u.r (false, b)).1 = rp) := ⟨_, rfl⟩
      obtain ⟨rc, hrc⟩ : ∃ rc, Hid ((u.r (false, b)).2 = rc) := ⟨_, rfl⟩
      have rowOf : Hid (∀ W', RM W' u → W'.cell? ⟨u.P, b, none⟩ = some (.slice rp N rc) ∧ u.P < W'.heap.size ∧ Vec W' 30 4 rp N rc (enL (u.A.L (false, b)))) := fun W' h => by
        obtain ⟨a1, a2, _⟩ := h.cell hbl.out
        have a3 := h.inn _ ⟨hbl.out, by rw [hn.out]; exact fun x => by cases x⟩
        unfold Rt.sl at a1
        rw [hN.out, hrp.out, hrc.out] at a1 a3
        exact ⟨a1, a2, a3⟩
      have hp0 : Hid (q.Perm (u.A.rowsB b ++ (u.A.L (false, b)).take 0)) := by
        show List.Perm _ _
        rw [List.take_zero, List.append_nil]
        exact hp.out
      clear hp
      go_wp2
      clear cA lX
      go_loopw [3, 5] (fun ov kv wr => ∃ (k : Nat) (p : Option Addr) (c : Nat) (q : List En), k ≤ N ∧ kv = .int .i64 (k : Int) ∧ ov = .slice p q.length c ∧ Hid (q.Perm (u.A.rowsB b ++ (u.A.L (false, b)).take k)) ∧ Hid (q.Pairwise fun a b => a.k ≤ b.k) ∧ Hid (Apt W wr (l ++ [obE p c q]))) (fun _ kv _ => N - (intOf kv).toNat)
      case atStart => exact ⟨0, p, c, q, Nat.zero_le _, rfl, rfl, hp0, hs, hx⟩
      case round =>
        clear hp0 hs hx
        obtain ⟨k, p, c, q, hk, rfl, rfl, hp, hs, hx⟩ := hrel
        obtain ⟨cA, _, _, lX⟩ := cells.out _ (HT.out _ _ hx.out)
        skip
        obtain ⟨rA, lA, vE⟩ := rowOf.out _ (HT.out _ _ hx.out)
        by_cases hkn : k < N
        · have hd4 : decide ((k : Int) < (N : Int)) = true := by rw [decide_eq_true_eq]; omega
          have hkI : (k : Int) < (N : Int) := by omega
          obtain ⟨r, hr0⟩ : ∃ r, (u.A.L (false, b))[k]? = some r := ⟨_, List.getElem?_eq_getElem (by rw [hN.out]; exact hkn)⟩
          have hr : Hid ((u.A.L (false, b))[k]? = some r) := hr0
          obtain ⟨Bk, rfl, lB, hcA, hfz, hcn⟩ := vE.opens (by omega)
          have hql : Hid (q.length ≤ 1000000) := by
            show _ ≤ _
            rw [hp.out.length_eq]
            exact hmB.out b k hbn
          clear hr0 hcA hfz hcn
          go_wp2_with (first
            | (refine wpList_load_at rfl _ rfl Bk rfl vE hkn hr.out ?_)
            | (go_at_call 42; refine (put_r hx.out hql.out r).mono ?_; rintro e w4 ⟨p4, c4, k4, rfl, h4, hlow, hhigh⟩; have h5 : Hid (Apt W w4 (l ++ [obE p4 c4 (ins k4 r q)])) := h4; have hs5 : Hid ((ins k4 r q).Pairwise fun a b => a.k ≤ b.k) := ins_sorted hs.out hlow hhigh; have hp5 : Hid ((ins k4 r q).Perm (u.A.rowsB b ++ (u.A.L (false, b)).take (k + 1))) := (by show List.Perm _ _; rw [take_snoc' hr.out]; have := perm_in r hp.out rfl (k := k4); simpa [List.append_assoc] using this); have hl5 : Hid ((ins k4 r q).length = q.length + 1) := (ins_perm k4 r q).length_eq; clear h4 hlow hhigh cA lX rA lA vE lB))
          rw [← hl5.out]
          go_roundw
          case rel => exact ⟨k + 1, p4, c4, ins k4 r q, by omega, by go_num, rfl, hp5, hs5, h5⟩
          case measure => simp [intOf]; omega
        · obtain rfl : k = N := by omega
          have hd4 : decide ((k : Int) < (k : Int)) = false := by rw [decide_eq_false_iff_not]; omega
          have hp6 : Hid (q.Perm (u.A.rowsB (b + 1))) := by
            show List.Perm _ _
            rw [rowsB_succ]
            have := hp.out
            rw [← hN.out, List.take_length] at this
            exact this
          clear vE
          go_wp2
          go_roundw
          case rel => exact ⟨b + 1, p, c, q, by omega, by go_num, rfl, hp6, hs, hx⟩
          case measure => simp [intOf]; omega
    · obtain rfl : b = n := by omega
      have hd3 : decide ((b : Int) < (b : Int)) = false := by rw [decide_eq_false_iff_not]; omega
      go_wp2
      clear cA cB cC lX
      have hx1 : Hid (Apt W wr (l ++ [obE p c q])) := hx
      have hp1 : Hid (q.Perm (u.A.rowsB b ++ u.A.rowsO m)) := by
        show List.Perm _ _
        rw [← hm1.out, rowsO_m, List.append_nil]
        exact hp.out
      clear hx hp
      go_loopw [3, 6, 7] (fun ov bv _ wr => ∃ (a : Nat) (p : Option Addr) (c : Nat) (q : List En), m ≤ a ∧ a ≤ K ∧ bv = .int .i64 (a : Int) ∧ ov = .slice p q.length c ∧ Hid (q.Perm (u.A.rowsB b ++ u.A.rowsO a)) ∧ Hid (q.Pairwise fun a b => a.k ≤ b.k) ∧ Hid (Apt W wr (l ++ [obE p c q]))) (fun _ bv _ _ => K - (intOf bv).toNat)
      case atStart => exact ⟨m, p, c, q, Nat.le_refl _, hmK, rfl, rfl, hp1, hs, hx1⟩
      case round =>
        clear hx1 hp1 hs
        obtain ⟨a, p, c, q, ham, haK, rfl, rfl, hp, hs, hx⟩ := hrel
        obtain ⟨cA, cB, cC, lX⟩ := cells.out _ (HT.out _ _ hx.out)
        by_cases han : a < K
        · have hd3 : decide ((a : Int) < (K : Int)) = true := by rw [decide_eq_true_eq]; omega
          have haI : (a : Int) < (K : Int) := by omega
          have hbl : Hid (u.A.live (true, a)) := by show u.A.m ≤ a ∧ a < u.A.k; rw [hk1.out, hm1.out]; exact ⟨ham, han⟩
          have ho : Hid (u.oP = some ⟨u.Q, 0, none⟩) := if_neg (by rw [hk1.out]; omega)
          rw [ho.out] at cB
          clear cA cC
          obtain ⟨N, hN⟩ : ∃ N, Hid ((u.A.L (true, a)).length = N) := ⟨_, rfl⟩
          have hN2 : N ≤ 1000000 := by rw [← hN.out]; exact hLO.out a ham han
          obtain ⟨rp, hrp⟩ : ∃ rp, Hid ((u.r (true, a)).1 = rp) := ⟨_, rfl⟩
          obtain ⟨rc, hrc⟩ : ∃ rc, Hid ((u.r (true, a)).2 = rc) := ⟨_, rfl⟩
          have rowOf : Hid (∀ W', RM W' u → W'.cell? ⟨u.Q, a, none⟩ = some (.slice rp N rc) ∧ u.Q < W'.heap.size ∧ Vec W' 30 4 rp N rc (enL (u.A.L (true, a)))) := fun W' h => by
            obtain ⟨a1, a2, _⟩ := h.cell hbl.out
            have a3 := h.inn _ ⟨hbl.out, by rw [hn.out]; exact fun x => by cases x⟩
            unfold Rt.sl at a1
            rw [hN.out, hrp.out, hrc.out] at a1 a3
            exact ⟨a1, a2, a3⟩
          have hp0 : Hid (q.Perm (u.A.rowsB b ++ (u.A.rowsO a ++ (u.A.L (true, a)).take 0))) := by
            show List.Perm _ _
            rw [List.take_zero, List.append_nil]
            exact hp.out
          clear hp
          go_wp2
          clear cB lX
          go_loopw [3, 7] (fun ov kv wr => ∃ (k : Nat) (p : Option Addr) (c : Nat) (q : List En), k ≤ N ∧ kv = .int .i64 (k : Int) ∧ ov = .slice p q.length c ∧ Hid (q.Perm (u.A.rowsB b ++ (u.A.rowsO a ++ (u.A.L (true, a)).take k))) ∧ Hid (q.Pairwise fun a b => a.k ≤ b.k) ∧ Hid (Apt W wr (l ++ [obE p c q]))) (fun _ kv _ => N - (intOf kv).toNat)
          case atStart => exact ⟨0, p, c, q, Nat.zero_le _, rfl, rfl, hp0, hs, hx⟩
          case round =>
            clear hp0 hs hx
            obtain ⟨k, p, c, q, hk, rfl, rfl, hp, hs, hx⟩ := hrel
            obtain ⟨_, cB, _, lX⟩ := cells.out _ (HT.out _ _ hx.out)
            rw [ho.out] at cB
            obtain ⟨rA, lA, vE⟩ := rowOf.out _ (HT.out _ _ hx.out)
            by_cases hkn : k < N
            · have hd4 : decide ((k : Int) < (N : Int)) = true := by rw [decide_eq_true_eq]; omega
              have hkI : (k : Int) < (N : Int) := by omega
              obtain ⟨r, hr0⟩ : ∃ r, (u.A.L (true, a))[k]? = some r := ⟨_, List.getElem?_eq_getElem (by rw [hN.out]; exact hkn)⟩
              have hr : Hid ((u.A.L (true, a))[k]? = some r) := hr0
              obtain ⟨Bk, rfl, lB, hcA, hfz, hcn⟩ := vE.opens (by omega)
              have hql : Hid (q.length ≤ 1000000) := by
                show _ ≤ _
                rw [hp.out.length_eq]
                exact hmO.out a k ham han
              clear hr0 hcA hfz hcn
              go_wp2_with (first
                | (refine wpList_load_at rfl _ rfl Bk rfl vE hkn hr.out ?_)
                | (go_at_call 42; refine (put_r hx.out hql.out r).mono ?_; rintro e w4 ⟨p4, c4, k4, rfl, h4, hlow, hhigh⟩; have h5 : Hid (Apt W w4 (l ++ [obE p4 c4 (ins k4 r q)])) := h4; have hs5 : Hid ((ins k4 r q).Pairwise fun a b => a.k ≤ b.k) := ins_sorted hs.out hlow hhigh; have hp5 : Hid ((ins k4 r q).Perm (u.A.rowsB b ++ (u.A.rowsO a ++ (u.A.L (true, a)).take (k + 1)))) := (by show List.Perm _ _; rw [take_snoc' hr.out]; have := perm_in r hp.out rfl (k := k4); simpa [List.append_assoc] using this); have hl5 : Hid ((ins k4 r q).length = q.length + 1) := (ins_perm k4 r q).length_eq; clear h4 hlow hhigh cB lX rA lA vE lB))
              rw [← hl5.out]
              go_roundw
              case rel => exact ⟨k + 1, p4, c4, ins k4 r q, by omega, by go_num, rfl, hp5, hs5, h5⟩
              case measure => simp [intOf]; omega
            · obtain rfl : k = N := by omega
              have hd4 : decide ((k : Int) < (k : Int)) = false := by rw [decide_eq_false_iff_not]; omega
              have hp6 : Hid (q.Perm (u.A.rowsB b ++ u.A.rowsO (a + 1))) := by
                show List.Perm _ _
                rw [rowsO_succ, if_pos (by rw [hm1.out]; exact ham)]
                have := hp.out
                rw [← hN.out, List.take_length] at this
                exact this
              clear vE
              go_wp2
              go_roundw
              case rel => exact ⟨a + 1, p, c, q, by omega, by omega, by go_num, rfl, hp6, hs, hx⟩
              case measure => simp [intOf]; omega
        · obtain rfl : a = K := by omega
          have hd3 : decide ((a : Int) < (a : Int)) = false := by rw [decide_eq_false_iff_not]; omega
          go_wp2
          go_ret
          refine ⟨p, c, q, rfl, hx, ?_, hs⟩
          show List.Perm _ _
          unfold Rp.rows
          rw [hn1.out, hk1.out]
          exact hp.out
theorem rlen_s (h : Apt W w l) (hi : l[i]? = some (obR u)) (hX : u.X = X) (hn : u.h = none) (hm : u.A.rows.length ≤ 1000000) : Calls Try.prog 19 #[.pointer (some ⟨X, 0, none⟩)] w fun e w' => e = .returned (.int .i64 (u.A.rows.length : Int)) ∧ Hid (Apt W w' l) := by
  have al := rall_s h hi hX hn hm
  clear h hi
  go_enter Try.func19, Try.ntmps19
  go_wp2_with (go_at_call 28; refine al.mono ?_; rintro e w4 ⟨p, c, q, rfl, h4, hp, _⟩; have hl : Hid (q.length = u.A.rows.length) := hp.out.length_eq; have h4 : Hid (Apt W w4 l) := h4.out.front; clear hp al)
  go_ret
  exact ⟨by rw [← hl.out]; rfl, h4⟩
/-- What Chain tells. -/
def Rp.kAt (A : Rp) (b : Int) : List Int := if 0 ≤ b ∧ b < (A.n : Int) then (A.L (false, b.toNat)).map (·.k) else []
set_option maxRecDepth 8000 in
set_option maxHeartbeats 4000000 in
theorem rchain_s (h : Apt W w l) (hi' : l[i]? = some (obR u)) (hX : u.X = X) (hn : u.h = none) (hm : ∀ p, (u.A.L p).length ≤ 1000000) (b : Nat) (hb : b ≤ 1000000) : Calls Try.prog 25 #[.pointer (some ⟨X, 0, none⟩), .int .i64 (b : Int)] w fun e w' => ∃ p c, e = .returned (.slice p (u.A.kAt b).length c) ∧ Hid (Apt W w' (l ++ [obV p c (u.A.kAt b)])) := by
  have HT : Hid (∀ W' o, Apt W W' (l ++ [o]) → RM W' u) := fun W' o h => h.all i _ (by rw [List.getElem?_append_left (List.getElem?_eq_some_iff.1 hi').1]; exact hi')
  have h0 : Hid (Apt W w (l ++ [obV none 0 []])) := obV_nil _ h
  change Hid (u.h = none) at hn
  change Hid (u.X = X) at hX
  obtain ⟨n, hn1⟩ : ∃ n, Hid (u.A.n = n) := ⟨_, rfl⟩
  have cells : Hid (∀ W', RM W' u → W'.cell? ⟨X, 0, none⟩ = some (.slice (some ⟨u.P, 0, none⟩) n n) ∧ X < W'.heap.size) := fun W' h => by
    obtain ⟨a, _⟩ := h.cells
    have e := lt_of h.head
    rw [hX.out] at a e
    rw [hn1.out] at a
    exact ⟨a, e⟩
  have hm : Hid (∀ p, (u.A.L p).length ≤ 1000000) := hm
  have bs : decide ((b : Int) ≥ 0) = true := by rw [decide_eq_true_eq]; omega
  have bs2 : decide ((0 : Int) ≤ (b : Int)) = true := by rw [decide_eq_true_eq]; omega
  by_cases hbn : b < n
  · have hK : Hid (u.A.kAt (b : Int) = (u.A.L (false, b)).map (·.k)) := by
      show _ = _
      unfold Rp.kAt
      rw [hn1.out, if_pos ⟨by omega, by omega⟩]
      rfl
    have hbl : Hid (u.A.live (false, b)) := by show b < u.A.n; rw [hn1.out]; exact hbn
    have d2 : decide ((b : Int) < (n : Int)) = true := by rw [decide_eq_true_eq]; omega
    have hbI : (b : Int) < (n : Int) := by omega
    obtain ⟨N, hN⟩ : ∃ N, Hid ((u.A.L (false, b)).length = N) := ⟨_, rfl⟩
    have hN2 : N ≤ 1000000 := by rw [← hN.out]; exact hm.out _
    obtain ⟨rp, hrp⟩ : ∃ rp, Hid ((u.r (false, b)).1 = rp) := ⟨_, rfl⟩
    obtain ⟨rc, hrc⟩ : ∃ rc, Hid ((u.r (false, b)).2 = rc) := ⟨_, rfl⟩
    have rowOf : Hid (∀ W', RM W' u → W'.cell? ⟨u.P, b, none⟩ = some (.slice rp N rc) ∧ u.P < W'.heap.size ∧ Vec W' 30 4 rp N rc (enL (u.A.L (false, b)))) := fun W' h => by
      obtain ⟨a1, a2, _⟩ := h.cell hbl.out
      have a3 := h.inn _ ⟨hbl.out, by rw [hn.out]; exact fun x => by cases x⟩
      unfold Rt.sl at a1
      rw [hN.out, hrp.out, hrc.out] at a1 a3
      exact ⟨a1, a2, a3⟩
    rw [hK.out]
    clear h hi' hK
    go_enter Try.func25, Try.ntmps25
    go_wp2
    go_loopw [5, 6] (fun ov kv wr => ∃ (k : Nat) (p : Option Addr) (c : Nat), k ≤ N ∧ kv = .int .i64 (k : Int) ∧ ov = .slice p k c ∧ Hid (Apt W wr (l ++ [obV p c (((u.A.L (false, b)).take k).map (·.k))]))) (fun _ kv _ => N - (intOf kv).toNat)
    case atStart => exact ⟨0, none, 0, Nat.zero_le _, rfl, rfl, h0⟩
    case round =>
      clear h0
      obtain ⟨k, p, c, hk, rfl, rfl, hx⟩ := hrel
      obtain ⟨cA, lX⟩ := cells.out _ (HT.out _ _ hx.out)
      obtain ⟨rA, lA, vE⟩ := rowOf.out _ (HT.out _ _ hx.out)
      by_cases hkn : k < N
      · have hd4 : decide ((k : Int) < (N : Int)) = true := by rw [decide_eq_true_eq]; omega
        have hkI : (k : Int) < (N : Int) := by omega
        obtain ⟨r, hr0⟩ : ∃ r, (u.A.L (false, b))[k]? = some r := ⟨_, List.getElem?_eq_getElem (by rw [hN.out]; exact hkn)⟩
        obtain ⟨Bk, rfl, lB, hcA, hfz, hcn⟩ := vE.opens (by omega)
        have k0 := (en_cell vE hkn hr0).1
        have hr : Hid ((u.A.L (false, b))[k]? = some r) := hr0
        have hz : Hid (k = (((u.A.L (false, b)).take k).map (·.k)).length) := by
          show _ = _
          rw [List.length_map, List.length_take, hN.out]
          omega
        have hz2 : Hid (((u.A.L (false, b)).take k).map (·.k) ++ [r.k] = ((u.A.L (false, b)).take (k + 1)).map (·.k)) := by
          show _ = _
          rw [take_snoc' hr.out, List.map_append]
          rfl
        obtain ⟨z, hzz⟩ : ∃ z, Hid (((u.A.L (false, b)).take k).map (·.k) = z) := ⟨_, rfl⟩
        rw [hzz.out] at hz hz2 hx
        clear hr0 hcA hfz hcn vE hzz hr
        go_wp2_with (at_builtin; refine wpList_append_vec rfl (.tmp 32) (.tmp 44) 39 rfl Try.underlying39 infoN rfl rfl (f := ivL z) (by rw [hz.out]; exact (hx.out.all _ _ (at_end _ _)).grown ((Grown.refl _).alloc _ _)) rfl (by decide) (new_int _ _ _) (fun _ _ => rfl) (by omega) (by omega) ?_; intro p' c' w3 hv3 ho3 hp3; have h3 : Hid (Apt W w3 (l ++ [obV p' c' (z ++ [r.k])])) := (by have := appended_s hx.out (at_end _ _) (by rw [← hz.out]; exact hv3) ho3 hp3; rw [set_end] at this; exact this); clear hv3 ho3 hp3 hx)
        go_roundw
        case rel => exact ⟨k + 1, p', c', by omega, by go_num, rfl, by rw [← hz2.out]; exact h3⟩
        case measure => simp [intOf]; omega
      · obtain rfl : k = N := by omega
        have hd4 : decide ((k : Int) < (k : Int)) = false := by rw [decide_eq_false_iff_not]; omega
        clear vE
        go_wp2
        go_ret
        refine ⟨p, c, by rw [List.length_map, hN.out]; rfl, ?_⟩
        have := hx.out
        rw [← hN.out, List.take_length] at this
        exact this
  · have hK : Hid (u.A.kAt (b : Int) = []) := by
      show _ = _
      unfold Rp.kAt
      rw [hn1.out, if_neg (fun x => by omega)]
    have d2 : decide ((b : Int) < (n : Int)) = false := by rw [decide_eq_false_iff_not]; omega
    rw [hK.out]
    obtain ⟨cA, lX⟩ := cells.out _ (HT.out _ _ h0.out)
    clear h hi' hK
    go_enter Try.func25, Try.ntmps25
    go_wp2
    go_loopw [5, 6] (fun ov kv wr => kv = .int .i64 0 ∧ ov = .slice none 0 0 ∧ wr = w) (fun _ _ _ => 0)
    case atStart => exact ⟨rfl, rfl, rfl⟩
    case round =>
      obtain ⟨rfl, rfl, hwr⟩ := hrel
      have hwr := hwr.symm
      subst hwr
      go_wp2
      go_ret
      exact ⟨none, 0, rfl, h0⟩
end Go.Proofs.Ythjcdloaclailaa.Tb
