/-
  What one thread offers comes in its order: mathematics of stripes' contents. No condition but those told at each sentence.
-/
import Derived.Test.YtbboomhgigaobaaSpPlay
import Derived.Test.YtbboomhgigaobaaSpOne
namespace Go.Proofs.Ytbboomhgigaobaa.Rn
open Go.RowKit Go.Deep
variable {W w w' w2 : World} {l : List Ob} {i j k kk m y N : Nat} {X : Sp} {st : St} {seed : Int} {q q' a o : List Int} {L L' F x v n : Int} {p p' : Option Addr} {c c' n' : Nat}

/-- The last three bits. -/
def lo7 (n : Int) : Int := bits .and .i64 n 7
theorem lo7_mod (n : Int) : lo7 n = n % 8 := by
  have g : lo7 n = IntKind.i64.wrap ((BitVec.ofInt 64 n &&& 7#64).toNat : Int) := rfl
  have h1 : (BitVec.ofInt 64 n &&& 7#64).toNat = (n % 8).toNat := by
    rw [BitVec.toNat_and, show (7#64).toNat = 2 ^ 3 - 1 from rfl, Nat.and_two_pow_sub_one_eq_mod, BitVec.toNat_ofInt]
    omega
  rw [g, h1, IntKind.wrap_i64]
  omega
theorem lo7_bd (n : Int) : 0 ≤ lo7 n ∧ lo7 n ≤ 7 := by rw [lo7_mod]; omega
theorem lo7_add (v : Int) (i : Nat) : lo7 (lo7 v + 8 * (i : Int)) = lo7 v := by rw [lo7_mod, lo7_mod]; omega
def filt (t : Int) (l : List Int) : List Int := l.filter fun n => lo7 n == t
theorem filt_app (t : Int) (l r : List Int) : filt t (l ++ r) = filt t l ++ filt t r := by simp [filt]
theorem filt_one (t n : Int) : filt t [n] = if lo7 n == t then [n] else [] := by simp [filt, List.filter_cons]
theorem filt_take {t : Int} {l : List Int} {i : Nat} {x : Int} (h : l[i]? = some x) : filt t (l.take (i + 1)) = filt t (l.take i) ++ if lo7 x == t then [x] else [] := by
  rw [List.take_add_one, h, filt_app, ← filt_one]
  rfl
/-- Each number lies in the ring of the thread that its last three bits tell. -/
def Own (g : Int → Nat) (st : St) : Prop := ∀ j s, st[j]? = some s → ∀ m ∈ s.1, g (lo7 m) = j
theorem st_split {s : List Int × Int} (h : st[y]? = some s) : ∃ A B, st = A ++ s :: B ∧ A.length = y := by
  obtain ⟨h1, h2⟩ := List.getElem?_eq_some_iff.1 h
  refine ⟨st.take y, st.drop (y + 1), ?_, by simp; omega⟩
  rw [← h2, ← List.drop_eq_getElem_cons h1, List.take_append_drop]
theorem set_split (A B : St) (s s' : List Int × Int) : (A ++ s :: B).set A.length s' = A ++ s' :: B := by
  rw [List.set_append_right (h := Nat.le_refl _), Nat.sub_self, List.set_cons_zero]
theorem allN_app (A B : St) : allN (A ++ B) = allN A ++ allN B := by simp [allN]
theorem allN_cons (s : List Int × Int) (B : St) : allN (s :: B) = s.1 ++ allN B := by simp [allN]
theorem mem_allN {B : St} {m : Int} (h : m ∈ allN B) : ∃ (j : Nat) (s : List Int × Int), B[j]? = some s ∧ m ∈ s.1 := by
  unfold allN at h
  obtain ⟨l, hl, hm⟩ := List.mem_flatten.1 h
  obtain ⟨s, hs, rfl⟩ := List.mem_map.1 hl
  obtain ⟨j, hj⟩ := List.mem_iff_getElem?.1 hs
  exact ⟨j, s, hj, hm⟩
theorem offer_filt {g : Int → Nat} (hO : Own g st) (h : st[y]? = some (q, L)) (hy : y = g (lo7 n)) (t : Int) : filt t (allN (st.set y (q ++ [n], L))) = filt t (allN st) ++ filt t [n] := by
  obtain ⟨A, B, rfl, rfl⟩ := st_split h
  rw [set_split, allN_app, allN_app, allN_cons, allN_cons]
  simp only [filt_app, List.append_assoc]
  by_cases ht : (lo7 n == t) = true
  · have e : filt t (allN B) = [] := by
      unfold filt
      rw [List.filter_eq_nil_iff]
      intro m hm hmt
      obtain ⟨j, s, hj, hms⟩ := mem_allN hm
      have := hO (A.length + 1 + j) s (by rw [List.getElem?_append_right (by omega), show A.length + 1 + j - A.length = j + 1 by omega]; exact hj) m hms
      rw [eq_of_beq hmt, ← eq_of_beq ht, ← hy] at this
      omega
    rw [e, List.nil_append, List.append_nil]
  · have e : filt t [n] = [] := by rw [filt_one, if_neg ht]
    rw [e, List.nil_append, List.append_nil]
theorem own_set {g : Int → Nat} (hO : Own g st) (h : st[y]? = some (q, L)) (hy : y = g (lo7 n)) : Own g (st.set y (q ++ [n], L)) := fun j s hj m hm => by
  rw [List.getElem?_set] at hj
  by_cases e : y = j
  · rw [if_pos e, if_pos (by exact (List.getElem?_eq_some_iff.1 h).1)] at hj
    cases hj
    rcases List.mem_append.1 hm with hm | hm
    · rw [← e]; exact hO y _ h m hm
    · rw [List.mem_singleton.1 hm, ← hy, e]
  · rw [if_neg e] at hj
    exact hO j s hj m hm
theorem own_lose {g : Int → Nat} (hO : Own g st) (h : st[y]? = some (q, L)) : Own g (st.set y (q, L')) := fun j s hj m hm => by
  rw [List.getElem?_set] at hj
  by_cases e : y = j
  · rw [if_pos e, if_pos (by exact (List.getElem?_eq_some_iff.1 h).1)] at hj
    cases hj
    rw [← e]; exact hO y _ h m hm
  · rw [if_neg e] at hj
    exact hO j s hj m hm
theorem allN_lose (h : st[y]? = some (q, L)) : allN (st.set y (q, L')) = allN st := by
  obtain ⟨A, B, rfl, rfl⟩ := st_split h
  rw [set_split, allN_app, allN_app, allN_cons, allN_cons]
theorem take_yes_all : ∀ {st : St}, (takeN st).2.1 = true → allN st = (takeN st).1 :: allN (takeN st).2.2
  | [], h => by cases h
  | (q, L) :: r, h => by
    unfold takeN at h ⊢
    by_cases hq : 0 < q.length
    · rw [if_pos hq]
      cases q with
      | nil => simp at hq
      | cons x q => simp [allN]
    · rw [if_neg hq] at h ⊢
      have : q = [] := List.eq_nil_of_length_eq_zero (by omega)
      subst this
      have ih := take_yes_all (st := r) h
      simp [allN] at ih ⊢
      exact ih
theorem take_no_all : ∀ {st : St}, (takeN st).2.1 = false → (takeN st).2.2 = st
  | [], _ => rfl
  | (q, L) :: r, h => by
    unfold takeN at h ⊢
    by_cases hq : 0 < q.length
    · rw [if_pos hq] at h; cases h
    · rw [if_neg hq] at h ⊢
      rw [take_no_all (st := r) h]
theorem take_sub : ∀ {st : St} (j : Nat) (s' : List Int × Int), (takeN st).2.2[j]? = some s' → ∃ s, st[j]? = some s ∧ ∀ m ∈ s'.1, m ∈ s.1
  | [], j, s', h => by simp [takeN] at h
  | (q, L) :: r, j, s', h => by
    unfold takeN at h
    by_cases hq : 0 < q.length
    · rw [if_pos hq] at h
      cases j with
      | zero =>
        simp at h
        subst h
        exact ⟨_, rfl, fun m hm => List.mem_of_mem_tail hm⟩
      | succ j => exact ⟨s', by simpa using h, fun _ hm => hm⟩
    · rw [if_neg hq] at h
      cases j with
      | zero =>
        simp at h
        subst h
        exact ⟨_, rfl, fun _ hm => hm⟩
      | succ j =>
        obtain ⟨s, h1, h2⟩ := take_sub (st := r) j s' (by simpa using h)
        exact ⟨s, by simpa using h1, h2⟩
/-- What stands when i of the numbers are through. -/
structure Ord (g : Int → Nat) (st : St) (a o : List Int) (F : Int) (i : Nat) : Prop where
  own : Own g st
  fl : ∀ t, filt t a = filt t o ++ filt t (allN st)
  sum : F = (o.length : Int) + (st.map lenO).sum + (st.map lostO).sum
  len : a.length = o.length + (allN st).length
  lo : Lo st i
  le : a.length ≤ i
  leF : 0 ≤ F ∧ F ≤ i
theorem ord_zero (g : Int → Nat) (k : Nat) : Ord g (freshN k) [] [] 0 0 := by
  have e : allN (freshN k) = [] := by
    have := allN_len (freshN k)
    rw [(flt_zero k).2] at this
    exact List.eq_nil_of_length_eq_zero (by omega)
  refine ⟨fun j s hj m hm => ?_, fun t => by rw [e]; rfl, ?_, by rw [e]; rfl, lo_zero k, Nat.le_refl _, by decide⟩
  · rw [List.eq_of_mem_replicate (List.mem_of_getElem? hj)] at hm
    cases hm
  · rw [(flt_zero k).2, show ((freshN k).map lostO).sum = 0 from sum_zero lostO _ rfl k]
    rfl
theorem lost_sum {st2 : St} (h : st2.map (·.2) = st.map (·.2)) : (st2.map lostO).sum = (st.map lostO).sum := by
  have e : ∀ s : St, s.map lostO = s.map (·.2) := fun s => rfl
  rw [e, e, h]
namespace Ord
variable {g : Int → Nat}
theorem take_yes (h : Ord g st a o F i) (hb : (takeN st).2.1 = true) : Ord g (takeN st).2.2 a (o ++ [(takeN st).1]) F (i + 1) := by
  have e := take_yes_all hb
  have l1 := allN_len st
  have l2 := allN_len (takeN st).2.2
  have hs := h.sum
  have hl := h.len
  rw [e] at l1 hl
  simp only [List.length_cons] at l1 hl
  refine ⟨fun j s hj m hm => ?_, fun t => ?_, ?_, ?_, (lo_take h.lo).more (Nat.le_succ i), by have := h.le; omega, by have := h.leF; omega⟩
  · obtain ⟨s', h1, h2⟩ := take_sub j s hj
    exact h.own j s' h1 m (h2 m hm)
  · rw [h.fl t, e, filt_app, List.append_assoc, ← filt_app t [_], List.singleton_append]
  · rw [lost_sum takeN_lost, List.length_append, List.length_singleton]
    omega
  · rw [List.length_append, List.length_singleton]
    omega
theorem take_no (h : Ord g st a o F i) (hb : (takeN st).2.1 = false) : Ord g (takeN st).2.2 a o F (i + 1) := by
  rw [take_no_all hb]
  exact ⟨h.own, h.fl, h.sum, h.len, h.lo.more (Nat.le_succ i), by have := h.le; omega, by have := h.leF; omega⟩
theorem offer (h : Ord (ofT seed k) st a o F i) (hy : ∃ s, st[ofT seed k (lo7 n)]? = some s) :
    ((offerN N k seed st (lo7 n) n).1 = true → Ord (ofT seed k) (offerN N k seed st (lo7 n) n).2 (a ++ [n]) o (F + 1) (i + 1)) ∧ ((offerN N k seed st (lo7 n) n).1 = false → Ord (ofT seed k) (offerN N k seed st (lo7 n) n).2 a o (F + 1) (i + 1)) := by
  have hlo := lo_offer (N := N) (k := k) (seed := seed) (t := lo7 n) (n := n) h.lo
  obtain ⟨⟨q, L⟩, hq⟩ := hy
  rw [offerN_at hq] at hlo ⊢
  have hs := h.sum
  have hl := h.len
  have h1 := h.le
  have h2 := h.leF
  have s1 := sum_set lenO (s' := (offQ N q n, offL N q L)) hq
  have s2 := sum_set lostO (s' := (offQ N q n, offL N q L)) hq
  have l1 := allN_len st
  have l2 := allN_len (st.set (ofT seed k (lo7 n)) (offQ N q n, offL N q L))
  unfold offQ offL at *
  by_cases hN : q.length < N
  · simp only [if_pos hN, decide_eq_true hN] at *
    refine ⟨fun _ => ⟨own_set h.own hq rfl, fun t => ?_, ?_, ?_, hlo, ?_, ?_⟩, (fun hf => by cases hf)⟩
    · rw [filt_app, h.fl t, offer_filt h.own hq rfl t, List.append_assoc]
    · simp only [lenO, lostO, List.length_append, List.length_singleton] at s1 s2
      omega
    · simp only [lenO, List.length_append, List.length_singleton] at s1 ⊢
      omega
    · rw [List.length_append, List.length_singleton]; omega
    · omega
  · simp only [if_neg hN, decide_eq_false hN] at *
    refine ⟨(fun hf => by cases hf), fun _ => ⟨own_lose h.own hq, fun t => ?_, ?_, ?_, hlo, ?_, ?_⟩⟩
    · rw [h.fl t, allN_lose hq]
    · simp only [lenO, lostO] at s1 s2
      omega
    · rw [allN_lose hq]; exact hl
    · omega
    · omega
end Ord
/-- An offer, with other objects beside. -/
theorem x_offer3 {l : List Ob} (h : Apt W w (obSp X st :: l)) (hX : Is X k N seed) (hl : Lo st m) (hm : m ≤ 1000) (t n : Int) :
    Calls Try.prog 15 #[ptr X.S, .int .i64 t, .int .i64 n] w fun e w' => e = .returned (.bool (offerN N k seed st t n).1) ∧ Apt W w' (obSp X (offerN N k seed st t n).2 :: l) := by
  obtain ⟨⟨q, L⟩, hq⟩ := len_abs h (i := 0) rfl hX t
  have hL := hl _ (List.mem_of_getElem? hq)
  rw [offerN_at hq]
  obtain ⟨rfl, rfl, rfl⟩ := hX
  exact offer_p h (i := 0) rfl t n hq (by simp only at hL; omega)
end Go.Proofs.Ytbboomhgigaobaa.Rn
