/-
  The program's stripes beside the document's, call by call. Condition: at most 1000 lost of each ring.
-/
import Derived.Test.YtbboomhgigaobaaSpMore
import Derived.Test.YtbboomhgigaobaaGenFlowG
namespace Go.Proofs.Ytbboomhgigaobaa.Rn
open Go.RowKit Go.Deep
variable {W w w' w2 : World} {l : List Ob} {i j k kk m y N : Nat} {X : Sp} {Y : Dp} {ds : Ds} {st : St} {seed : Int} {q q' : List Int} {L L' : Int} {p p' : Option Addr} {c c' n' : Nat}

def IsD (Y : Dp) (k N : Nat) (seed : Int) : Prop := Y.k = k ∧ Y.N = N ∧ Y.seed = seed
def Lo (st : St) (m : Nat) : Prop := ∀ s ∈ st, 0 ≤ s.2 ∧ s.2 ≤ (m : Int)
theorem lo_zero (k : Nat) : Lo (freshN k) 0 := fun s hs => by rw [List.eq_of_mem_replicate hs]; decide
theorem Lo.more {n : Nat} (h : Lo st m) (hn : m ≤ n) : Lo st n := fun s hs => by have := h s hs; omega
theorem st_room (h : Apt W w l) (hi : l[i]? = some (obSp X st)) : ∀ s ∈ st, s.1.length ≤ X.N ∧ X.N ≤ 4096 := fun s hs => by
  obtain ⟨j, hj⟩ := List.mem_iff_getElem?.1 hs
  have := sp_room h hi (q := s.1) (L := s.2) hj
  omega
/-- What an offer answers, and leaves. -/
def offerN (N k : Nat) (seed : Int) (st : St) (t n : Int) : Bool × St :=
  match st[ofT seed k t]? with
  | some (q, L) => (decide (q.length < N), st.set (ofT seed k t) (offQ N q n, offL N q L))
  | none => (false, st)
theorem offerN_at {t n : Int} (h : st[ofT seed k t]? = some (q, L)) : offerN N k seed st t n = (decide (q.length < N), st.set (ofT seed k t) (offQ N q n, offL N q L)) := by
  unfold offerN; rw [h]
theorem lo_offer {t n : Int} (h : Lo st m) : Lo (offerN N k seed st t n).2 (m + 1) := by
  unfold offerN
  split
  · rename_i q L hq
    intro s hs
    rcases List.mem_or_eq_of_mem_set hs with hs | rfl
    · have := h s hs; omega
    · have := h _ (List.mem_of_getElem? hq)
      show 0 ≤ offL N q L ∧ offL N q L ≤ ((m + 1 : Nat) : Int)
      unfold offL
      split <;> (simp only at this; omega)
  · exact h.more (Nat.le_succ m)
theorem takeN_lost : ∀ {st : St}, (takeN st).2.2.map (·.2) = st.map (·.2)
  | [] => rfl
  | (q, L) :: r => by
    unfold takeN
    split
    · rfl
    · simp [takeN_lost (st := r)]
theorem lo_map {st2 : St} (h : Lo st m) (e : st2.map (·.2) = st.map (·.2)) : Lo st2 m := fun s hs => by
  have : s.2 ∈ st.map (·.2) := by rw [← e]; exact List.mem_map.2 ⟨s, hs, rfl⟩
  obtain ⟨s', hs', e'⟩ := List.mem_map.1 this
  rw [← e']; exact h s' hs'
theorem lo_take (h : Lo st m) : Lo (takeN st).2.2 m := lo_map h takeN_lost
theorem lo_empty (h : Lo st m) : Lo (emptyN st) m := lo_map h (by simp [emptyN])
theorem allN_bd (h : Apt W w l) (hi : l[i]? = some (obSp X st)) : (allN st).length ≤ 262144 := by
  have h1 := lens_bd h hi st.length
  rw [← upN_len, upN_all rfl] at h1
  obtain ⟨h2, _, h3, _⟩ := sp_head h hi
  omega
theorem len_abs (h : Apt W w l) (hi : l[i]? = some (obSp X st)) (hX : Is X k N seed) (t : Int) : ∃ s, st[ofT seed k t]? = some s := by
  obtain ⟨rfl, rfl, rfl⟩ := hX
  obtain ⟨h1, h2, _⟩ := sp_head h hi
  have := (ofT_lt X.seed t h2).1
  exact ⟨_, List.getElem?_eq_getElem (by omega)⟩
/-- The two side by side. -/
theorem x_offer (h : Apt W w [obSp X st, obDp Y ds]) (hX : Is X k N seed) (hl : Lo st m) (hm : m ≤ 1000) (t n : Int) :
    Calls Try.prog 15 #[ptr X.S, .int .i64 t, .int .i64 n] w fun e w' => e = .returned (.bool (offerN N k seed st t n).1) ∧ Apt W w' [obSp X (offerN N k seed st t n).2, obDp Y ds] := by
  obtain ⟨⟨q, L⟩, hq⟩ := len_abs h (i := 0) rfl hX t
  have hL := hl _ (List.mem_of_getElem? hq)
  rw [offerN_at hq]
  obtain ⟨rfl, rfl, rfl⟩ := hX
  exact offer_p h (i := 0) rfl t n hq (by simp only at hL; omega)
theorem y_offer {st2 : St} (h : Apt W w [obSp X st2, obDp Y ds]) (hY : IsD Y k N seed) (hs : absD ds = st) (hr : ∀ s ∈ st, s.1.length ≤ N ∧ N ≤ 4096) (t : Int) (he : ∃ s, st[ofT seed k t]? = some s) (hl : Lo st m) (hm : m ≤ 1000) (n : Int) :
    Calls Try.prog 16 #[ptr Y.Y, .int .i64 t, .int .i64 n] w fun e w' => ∃ ds', e = .returned (.bool (offerN N k seed st t n).1) ∧ absD ds' = (offerN N k seed st t n).2 ∧ Apt W w' [obSp X st2, obDp Y ds'] := by
  obtain ⟨⟨q, L⟩, hq⟩ := he
  have hL := hl _ (List.mem_of_getElem? hq)
  have hR := hr _ (List.mem_of_getElem? hq)
  rw [offerN_at hq]
  obtain ⟨rfl, rfl, rfl⟩ := hY
  subst hs
  exact roffer_p h (i := 1) rfl t n hq hR.2 hR.1 (by simp only at hL; omega)
end Go.Proofs.Ytbboomhgigaobaa.Rn
