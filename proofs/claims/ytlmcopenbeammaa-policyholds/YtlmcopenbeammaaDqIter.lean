/-
  The numbers of a row, one behind the other: what deque's iterators give.
-/
import Derived.Test.YtlmcopenbeammaaGrDqB
import Derived.Test.YtlmcopenbeammaaGenIter
import Derived.Test.YtlmcopenbeammaaGenCalm
namespace Go.Proofs.Ytlmcopenbeammaa
open Go.RowKit Go.Deep
attribute [local go_sem] Oper.semAt_some

/-- A row at block R, with the elements B, as one goes over it. -/
structure Goes (w : World) (R H : Nat) (E : Nat → El) (B : List Nat) : Prop where
  row : ∃ W, RwOn w R H W (B.length : Int)
  els : ∀ b ∈ H :: B, ElOn w b (E b)
  ring : Ring E H B
  hd : (E H).id = 0
  id : ∀ b ∈ B, 1 ≤ (E b).id
  len : B.length ≤ 65536
def gfoot (R H : Nat) (B : List Nat) (k : Nat) : Prop := k = R ∨ k ∈ H :: B
variable {w w' : World} {R H : Nat} {E : Nat → El} {B : List Nat}
theorem Goes.keep (h : Goes w R H E B) (hk : ∀ k, gfoot R H B k → w'.heap[k]? = w.heap[k]?) : Goes w' R H E B := by
  obtain ⟨W, hr⟩ := h.row
  exact ⟨⟨W, hr.keep (hk R (Or.inl rfl))⟩, fun b hb => (h.els b hb).keep (hk b (Or.inr hb)), h.ring, h.hd, h.id, h.len⟩
theorem Goes.lt (h : Goes w R H E B) {k : Nat} (hk : gfoot R H B k) : k < w.heap.size := by
  obtain ⟨W, hr⟩ := h.row
  rcases hk with rfl | hk
  · exact lt_of hr
  · exact lt_of (h.els k hk)

theorem rall_m (R : Nat) (w : World) :
    Calls Try.prog 55 #[ptr R] w fun e w' => e = .returned (.func (.func 76) #[] #[ptr w.heap.size]) ∧ w' = w.alloc (.cells #[ptr R] 75) := by
  unfold ptr
  go_enter Try.func55, Try.ntmps55
  go_wp2
  go_ret
  exact ⟨rfl, rfl⟩
theorem all_m (X : Nat) (l : Int) (w : World) :
    Calls Try.prog 28 #[ptr X, .int .i64 l] w fun e w' => e = .returned (.func (.func 53) #[] #[ptr w.heap.size, ptr (w.heap.size + 1)]) ∧ w' = (w.alloc (.cells #[ptr X] 45)).alloc (.cells #[.int .i64 l] 3) := by
  unfold ptr
  go_enter Try.func28, Try.ntmps28
  go_wp2
  go_ret
  exact ⟨rfl, rfl⟩

def elE (b : Nat) : Array Value := #[ptr b]
set_option maxRecDepth 100000 in
set_option maxHeartbeats 2000000 in
theorem rall_it {b0 : Nat} (hb : w.heap[b0]? = some (.cells #[ptr R] 75 (0, 0))) (h : Goes w R H E B) :
    Iter Try.prog 76 #[ptr b0] (fun k => k = b0 ∨ gfoot R H B k) (B.map elE) w := fun n l J Jx W G hk hKG hJ hJx hJl hY h0 => by
  have hat : Hid (∀ W', Keep (fun k => k = b0 ∨ gfoot R H B k) w W' → Goes W' R H E B ∧ W'.cell? ⟨b0, 0, none⟩ = some (ptr R) ∧ b0 < W'.heap.size) := fun W' hk' => ⟨h.keep fun k hk => hk'.block k (Or.inr hk), by
    have := (hk'.block b0 (Or.inl rfl)).trans hb
    exact ⟨cell_of this rfl, lt_of this⟩⟩
  obtain ⟨hA, hB, lB⟩ := hat.out W hk
  obtain ⟨Wt, hr⟩ := hA.row
  have r0 : W.cell? ⟨R, 0, none⟩ = some (ptr H) := cell_of hr rfl
  have r2 : W.cell? ⟨R, 2, none⟩ = some (.int .i64 (B.length : Int)) := cell_of hr rfl
  have lR := lt_of hr
  have hlen := h.len
  obtain ⟨N, HN⟩ : ∃ N, Hid (N = B.length) := ⟨_, rfl⟩
  rw [← HN.out] at r2 hlen
  clear hr
  unfold ptr at hB r0
  refine callsIn_of_wp Try.func76 rfl trivial ?_ rfl
  unfold ptr
  simp only [Try.ntmps76, List.size_toArray, List.length_cons, List.length_nil, Nat.reduceAdd, Nat.reduceSub, Array.replicate_succ, Array.replicate_zero, List.push_toArray, List.append_toArray, List.nil_append, List.cons_append]
  gi_wp2
  gi_loopw [3, 12] (fun ev iv wr => ∃ (k : Nat) (G1 : Nat → Prop), k ≤ N ∧ ev = .pointer (some ⟨(H :: B).getD k 0, 0, none⟩) ∧ iv = .int .i64 (k : Int) ∧ J k G1 wr ∧ Keep (fun k => k = b0 ∨ gfoot R H B k) w wr ∧ (∀ k, (k = b0 ∨ gfoot R H B k) → ¬ G1 k) ∧ W.heap.size ≤ wr.heap.size) (fun _ iv _ => N - (intOf iv).toNat)
  case atStart => exact ⟨0, G, by omega, rfl, rfl, h0, hk, fun k hk => (hKG k hk).2, Nat.le_refl _⟩
  case round =>
    have HK : Hid (∀ k, (k = b0 ∨ gfoot R H B k) → k < W.heap.size) := fun k hk => (hKG k hk).1
    clear hA hB r0 r2 lR h0 hk hKG lB
    obtain ⟨k, G1, hkN, rfl, rfl, hj, hkk, hdis, hsz⟩ := hrel
    have HD : Hid (∀ k, (k = b0 ∨ gfoot R H B k) → ¬ G1 k) := hdis
    clear hdis
    obtain ⟨hA, -, -⟩ := hat.out _ hkk
    have xl : Hid ((B.map elE).length = N) := by show _ = _; rw [List.length_map, HN.out]
    by_cases hlt : k < N
    · have d1 : decide ((k : Int) < (N : Int)) = true := by rw [decide_eq_true_eq]; omega
      have hkB : k < B.length := by rw [← HN.out]; exact hlt
      have hc0 : ElOn wr ((H :: B).getD k 0) (E ((H :: B).getD k 0)) := hA.els _ (by rw [List.getD_eq_getElem?_getD, List.getElem?_eq_getElem (show k < (H :: B).length by simp; omega)]; exact List.getElem_mem _)
      have hmem : B.getD k 0 ∈ B := by rw [List.getD_eq_getElem?_getD, List.getElem?_eq_getElem hkB]; exact List.getElem_mem _
      have hc1 := hA.els _ (List.mem_cons_of_mem H hmem)
      have hnx := hA.ring.at k hkB
      have e4 : wr.cell? ⟨(H :: B).getD k 0, 4, none⟩ = some (.pointer (some ⟨B.getD k 0, 0, none⟩)) := hnx ▸ cell_of hc0 rfl
      have e0 : wr.cell? ⟨B.getD k 0, 0, none⟩ = some (.int .i64 (E (B.getD k 0)).id) := cell_of hc1 rfl
      have hid := hA.id _ hmem
      have q0 : ((E (B.getD k 0)).id == 0) = false := by rw [beq_eq_false_iff_ne]; omega
      have l0 := lt_of hc0
      have l1 := lt_of hc1
      have HX : Hid ((B.map elE)[k]? = some (elE (B.getD k 0))) := by
        show _ = _
        rw [List.getElem?_map, List.getD_eq_getElem?_getD, List.getElem?_eq_getElem hkB]; rfl
      have HG : Hid ((H :: B).getD (k + 1) 0 = B.getD k 0) := by show _ = _; simp
      generalize hid' : (E (B.getD k 0)).id = ide at *
      generalize hbk : B.getD k 0 = bk at *
      generalize hak : (H :: B).getD k 0 = ak at *
      obtain ⟨fn, tmps, assign, body, hy, hR⟩ := hY (n - 1) _ _ G1 wr HX.out hj hsz
      unfold elE ptr at hy
      clear hA hc0 hc1 hnx hid' hbk hak hid hmem
      gi_wp2
      refine ⟨fun h => (by cases h), hR.mono ?_⟩
      rintro e W3 (⟨rfl, G2, hJ3, s3⟩ | ⟨rfl, G2, hJx3, s3⟩)
      · gi_wp2
        go_roundw
        case rel => exact ⟨k + 1, G2, by omega, by rw [HG.out], by go_num, hJ3, hkk.trans (Keep.of_out s3.out (fun k hk => Nat.lt_of_lt_of_le (HK.out k hk) hsz) HD.out), s3.apart (fun k hk => Nat.lt_of_lt_of_le (HK.out k hk) hsz) HD.out, Nat.le_trans hsz s3.out.size⟩
        case measure => simp [intOf]; omega
      · gi_wp2
        refine bodyPost_ret (results_none rfl _ _ _) rfl ?_
        exact ⟨⟨_, rfl⟩, Or.inr ⟨k, G2, by rw [xl.out]; exact hlt, hJx3⟩⟩
    · obtain rfl : k = N := by omega
      have d1 : decide ((k : Int) < (k : Int)) = false := by rw [decide_eq_false_iff_not]; omega
      clear hA
      gi_wp2
      go_end0
      exact ⟨⟨_, rfl⟩, Or.inl ⟨G1, by rw [xl.out]; exact hj⟩⟩
end Go.Proofs.Ytlmcopenbeammaa
