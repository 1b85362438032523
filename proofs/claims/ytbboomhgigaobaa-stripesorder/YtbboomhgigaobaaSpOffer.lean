/-
  What Offer of package stripes does when it is called. Condition: numbers of the lost up to a million.
-/
import Derived.Test.YtbboomhgigaobaaSpMem
namespace Go.Proofs.Ytbboomhgigaobaa.Rn
open Go.RowKit Go.Deep
variable {W w w' : World} {l : List Ob} {i j : Nat} {X : Sp} {st : St} {q q' : List Int} {L L' : Int}

theorem m_offer (a : Addr) (w : World) : (method 184 43 (.pointer (some a)) "Offer").run Try.prog w = .ok (63, .pointer (some a)) w := by kernel_rfl
theorem cell_lt {w : World} {a : Addr} {v : Value} (h : w.cell? a = some v) : a.block < w.heap.size := by
  unfold World.cell? at h
  by_cases e : a.block < w.heap.size
  · exact e
  · rw [Array.getElem?_eq_none (by omega)] at h
    cases h
theorem offer_p (h : Apt W w l) (hi : l[i]? = some (obSp X st)) (t n : Int) (hj : st[ofT X.seed X.k t]? = some (q, L)) (hL : 0 ≤ L ∧ L ≤ 1000000) :
    Calls Try.prog 15 #[ptr X.S, .int .i64 t, .int .i64 n] w fun e w' => e = .returned (.bool (decide (q.length < X.N))) ∧ Apt W w' (l.set i (obSp X (st.set (ofT X.seed X.k t) (offQ X.N q n, offL X.N q L)))) := by
  obtain ⟨_, k1, k2, c0, _, cR, lS, lR⟩ := sp_head h hi
  obtain ⟨e1, _⟩ := ofT_lt X.seed t k1
  have pc := fun w2 (g : Grown w w2) => place_s (h.more g) hi t
  have of := fun w2 (g : Grown w w2) => offer_r (h.more g) hi hj n hL
  have cj := cR _ e1
  obtain ⟨y, hy⟩ : ∃ y, Hid (y = ofT X.seed X.k t) := ⟨_, rfl⟩
  rw [← hy.out] at pc of cj e1
  obtain ⟨l', hl'⟩ : ∃ l', Hid (l' = l.set i (obSp X (st.set y (offQ X.N q n, offL X.N q L)))) := ⟨_, rfl⟩
  rw [← hy.out, ← hl'.out]
  rw [← hl'.out] at of
  have mo := m_offer
  have hmx : Try.prog.follows .mixedOrders = true := by kernel_rfl
  clear h cR hj
  unfold spV at cj
  unfold ptr at *
  go_enter Try.func15, Try.ntmps15
  go_wp2
  refine region_fill [6, 7, 8, 10, 11] [(7, .pointer (some ⟨X.S, 0, none⟩)), (8, .pointer (some ⟨X.S, 0, none⟩)), (9, .pointer (some ⟨X.S, 0, none⟩)), (10, .slice (some ⟨X.R, 0, none⟩) X.k X.k), (11, .pointer (some ⟨X.S, 0, none⟩)), (12, .int .i64 t), (16, .int .i64 n)] hmx (by kernel_rfl) (by kernel_rfl) ?_
  simp only [fills, Act.put, List.setIfInBounds_toArray, List.set_cons_zero, List.set_cons_succ]
  refine flow_ent (some 13) 17 #[.pointer (some ⟨X.S, 0, none⟩), .int .i64 t] _ rfl rfl ?run (by go_simp) ((pc _ (Grown.refl _).drew).mono ?_)
  case run =>
    clear pc of mo
    intro i o ho hi
    iterate 12 (rcases i with _ | i; · first | (exact absurd hi (by decide)) | (cases ho; go_simp))
    cases ho
  rintro e w1 ⟨rfl, m, hw1⟩
  refine ⟨_, rfl, ?_⟩
  simp only [Act.put, List.setIfInBounds_toArray, List.set_cons_zero, List.set_cons_succ]
  have g1 : Grown w w1 := by rw [hw1]; exact grownDrewN (Grown.refl _).drew m
  have c0 : w1.cell? ⟨X.S, 0, none⟩ = some (.slice (some ⟨X.R, 0, none⟩) X.k X.k) := by rw [hw1]; exact c0
  have cj : w1.cell? ⟨X.R, y, none⟩ = some (.iface 43 (.pointer (some ⟨X.b y + 1, 0, none⟩))) := by rw [hw1]; exact cj
  have lR : X.R < w1.heap.size := by rw [hw1]; exact lR
  have lS : X.S < w1.heap.size := by rw [hw1]; exact lS
  clear hw1
  have hyk : (0 : Int) ≤ (y : Int) := Int.natCast_nonneg y
  have hyk2 : (y : Int) < (X.k : Int) := by omega
  refine flow_val (some 14) (.pointer (some ⟨X.R, y, none⟩)) w1 _ rfl rfl ?run (by go_simp) ?_
  case run =>
    clear pc of mo
    intro i o ho hi
    iterate 12 (rcases i with _ | i; · first | (exact absurd hi (by decide)) | (cases ho; go_simp))
    cases ho
  simp only [Act.put, List.setIfInBounds_toArray, List.set_cons_zero, List.set_cons_succ]
  refine flow_val (some 15) (.iface 43 (.pointer (some ⟨X.b y + 1, 0, none⟩))) w1 _ rfl rfl ?run (by go_simp) ?_
  case run =>
    clear pc of mo
    intro i o ho hi
    iterate 12 (rcases i with _ | i; · first | (exact absurd hi (by decide)) | (cases ho; go_simp))
    cases ho
  simp only [Act.put, List.setIfInBounds_toArray, List.set_cons_zero, List.set_cons_succ]
  refine flow_ent (some 17) 63 #[.pointer (some ⟨X.b y + 1, 0, none⟩), .int .i64 n] _ rfl rfl ?run ?ent ((of _ g1).mono ?_)
  case run =>
    clear pc of mo
    intro i o ho hi
    iterate 12 (rcases i with _ | i; · first | (exact absurd hi (by decide)) | (cases ho; go_simp))
    cases ho
  case ent => go_simp
  rintro e w2 ⟨rfl, h2⟩
  refine ⟨_, rfl, ?_⟩
  simp only [Act.put, List.setIfInBounds_toArray, List.set_cons_zero, List.set_cons_succ]
  have c2 : w2.cell? ⟨X.S, 0, none⟩ = some (.slice (some ⟨X.R, 0, none⟩) X.k X.k) := by
    have k := h2
    rw [hl'.out] at k
    exact (sp_head k (by rw [List.getElem?_set_self (List.getElem?_eq_some_iff.1 hi).1])).2.2.2.1
  have lS2 := cell_lt c2
  clear c0 cj of pc g1 lS lR hy hl'
  refine flow_val (some 6) (.bool (decide (q.length < X.N))) w2 _ rfl rfl ?run (by go_simp) ?_
  case run =>
    intro i o ho hi
    iterate 12 (rcases i with _ | i; · first | (exact absurd hi (by decide)) | (cases ho; go_simp))
    cases ho
  simp only [Act.put, List.setIfInBounds_toArray, List.set_cons_zero, List.set_cons_succ]
  show Exit.then _ _ Exit.normal _ _
  clear c2 lS2
  go_wp2
  go_ret
  exact ⟨rfl, h2⟩
end Go.Proofs.Ytbboomhgigaobaa.Rn
