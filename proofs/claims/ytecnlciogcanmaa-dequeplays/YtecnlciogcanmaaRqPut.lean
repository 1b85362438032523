/-
  The document's own lists: what Push, Unlink, Move and Reweigh of package pantryref07 do when they are called.
-/
import Derived.Test.YtecnlciogcanmaaRqMem
import Derived.Test.YtecnlciogcanmaaGenFlow
namespace Go.Proofs.Ytecnlciogcanmaa
open Go.RowKit Go.Deep
variable {w w' : World} {R P : Nat} {pl : Option Addr} {cl : Nat} {q : Nat → Option Addr × Nat} {t : Ds}

/-- Another row i. -/
def Ds.withRow (t : Ds) (i : Nat) (l : List (Int × Int)) : Ds := { t with L := fun j => if j = i then l else t.L j }
def withQ (q : Nat → Option Addr × Nat) (i : Nat) (p : Option Addr) (c : Nat) (j : Nat) : Option Addr × Nat := if j = i then (p, c) else q j
/-- A row that was made anew, or in its own block, stored at its place. -/
theorem RqM.put (h : RqM w R (some ⟨P, 0, none⟩) cl q t) {i : Nat} (hi : i < t.n) {w2 : World} {F : Nat → Prop} (o : Out F w w2) (hF : ∀ k, F k → In (q i).1 k ∨ w.heap.size ≤ k) {p' : Option Addr} {c' : Nat} {l : List (Int × Int)} (hv : Vec w2 63 2 p' l.length c' (itC l)) (hp : p' = (q i).1 ∨ ∀ k, In p' k → w.heap.size ≤ k) :
    RqM (w2.setCell ⟨P, i, none⟩ (.slice p' l.length c')) R (some ⟨P, 0, none⟩) cl (withQ q i p' c') (t.withRow i l) ∧ Step (qfoot R (some ⟨P, 0, none⟩) q t.n) (qfoot R (some ⟨P, 0, none⟩) (withQ q i p' c') t.n) w (w2.setCell ⟨P, i, none⟩ (.slice p' l.length c')) := by
  have hPlt : P < w.heap.size := h.outer.lt (In.self P)
  have hio := fun j (hj : j < t.n) => vec_apart h.outer (h.inner j hj) (by decide)
  have hRv : ¬ In (some ⟨P, 0, none⟩) R := vec_ne h.outer h.head (by decide)
  have hRi : ∀ j, j < t.n → ¬ In (q j).1 R := fun j hj => vec_ne (h.inner j hj) h.head (by decide)
  have hRlt := lt_of h.head
  have newIn : ∀ k, In p' k → In (q i).1 k ∨ w.heap.size ≤ k := fun k hk => by
    rcases hp with rfl | hp
    · exact Or.inl hk
    · exact Or.inr (hp k hk)
  have nF : ∀ {k : Nat}, k < w.heap.size → ¬ In (q i).1 k → ¬ F k := fun {k} hk hn hf => by
    rcases hF k hf with x | x
    · exact hn x
    · omega
  have hPn : ¬ In p' P := fun hk => by
    rcases newIn P hk with x | x
    · exact hio i hi P (In.self P) x
    · omega
  have oP : Out (· = P) w2 (w2.setCell ⟨P, i, none⟩ (.slice p' l.length c')) := (Out.refl (fun x => x = P) w2).setCell (a := ⟨P, i, none⟩) rfl _
  have outer2 : Vec w2 61 1 (some ⟨P, 0, none⟩) t.n cl (fun i => .slice (q i).1 (t.L i).length (q i).2) := h.outer.out o fun k hk => nF (h.outer.lt hk) (hio i hi k hk)
  refine ⟨⟨?_, ?_, fun j hj => ?_, fun a b ha hb hab k hk hk' => ?_⟩, ⟨⟨oP.os.trans o.os, oP.output.trans o.output, fun x => (oP.froz x).trans (o.froz x), Nat.le_trans o.size oP.size, fun k hk hn => ?_⟩, fun k hk => ?_⟩⟩
  · exact (oP.block R (Nat.lt_of_lt_of_le hRlt o.size) (fun e => hRv (by rw [e]; exact In.self P))).trans ((o.block R hRlt (nF hRlt (hRi i hi))).trans h.head)
  · refine (outer2.set i (.slice p' l.length c')).congr fun j _ => ?_
    show (if j = i then _ else _) = Value.slice (withQ q i p' c' j).1 ((t.withRow i l).L j).length (withQ q i p' c' j).2
    unfold withQ Ds.withRow
    by_cases e : j = i
    · simp [e]
    · simp [e]
  · have hj : j < t.n := hj
    by_cases e : j = i
    · subst e
      rw [show withQ q j p' c' j = (p', c') from if_pos rfl, show (t.withRow j l).L j = l from if_pos rfl]
      exact hv.out oP fun k hk hkP => hPn (by rw [← hkP]; exact hk)
    · rw [show withQ q i p' c' j = q j from if_neg e, show (t.withRow i l).L j = t.L j from if_neg e]
      exact ((h.inner j hj).out o fun k hk => nF ((h.inner j hj).lt hk) (h.apart j i hj hi e k hk)).out oP fun k hk hkP => hio j hj P (In.self P) (by rw [← hkP]; exact hk)
  · have ha : a < t.n := ha
    have hb : b < t.n := hb
    have key : ∀ {c : Nat}, c < t.n → c ≠ i → ∀ k, In (q c).1 k → ¬ In p' k := fun {c} hc hci k hk hk' => by
      rcases newIn k hk' with x | x
      · exact h.apart c i hc hi hci k hk x
      · have := (h.inner c hc).lt hk; omega
    by_cases e : a = i
    · subst e
      rw [show withQ q a p' c' a = (p', c') from if_pos rfl] at hk
      rw [show withQ q a p' c' b = q b from if_neg (fun x => hab x.symm)] at hk'
      exact key hb (fun x => hab x.symm) k hk' hk
    · rw [show withQ q i p' c' a = q a from if_neg e] at hk
      by_cases e' : b = i
      · subst e'
        rw [show withQ q b p' c' b = (p', c') from if_pos rfl] at hk'
        exact key ha e k hk hk'
      · rw [show withQ q i p' c' b = q b from if_neg e'] at hk'
        exact h.apart a b ha hb hab k hk hk'
  · rw [oP.block k (Nat.lt_of_lt_of_le hk o.size) (fun e => hn (Or.inr (Or.inl (by rw [e]; exact In.self P))))]
    exact o.block k hk (nF hk fun x => hn (Or.inr (Or.inr ⟨i, hi, x⟩)))
  · rcases hk with hk | hk | ⟨j, hj, hk⟩
    · exact Or.inl (Or.inl hk)
    · exact Or.inl (Or.inr (Or.inl hk))
    · by_cases e : j = i
      · subst e
        rw [show withQ q j p' c' j = (p', c') from if_pos rfl] at hk
        rcases newIn k hk with x | x
        · exact Or.inl (Or.inr (Or.inr ⟨j, hj, x⟩))
        · exact Or.inr x
      · rw [show withQ q i p' c' j = q j from if_neg e] at hk
        exact Or.inl (Or.inr (Or.inr ⟨j, hj, hk⟩))
theorem infoItem : (Try.prog.info? 63).map (fun i => (i.zero, i.size, i.bytes)) = some (some (.agg #[.int .i64 0, .int .i64 0]), 2, 16) := by kernel_rfl
theorem new_two (w : World) (u v : Value) (y : TypeId) : ∀ j, j < 1 * 2 → (w.alloc (.cells #[u, v] y)).cell? ((⟨w.heap.size, 0, none⟩ : Addr).add j) = some (if j = 0 then u else v) := fun j hj => by
  have e : (⟨w.heap.size, 0, none⟩ : Addr).add j = ⟨w.heap.size, j, none⟩ := by unfold Addr.add; split <;> simp_all
  rw [e]
  have h2 : j = 0 ∨ j = 1 := by omega
  rcases h2 with rfl | rfl
  · exact cell_of (blk_alloc_new _ _) rfl
  · exact cell_of (blk_alloc_new _ _) rfl
theorem getD_app {l r : List (Int × Int)} {i : Nat} (h : i < l.length) : (l ++ r).getD i (0, 0) = l.getD i (0, 0) := by
  rw [List.getD_eq_getElem?_getD, List.getD_eq_getElem?_getD, List.getElem?_append_left h]
theorem itC_append (l : List (Int × Int)) (p : Int × Int) : ∀ j, j < (l.length + 1) * 2 → (if j < l.length * 2 then itC l j else if j - l.length * 2 = 0 then .int .i64 p.1 else .int .i64 p.2) = itC (l ++ [p]) j := by
  refine itC_eq (fun i hi => ?_) (fun i hi => ?_)
  · by_cases h : i < l.length
    · rw [if_pos (by omega), itC0, getD_app h]
    · have e : i = l.length := by omega
      subst e
      rw [if_neg (by omega), if_pos (by omega)]
      simp
  · by_cases h : i < l.length
    · rw [if_pos (by omega), itC1, getD_app h]
    · have e : i = l.length := by omega
      subst e
      rw [if_neg (by omega), if_neg (by omega)]
      simp
theorem rpush_arg (h : RqM w R pl cl q t) (l id wt : Int) (hb : (t.has l && Ds.mayBe id && Ds.mayWeigh wt) = false) :
    Calls Try.prog 12 #[ptr R, .int .i64 l, .int .i64 id, .int .i64 wt] w fun e w' => e = .returned (.int .i64 1) ∧ w' = w := by
  have hh := rrow_m h l
  have hf := fine_m wt w
  clear h
  unfold ptr at *
  unfold Ds.mayBe at hb
  cases h1 : t.has l with
  | false =>
    rw [h1] at hh
    go_enter Try.func12, Try.ntmps12
    go_wp2_with (first | (go_at_call 33; refine hh.mono ?_; rintro e w' ⟨rfl, rfl⟩))
    go_ret
    exact ⟨rfl, rfl⟩
  | true =>
    rw [h1] at hh hb
    have hc : id < 1 ∨ (1 ≤ id ∧ 65536 < id) ∨ (1 ≤ id ∧ id ≤ 65536) := by omega
    rcases hc with c | ⟨c, c'⟩ | ⟨c, c'⟩
    · clear hb
      go_enter Try.func12, Try.ntmps12
      go_wp2_with (first | (go_at_call 33; refine hh.mono ?_; rintro e w' ⟨rfl, rfl⟩))
      go_ret
      exact ⟨rfl, rfl⟩
    · clear hb
      go_enter Try.func12, Try.ntmps12
      go_wp2_with (first | (go_at_call 33; refine hh.mono ?_; rintro e w' ⟨rfl, rfl⟩))
      go_ret
      exact ⟨rfl, rfl⟩
    · have hw' : Ds.mayWeigh wt = false := by
        rw [show decide (1 ≤ id ∧ id ≤ 65536) = true from decide_eq_true ⟨c, c'⟩] at hb
        simpa using hb
      rw [hw'] at hf
      clear hb
      go_enter Try.func12, Try.ntmps12
      go_wp2_with (first | (go_at_call 33; refine hh.mono ?_; rintro e w' ⟨rfl, rfl⟩) | (go_at_call 34; refine hf.mono ?_; rintro e w' ⟨rfl, rfl⟩))
      go_ret
      exact ⟨rfl, rfl⟩
theorem rpush_twice (h : RqM w R pl cl q t) (hw : t.Wf) (hlen : ∀ i, (t.L i).length ≤ 65536) (l id wt : Int) (hl : t.has l = true) (hid : 1 ≤ id ∧ id ≤ 65536) (hwt : Ds.mayWeigh wt = true) {i : Nat} {v : Int} (hf : t.find id = some (i, v)) :
    Calls Try.prog 12 #[ptr R, .int .i64 l, .int .i64 id, .int .i64 wt] w fun e w' => e = .returned (.int .i64 5) ∧ w' = w := by
  have hh := rrow_m h l
  have hfi := fine_m wt w
  rw [hl] at hh
  rw [hwt] at hfi
  obtain ⟨k, _, fd⟩ := find_yes h hw hlen hf
  have d1 : decide ((0 : Int) ≤ (i : Int)) = true := by rw [decide_eq_true_eq]; omega
  obtain ⟨h1, h2⟩ := hid
  clear h hf hl hwt
  unfold ptr at *
  go_enter Try.func12, Try.ntmps12
  go_wp2_with (first | (go_at_call 33; refine hh.mono ?_; rintro e w' ⟨rfl, rfl⟩) | (go_at_call 34; refine hfi.mono ?_; rintro e w' ⟨rfl, rfl⟩) | (go_at_call 35; refine fd.mono ?_; rintro e w' ⟨rfl, rfl⟩))
  go_ret
  exact ⟨rfl, rfl⟩
/-- append(x.L[i], item), stored: what it leaves. -/
theorem RqM.pushed (h : RqM w R (some ⟨P, 0, none⟩) cl q t) {i : Nat} (hi : i < t.n) (id wt : Int) {w2 : World} {p' : Option Addr} {c' : Nat} {tmp : Array Value} {y : TypeId}
    (hv : Vec w2 63 2 p' ((t.L i).length + 1) c' (fun j => if j < (t.L i).length * 2 then itC (t.L i) j else if j - (t.L i).length * 2 = 0 then .int .i64 id else .int .i64 wt)) (o : Out (In (q i).1) (w.alloc (.cells tmp y)) w2) (hp : p' = (q i).1 ∨ p' = some ⟨(w.alloc (.cells tmp y)).heap.size, 0, none⟩) :
    w2.cell? ⟨R, 0, none⟩ = some (.slice (some ⟨P, 0, none⟩) t.n cl) ∧ w2.cell? ⟨P, i, none⟩ = some (.slice (q i).1 (t.L i).length (q i).2) ∧ w2.frozen? ⟨P, i, none⟩ = false ∧ R < w2.heap.size ∧ P < w2.heap.size ∧
      RqM (w2.setCell ⟨P, i, none⟩ (.slice p' ((t.L i).length + 1) c')) R (some ⟨P, 0, none⟩) cl (withQ q i p' c') (t.push i id wt) ∧ Step (qfoot R (some ⟨P, 0, none⟩) q t.n) (qfoot R (some ⟨P, 0, none⟩) (withQ q i p' c') t.n) w (w2.setCell ⟨P, i, none⟩ (.slice p' ((t.L i).length + 1) c')) := by
  have gr : Grown w (w.alloc (.cells tmp y)) := (Grown.refl w).alloc tmp y
  have o' : Out (fun k => In (q i).1 k) w w2 := Out.after gr o
  have hl : ((t.L i) ++ [(id, wt)]).length = (t.L i).length + 1 := by simp
  have hv' : Vec w2 63 2 p' ((t.L i) ++ [(id, wt)]).length c' (itC ((t.L i) ++ [(id, wt)])) := by
    rw [hl]
    exact hv.congr fun j hj => itC_append (t.L i) (id, wt) j hj
  obtain ⟨a1, a2⟩ := h.put hi o' (fun k hk => Or.inl hk) hv' (hp.imp_right fun e k hk => by rw [e] at hk; have := hk.eq; rw [nblk_alloc] at this; omega)
  rw [hl] at a1 a2
  have et : t.withRow i ((t.L i) ++ [(id, wt)]) = t.push i id wt := Gh.st_ext rfl fun j => by
    show (if j = i then _ else _) = (if j = i then _ else _)
    by_cases e : j = i
    · subst e; rfl
    · rw [if_neg e, if_neg e]
  rw [et] at a1
  have hio := vec_apart h.outer (h.inner i hi) (by decide)
  have k1 : w2.heap[R]? = some (.cells #[.slice (some ⟨P, 0, none⟩) t.n cl] 55 (0, 0)) := (o'.block R (lt_of h.head) (vec_ne (h.inner i hi) h.head (by decide))).trans h.head
  have outer2 := h.outer.out o' fun k hk => hio k hk
  obtain ⟨P', hP', hPl, hPc, hPf, _⟩ := outer2.opens (by omega)
  cases hP'
  exact ⟨cell_of k1 rfl, hPc i (by omega), hPf i, lt_of k1, hPl, a1, a2⟩
set_option maxRecDepth 100000 in
set_option maxHeartbeats 4000000 in
theorem rpush_ok (h : RqM w R pl cl q t) (hw : t.Wf) (hlen : ∀ i, (t.L i).length ≤ 65536) (l : Nat) (id wt : Int) (hl : l < t.n) (hid : 1 ≤ id ∧ id ≤ 65536) (hwt : Ds.mayWeigh wt = true) (hf : t.find id = none) :
    Calls Try.prog 12 #[ptr R, .int .i64 (l : Int), .int .i64 id, .int .i64 wt] w fun e w' => e = .returned (.int .i64 0) ∧ ∃ q', RqM w' R pl cl q' (t.push l id wt) ∧ Step (qfoot R pl q t.n) (qfoot R pl q' t.n) w w' := by
  have hh := rrow_m h (l : Int)
  have hfi := fine_m wt w
  rw [show t.has (l : Int) = true from decide_eq_true ⟨by omega, by omega⟩] at hh
  rw [hwt] at hfi
  have fd := find_no h hw hlen hf
  obtain ⟨h1, h2⟩ := hid
  have c0 := h.cell0
  have lR := lt_of h.head
  have hn := hw.cap
  obtain ⟨P, rfl, lP, cP, fP, hcl⟩ := h.ofRow hl
  have hL := hlen l
  have HV : Hid (∀ c y, Vec (w.drew.alloc (.cells c y)) 63 2 (q l).1 (t.L l).length (q l).2 (itC (t.L l))) := fun c y => (h.inner l hl).grown ((Grown.refl w).drew.alloc c y)
  have HP : Hid (∀ (w2 : World) (p' : Option Addr) (c' : Nat) (tmp : Array Value) (y : TypeId), Vec w2 63 2 p' ((t.L l).length + 1) c' (fun j => if j < (t.L l).length * 2 then itC (t.L l) j else if j - (t.L l).length * 2 = 0 then .int .i64 id else .int .i64 wt) → Out (In (q l).1) (w.drew.alloc (.cells tmp y)) w2 → (p' = (q l).1 ∨ p' = some ⟨(w.drew.alloc (.cells tmp y)).heap.size, 0, none⟩) → _) := fun w2 p' c' tmp y a b c => (h.drewN 1).pushed hl id wt (w2 := w2) (p' := p') (c' := c') (tmp := tmp) (y := y) a b c
  obtain ⟨N, HN⟩ : ∃ N, Hid (N = t.n) := ⟨_, rfl⟩
  obtain ⟨L, HL⟩ : ∃ L, Hid (L = (t.L l).length) := ⟨_, rfl⟩
  rw [← HN.out] at c0 hcl hl hn HP
  rw [← HL.out] at cP hL HV HP
  rw [← HN.out]
  clear h hf hwt hw hlen
  generalize hqp : (q l).1 = qp at *
  generalize hqc : (q l).2 = qc at *
  have hmx : Try.prog.follows .mixedOrders = true := by kernel_rfl
  unfold ptr at *
  go_enter Try.func12, Try.ntmps12
  go_wp2_with (first | (go_at_call 33; refine hh.mono ?_; rintro e w' ⟨rfl, hw'⟩; have hw' := hw'.symm; subst hw') | (go_at_call 34; refine hfi.mono ?_; rintro e w' ⟨rfl, hw'⟩; have hw' := hw'.symm; subst hw') | (go_at_call 35; refine fd.mono ?_; rintro e w' ⟨rfl, hw'⟩; have hw' := hw'.symm; subst hw'))
  refine region_fill [15, 16, 18] [(36, .pointer (some ⟨R, 0, none⟩)), (37, .pointer (some ⟨R, 0, none⟩)), (38, .pointer (some ⟨R, 0, none⟩)), (39, .slice (some ⟨P, 0, none⟩) N cl), (40, .int .i64 (l : Int)), (41, .pointer (some ⟨R, 0, none⟩)), (42, .pointer (some ⟨R, 0, none⟩)), (43, .pointer (some ⟨R, 0, none⟩)), (44, .slice (some ⟨P, 0, none⟩) N cl), (45, .int .i64 (l : Int)), (46, .pointer (some ⟨P, l, none⟩)), (47, .slice qp L qc), (48, .int .i64 id), (49, .int .i64 wt), (50, .agg #[.int .i64 id, .int .i64 wt]), (53, .pointer (some ⟨P, l, none⟩))] hmx (by kernel_rfl) (by kernel_rfl) ?_
  simp only [fills, Act.put, List.setIfInBounds_toArray, List.set_cons_zero, List.set_cons_succ]
  refine flow_cons _ (.slice (some ⟨w.heap.size, 0, none⟩) 1 1) (w.drew.alloc (.cells #[.int .i64 id, .int .i64 wt] 63)) rfl ?run (Or.inl ?eff) ?next
  case run =>
    intro i o ho hi
    iterate 19 (rcases i with _ | i; · first | (exact absurd hi (by decide)) | (cases ho; go_simp))
    cases ho
  case eff => go_simp
  case next =>
    simp only [Act.put, List.setIfInBounds_toArray]
    obtain ⟨p', c', w2, hr, hv2, ho2, hp2⟩ := run_append_vec (P := Try.prog) 61 Try.underlying61 infoItem rfl (HV.out #[.int .i64 id, .int .i64 wt] 63) (cx := 1) (by decide) (new_two _ _ _ _) (fun j _ => by split <;> rfl) (by omega) (by omega)
    obtain ⟨k1, k2, k3, k4, k5, k6, k7⟩ := HP.out w2 p' c' _ _ hv2 ho2 hp2
    have HK : Hid (RqM (w2.setCell ⟨P, l, none⟩ (.slice p' (L + 1) c')) R (some ⟨P, 0, none⟩) cl (withQ q l p' c') (t.push l id wt) ∧ Step (qfoot R (some ⟨P, 0, none⟩) q N) (qfoot R (some ⟨P, 0, none⟩) (withQ q l p' c') N) w.drew (w2.setCell ⟨P, l, none⟩ (.slice p' (L + 1) c'))) := ⟨k6, k7⟩
    clear k6 k7 hv2 ho2 hp2
    refine flow_cons _ (.slice p' (L + 1) c') w2 rfl ?run (Or.inl (exec_append rfl rfl rfl hr)) ?next
    case run =>
      clear hr
      intro i o ho hi
      iterate 19 (rcases i with _ | i; · first | (exact absurd hi (by decide)) | (cases ho; go_simp))
      cases ho
    case next =>
      clear hr
      simp only [Act.put]
      refine flow_cons _ undef (w2.setCell ⟨P, l, none⟩ (.slice p' (L + 1) c')) rfl ?run ?eff ?next
      case run =>
        intro i o ho hi
        iterate 19 (rcases i with _ | i; · first | (exact absurd hi (by decide)) | (cases ho; go_simp))
        cases ho
      case eff => first | (left; go_simp; done) | (right; refine ⟨?_, rfl⟩; go_simp; done)
      case next =>
        show Exit.then _ _ Exit.normal _ _
        go_wp2
        go_ret
        exact ⟨rfl, _, HK.out.1, (Step.grown _ (Grown.refl _).drew).trans HK.out.2⟩
end Go.Proofs.Ytecnlciogcanmaa
