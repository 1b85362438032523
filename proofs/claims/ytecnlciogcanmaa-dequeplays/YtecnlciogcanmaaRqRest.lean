/-
  The document's own lists: what New, Reweigh, All, Front, Back, Of, Weight and Len of package pantryref07 do when they are called.
-/
import Derived.Test.YtecnlciogcanmaaRqTake
namespace Go.Proofs.Ytecnlciogcanmaa
open Go.RowKit Go.Deep
variable {w w' : World} {R P : Nat} {pl : Option Addr} {cl : Nat} {q : Nat → Option Addr × Nat} {t : Ds}

theorem rreweigh_no (h : RqM w R pl cl q t) (hw : t.Wf) (hlen : ∀ i, (t.L i).length ≤ 65536) {id : Int} (wt : Int) (hf : t.find id = none) :
    Calls Try.prog 18 #[ptr R, .int .i64 id, .int .i64 wt] w fun e w' => e = .returned (.int .i64 3) ∧ w' = w := by
  have fd := find_no h hw hlen hf
  clear h hf
  unfold ptr at *
  go_enter Try.func18, Try.ntmps18
  go_wp2_with (first | (go_at_call 35; refine fd.mono ?_; rintro e w' ⟨rfl, rfl⟩))
  go_ret
  exact ⟨rfl, rfl⟩
theorem rreweigh_arg (h : RqM w R pl cl q t) (hw : t.Wf) (hlen : ∀ i, (t.L i).length ≤ 65536) {id v : Int} {i : Nat} (wt : Int) (hf : t.find id = some (i, v)) (hl : Ds.mayWeigh wt = false) :
    Calls Try.prog 18 #[ptr R, .int .i64 id, .int .i64 wt] w fun e w' => e = .returned (.int .i64 1) ∧ w' = w := by
  obtain ⟨k, _, fd⟩ := find_yes h hw hlen hf
  have hh := fine_m wt w
  rw [hl] at hh
  have d0 : decide ((i : Int) < 0) = false := by rw [decide_eq_false_iff_not]; omega
  clear h hf hl
  unfold ptr at *
  go_enter Try.func18, Try.ntmps18
  go_wp2_with (first | (go_at_call 35; refine fd.mono ?_; rintro e w' ⟨rfl, rfl⟩) | (go_at_call 34; refine hh.mono ?_; rintro e w' ⟨rfl, rfl⟩))
  go_ret
  exact ⟨rfl, rfl⟩
theorem map_at {l : List (Int × Int)} {k : Nat} {id v wt : Int} (hd : (l.map (·.1)).Nodup) (hk : l[k]? = some (id, v)) : (l.map fun p => if p.1 = id then (id, wt) else p) = l.set k (id, wt) := by
  obtain ⟨hlt, hg⟩ := List.getElem?_eq_some_iff.1 hk
  refine List.ext_getElem (by simp) fun j h1 h2 => ?_
  rw [List.getElem_map, List.getElem_set]
  have hj : j < l.length := by simpa using h1
  by_cases e : k = j
  · subst e
    rw [if_pos rfl, if_pos (by rw [hg])]
  · rw [if_neg e, if_neg]
    intro he
    rcases Nat.lt_or_gt_of_ne e with c | c
    · exact absurd (show (l.map (·.1))[k]'(by simpa using hlt) = (l.map (·.1))[j]'(by simpa using hj) by simp [hg, he]) (List.pairwise_iff_getElem.1 hd k j (by simpa using hlt) (by simpa using hj) c)
    · exact absurd (show (l.map (·.1))[j]'(by simpa using hj) = (l.map (·.1))[k]'(by simpa using hlt) by simp [hg, he]) (List.pairwise_iff_getElem.1 hd j k (by simpa using hj) (by simpa using hlt) c)
/-- A weight, written. -/
theorem RqM.weighed (h : RqM w R pl cl q t) (hw : t.Wf) {id v wt : Int} {i k B : Nat} (hf : t.find id = some (i, v)) (hk : (t.L i)[k]? = some (id, v)) (hB : (q i).1 = some ⟨B, 0, none⟩) :
    RqM (w.setCell ⟨B, k * 2 + 1, none⟩ (.int .i64 wt)) R pl cl q (t.reweigh id wt) ∧ Out (qfoot R pl q t.n) w (w.setCell ⟨B, k * 2 + 1, none⟩ (.int .i64 wt)) := by
  have hi : i < t.n := hw.lt (Ds.find_mem hf)
  have hlt := (List.getElem?_eq_some_iff.1 hk).1
  have hvi := h.inner i hi
  rw [hB] at hvi
  have hBi : In (q i).1 B := by rw [hB]; exact In.self B
  have o : Out (fun x => x = B) w (w.setCell ⟨B, k * 2 + 1, none⟩ (.int .i64 wt)) := (Out.refl (fun x => x = B) w).setCell (a := ⟨B, k * 2 + 1, none⟩) rfl _
  have hrow : ∀ j, (t.reweigh id wt).L j = if j = i then (t.L i).set k (id, wt) else t.L j := fun j => by
    show (t.L j).map _ = _
    by_cases e : j = i
    · subst e
      rw [if_pos rfl]
      exact map_at (hw.dup j) hk
    · rw [if_neg e]
      have : (t.L j).map (fun p => if p.1 = id then (id, wt) else p) = (t.L j).map (fun p => p) := List.map_congr_left fun p hp => if_neg fun he => e (hw.uniq j i p (id, v) hp (Ds.find_mem hf) he).1
      rw [this]; simp
  have hl : ∀ j, ((t.reweigh id wt).L j).length = (t.L j).length := fun j => by show ((t.L j).map _).length = _; simp
  refine ⟨⟨?_, ?_, fun j hj => ?_, h.apart⟩, o.wide fun x _ hx => Or.inr (Or.inr ⟨i, hi, by rw [hx]; exact hBi⟩)⟩
  · exact (o.block R (lt_of h.head) (fun e => vec_ne (h.inner i hi) h.head (by decide) (by rw [e]; exact hBi))).trans h.head
  · refine (h.outer.out o fun x hx e => vec_apart h.outer (h.inner i hi) (by decide) x hx (by rw [e]; exact hBi)).congr fun j _ => ?_
    rw [hl]
  · have hj : j < t.n := hj
    rw [hl j, hrow j]
    by_cases e : j = i
    · subst e
      rw [if_pos rfl, hB]
      refine (hvi.set (k * 2 + 1) (.int .i64 wt)).congr fun x hx => ?_
      refine itC_eq (n := (t.L j).length) (f := fun x => if x = k * 2 + 1 then .int .i64 wt else itC (t.L j) x) (fun a ha => ?_) (fun a ha => ?_) x hx
      · show (if a * 2 = k * 2 + 1 then _ else _) = _
        rw [if_neg (by omega), itC0, List.getD_eq_getElem?_getD, List.getD_eq_getElem?_getD, List.getElem?_set]
        by_cases e : k = a
        · subst e; rw [if_pos rfl, if_pos hlt, hk]; rfl
        · rw [if_neg e]
      · show (if a * 2 + 1 = k * 2 + 1 then _ else _) = _
        rw [List.getD_eq_getElem?_getD, List.getElem?_set]
        by_cases e : k = a
        · subst e; rw [if_pos rfl, if_pos rfl, if_pos hlt]; rfl
        · rw [if_neg (by omega), if_neg e, itC1, List.getD_eq_getElem?_getD]
    · rw [if_neg e]
      exact (h.inner j hj).out o fun x hx hxB => h.apart j i hj hi e x hx (by rw [hxB]; exact hBi)
theorem rreweigh_ok (h : RqM w R pl cl q t) (hw : t.Wf) (hlen : ∀ i, (t.L i).length ≤ 65536) {id v : Int} {i : Nat} (wt : Int) (hf : t.find id = some (i, v)) (hl : Ds.mayWeigh wt = true) :
    Calls Try.prog 18 #[ptr R, .int .i64 id, .int .i64 wt] w fun e w' => e = .returned (.int .i64 0) ∧ RqM w' R pl cl q (t.reweigh id wt) ∧ Out (qfoot R pl q t.n) w w' := by
  obtain ⟨k, hk, fd⟩ := find_yes h hw hlen hf
  have hh := fine_m wt w
  rw [hl] at hh
  have d0 : decide ((i : Int) < 0) = false := by rw [decide_eq_false_iff_not]; omega
  have hi : i < t.n := hw.lt (Ds.find_mem hf)
  have hkl := (List.getElem?_eq_some_iff.1 hk).1
  have c0 := h.cell0
  have lR := lt_of h.head
  have hn := hw.cap
  obtain ⟨P, rfl, lP, cP, fP, hcl⟩ := h.ofRow hi
  obtain ⟨B, hB, lB, _, e1, fB, hqc⟩ := h.item hi hkl
  have hL := hlen i
  have HK : Hid (RqM (w.setCell ⟨B, k * 2 + 1, none⟩ (.int .i64 wt)) R (some ⟨P, 0, none⟩) cl q (t.reweigh id wt) ∧ Out (qfoot R (some ⟨P, 0, none⟩) q t.n) w (w.setCell ⟨B, k * 2 + 1, none⟩ (.int .i64 wt))) := h.weighed hw hf hk hB
  rw [hB] at cP
  obtain ⟨N, HN⟩ : ∃ N, Hid (N = t.n) := ⟨_, rfl⟩
  obtain ⟨L, HL⟩ : ∃ L, Hid (L = (t.L i).length) := ⟨_, rfl⟩
  rw [← HN.out] at c0 hcl hn hi HK ⊢
  rw [← HL.out] at cP hqc hL hkl
  generalize hq2 : (q i).2 = qc at *
  clear h hf hl hw hlen hk
  unfold ptr at *
  go_enter Try.func18, Try.ntmps18
  go_wp2_with (first | (go_at_call 35; refine fd.mono ?_; rintro e w' ⟨rfl, hw'⟩; have hw' := hw'.symm; subst hw') | (go_at_call 34; refine hh.mono ?_; rintro e w' ⟨rfl, hw'⟩; have hw' := hw'.symm; subst hw'))
  go_ret
  exact ⟨rfl, HK.out.1, HK.out.2⟩
theorem rof_no (h : RqM w R pl cl q t) (hw : t.Wf) (hlen : ∀ i, (t.L i).length ≤ 65536) {id : Int} (hf : t.find id = none) :
    Calls Try.prog 20 #[ptr R, .int .i64 id] w fun e w' => e = .returned (.tuple #[.int .i64 (-1), .int .i64 0]) ∧ ∃ d, w' = w.drewN d := by
  have fd := find_no h hw hlen hf
  clear h hf
  unfold ptr at *
  go_enter Try.func20, Try.ntmps20
  go_wp2_with (first | (go_at_call 35; refine fd.mono ?_; rintro e w' ⟨rfl, hw'⟩; have hw' := hw'.symm; subst hw'))
  go_ret2
  exact ⟨rfl, 0, rfl⟩
theorem rof_yes (h : RqM w R pl cl q t) (hw : t.Wf) (hlen : ∀ i, (t.L i).length ≤ 65536) {id v : Int} {i : Nat} (hf : t.find id = some (i, v)) :
    Calls Try.prog 20 #[ptr R, .int .i64 id] w fun e w' => e = .returned (.tuple #[.int .i64 (i : Int), .int .i64 v]) ∧ ∃ d, w' = w.drewN d := by
  obtain ⟨k, hk, fd⟩ := find_yes h hw hlen hf
  have d0 : decide ((i : Int) < 0) = false := by rw [decide_eq_false_iff_not]; omega
  have hi : i < t.n := hw.lt (Ds.find_mem hf)
  have hkl := (List.getElem?_eq_some_iff.1 hk).1
  have c0 := h.cell0
  have lR := lt_of h.head
  have hn := hw.cap
  obtain ⟨P, rfl, lP, cP, fP, hcl⟩ := h.ofRow hi
  obtain ⟨B, hB, lB, _, e1, fB, hqc⟩ := h.item hi hkl
  have hv : ((t.L i).getD k (0, 0)).2 = v := by rw [List.getD_eq_getElem?_getD, hk]; rfl
  rw [hv] at e1
  have hL := hlen i
  rw [hB] at cP
  obtain ⟨N, HN⟩ : ∃ N, Hid (N = t.n) := ⟨_, rfl⟩
  obtain ⟨L, HL⟩ : ∃ L, Hid (L = (t.L i).length) := ⟨_, rfl⟩
  rw [← HN.out] at c0 hcl hn hi
  rw [← HL.out] at cP hqc hL hkl
  generalize hq2 : (q i).2 = qc at *
  clear h hf hw hlen hk hv fB fP
  have hiI : (i : Int) < (N : Int) := by omega
  have hkI : (k : Int) < (L : Int) := by omega
  unfold ptr at *
  go_enter Try.func20, Try.ntmps20
  go_wp2_with (first | (go_at_call 35; refine fd.mono ?_; rintro e w' ⟨rfl, hw'⟩; have hw' := hw'.symm; subst hw'))
  go_quiet (fail)
  go_wp2
  go_ret2
  exact ⟨rfl, _, rfl⟩
end Go.Proofs.Ytecnlciogcanmaa
