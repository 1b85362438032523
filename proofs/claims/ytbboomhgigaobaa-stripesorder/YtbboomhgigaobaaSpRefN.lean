/-
  What New of package pantryref13 makes. No condition but those told at each sentence.
-/
import Derived.Test.YtbboomhgigaobaaSpRefL
namespace Go.Proofs.Ytbboomhgigaobaa.Rn
open Go.RowKit Go.Deep
variable {W w w' w2 : World} {l m : List Ob} {i j k n s N : Nat} {Y : Dp} {ds : Ds} {st : St} {q q' : List Int} {L L' : Int} {p p' : Option Addr} {c c' n' : Nat} {f f' : Nat → Value} {e : TypeId}

theorem infoP : (Try.prog.info? 52).map (fun i => (i.zero, i.size, i.bytes)) = some (some (.pointer none), 1, 8) := by kernel_rfl
/-- Another slice in the place of a struct's own, and its header in the struct. -/
theorem row_put {A : Nat} {ty : TypeId} {cs : Array Value} {tmp : Array Value} {y : TypeId} {u : Ob} (h : Apt W w (l ++ [obBlk A ty cs] ++ [u] ++ m)) (hu : u = obVec e s p n c f) (hv : Vec w2 e s p' n' c' f') (o : Out (In p) (w.alloc (.cells tmp y)) w2)
    (hp : p' = p ∨ p' = some ⟨(w.alloc (.cells tmp y)).heap.size, 0, none⟩) (k : Nat) (v : Value) :
    w2.heap[A]? = some (.cells cs ty (0, 0)) ∧ Apt W (w2.setCell ⟨A, k, none⟩ v) (l ++ [obBlk A ty (cs.setIfInBounds k v)] ++ [obVec e s p' n' c' f'] ++ m) := by
  subst hu
  have g : Grown w (w.alloc (.cells tmp y)) := (Grown.refl w).alloc _ _
  have ha : (l ++ [obBlk A ty cs] ++ [obVec e s p n c f] ++ m)[l.length + 1]? = some (obVec e s p n c f) := by
    rw [List.getElem?_append_left (by simp)]; exact at_end _ _ _
  have h1 := h.upd (o' := obVec e s p' n' c' f') ha hv ⟨Out.after g o, fun k hk => by
    have hk : In p' k := hk
    rcases hp with rfl | rfl
    · exact .inl hk
    · rw [hk.eq, nblk_alloc]; exact .inr (by omega)⟩
  rw [List.set_append_left (h := by simp), show (l ++ [obBlk A ty cs] ++ [obVec e s p n c f]).set (l.length + 1) (obVec e s p' n' c' f') = l ++ [obBlk A ty cs] ++ [obVec e s p' n' c' f'] by
    have := last_set (l ++ [obBlk A ty cs]) (obVec e s p n c f) (obVec e s p' n' c' f')
    rwa [List.length_append] at this] at h1
  have hb : (l ++ [obBlk A ty cs] ++ [obVec e s p' n' c' f'] ++ m)[l.length]? = some (obBlk A ty cs) := by
    rw [List.getElem?_append_left (by simp)]; exact at_mid _ _ _
  have hA : w2.heap[A]? = some (.cells cs ty (0, 0)) := h1.all _ _ hb
  have h2 := h1.upd (o' := obBlk A ty (cs.setIfInBounds k v)) hb (blk_set hA k v) ⟨(Out.refl (fun x => x = A) w2).setCell (a := ⟨A, k, none⟩) rfl v, fun _ => .inl⟩
  rw [List.set_append_left (h := by simp), set_mid] at h2
  exact ⟨hA, h2⟩
def freshD (k : Nat) : Ds := List.replicate k ((none, 0), ([], 0))
theorem freshD_abs (k : Nat) : absD (freshD k) = freshN k := by simp [absD, freshD, freshN]
theorem dRings_succ (a : Nat → Nat) (N k A : Nat) : dRings (fun i => if i < k then a i else A) N (freshD (k + 1)) = dRings a N (freshD k) ++ [obD A N none 0 [] 0] := by
  unfold dRings freshD
  rw [List.replicate_succ', List.mapIdx_concat, List.length_replicate]
  congr 1
  · rw [List.mapIdx_eq_mapIdx_iff]
    intro i hi
    simp at hi
    simp [hi]
  · simp
/-- The struct, a row of rings and the rings, taken together. -/
theorem dp_new {a : Nat → Nat} {A : Nat} {seed : Int} {l2 : List Ob} (h : Apt W w (l ++ [obBlk A 51 #[.slice p k c, .int .i64 seed]] ++ [obVec 52 1 p k c f] ++ l2)) (hf : ∀ i, i < k → f i = ptr (a i)) (hl : l2 = dRings a N (freshD k)) (hk1 : 1 ≤ k) (hk2 : k ≤ 64) :
    Apt W w (l ++ [obDp ⟨A, k, N, seed, a, p, c⟩ (freshD k)]) := by
  have hr : (l ++ [obBlk A 51 #[.slice p k c, .int .i64 seed]] ++ [obVec 52 1 p k c f] ++ l2)[l.length + 1]? = some (obVec 52 1 p k c f) := by
    rw [List.getElem?_append_left (by simp)]; exact at_end _ _ _
  have hb : (l ++ [obBlk A 51 #[.slice p k c, .int .i64 seed]] ++ [obVec 52 1 p k c f] ++ l2)[l.length]? = some (obBlk A 51 #[.slice p k c, .int .i64 seed]) := by
    rw [List.getElem?_append_left (by simp)]; exact at_mid _ _ _
  have hv : Vec w 52 1 p k c f := h.all _ _ hr
  have hA : w.heap[A]? = some (.cells #[.slice p k c, .int .i64 seed] 51 (0, 0)) := h.all _ _ hb
  obtain ⟨Y, hY⟩ : ∃ Y : Dp, Y = ⟨A, k, N, seed, a, p, c⟩ := ⟨_, rfl⟩
  have h6 := h.upd (o' := obVec 52 1 p k c fun j => ptr (a j)) hr (hv.congr fun j hj => hf j (by omega)) (Step.grown _ (Grown.refl _))
  rw [List.set_append_left (h := by simp), show (l ++ [obBlk A 51 #[.slice p k c, .int .i64 seed]] ++ [obVec 52 1 p k c f]).set (l.length + 1) (obVec 52 1 p k c fun j => ptr (a j)) = l ++ [obBlk A 51 #[.slice p k c, .int .i64 seed]] ++ [obVec 52 1 p k c fun j => ptr (a j)] by
    have := last_set (l ++ [obBlk A 51 #[.slice p k c, .int .i64 seed]]) (obVec 52 1 p k c f) (obVec 52 1 p k c fun j => ptr (a j))
    rwa [List.length_append] at this] at h6
  have h7 := h6.upd (i := l.length) (o := obBlk A 51 #[.slice p k c, .int .i64 seed]) (o' := dpH Y k) (by rw [List.getElem?_append_left (by simp)]; exact at_mid _ _ _) ⟨by rw [hY]; exact hA, by rw [hY], by rw [hY]; exact hk1, by rw [hY]; exact hk2⟩ ⟨Out.refl _ _, fun k hk => by
    have hk : k = Y.Y := hk
    rw [hk, hY]; exact .inl rfl⟩
  rw [List.set_append_left (h := by simp), set_mid] at h7
  have h8 : Apt W w (l ++ dpL Y (freshD k)) := by
    have e : l ++ dpL Y (freshD k) = l ++ [dpH Y k] ++ [obVec 52 1 p k c fun j => ptr (a j)] ++ l2 := by
      rw [hl, hY]; simp [dpL, freshD]
    rw [e]; exact h7
  have h9 := h8.packed
  rw [hY] at h9
  exact h9
theorem rnew_p (h : Apt W w l) (cnt size seed : Int) (hk1 : 1 ≤ k) (hk2 : k ≤ 64) (ek : ceilI cnt 1 64 = (k : Int)) (e : ceilI size 1 4096 = (N : Int)) :
    Calls Try.prog 9 #[.int .i64 cnt, .int .i64 size, .int .i64 seed] w fun e w' => ∃ (Y : Dp) (ds : Ds), e = .returned (ptr Y.Y) ∧ Y.k = k ∧ Y.N = N ∧ Y.seed = seed ∧ absD ds = freshN k ∧ Apt W w' (l ++ [obDp Y ds]) := by
  have ce := fun w => refCeil_any cnt 1 64 w (by decide) (by decide) (by decide) (by decide)
  rw [ek] at ce
  have nw := fun w1 l1 (h1 : Apt W w1 l1) => rnew_s h1 size e
  obtain ⟨A, hA⟩ : ∃ A, Hid (A = w.heap.size) := ⟨_, rfl⟩
  have h1 : Hid (Apt W (w.alloc (.cells #[.slice none 0 0, .int .i64 seed] 51)) (l ++ [obBlk A 51 #[.slice none 0 0, .int .i64 seed]] ++ [obVec 52 1 none 0 0 fun _ => undef] ++ dRings (fun _ => 0) N (freshD 0))) := by
    have h2 := h.add (u := obBlk A 51 #[.slice none 0 0, .int .i64 seed]) ((Grown.refl w).alloc #[.slice none 0 0, .int .i64 seed] 51) (by rw [hA.out]; exact blk_alloc_new _ _) fun k hk => by
      have hk : k = A := hk
      rw [hk, hA.out]; exact Nat.le_refl _
    have h3 := h2.add (u := obVec 52 1 none 0 0 fun _ => undef) (Grown.refl _) (Vec.nil _ _ _ _) fun x hx => absurd hx In.no
    have h4 : (l ++ [obBlk A 51 #[.slice none 0 0, .int .i64 seed]] ++ [obVec 52 1 none 0 0 fun _ => undef] ++ dRings (fun _ => 0) N (freshD 0)) = l ++ [obBlk A 51 #[.slice none 0 0, .int .i64 seed]] ++ [obVec 52 1 none 0 0 fun _ => undef] := by simp [dRings, freshD]
    show Apt W _ _
    rw [h4]
    exact h3
  have hmx : Try.prog.follows .mixedOrders = true := by kernel_rfl
  clear ek h e
  unfold ptr at *
  go_enter Try.func9, Try.ntmps9
  go_wp2
  rw [← hA.out]
  go_loopw [8] (fun iv wr => ∃ (j c : Nat) (p : Option Addr) (f : Nat → Value) (a : Nat → Nat), j ≤ k ∧ iv = .int .i64 (j : Int) ∧ (∀ i, i < j → f i = ptr (a i)) ∧ Apt W wr (l ++ [obBlk A 51 #[.slice p j c, .int .i64 seed]] ++ [obVec 52 1 p j c f] ++ dRings a N (freshD j))) (fun iv _ => k - (intOf iv).toNat)
  case atStart => exact ⟨0, 0, none, _, fun _ => 0, by omega, rfl, fun i hi => by omega, h1.out⟩
  case round =>
    clear h1 hA
    obtain ⟨j, c, p, f, a, hj, rfl, hf, hx⟩ := hrel
    obtain ⟨l2, hl2⟩ : ∃ l2, Hid (l2 = dRings a N (freshD j)) := ⟨_, rfl⟩
    rw [← hl2.out] at hx
    have hf : Hid (∀ i, i < j → f i = ptr (a i)) := hf
    by_cases hlt : j < k
    · have hd : decide ((j : Int) < (k : Int)) = true := by rw [decide_eq_true_eq]; omega
      obtain ⟨v, hv⟩ : ∃ v : Ob, Hid (v = obVec 52 1 p j c f) := ⟨_, rfl⟩
      rw [← hv.out] at hx
      have hx : Hid (Apt W wr (l ++ [obBlk A 51 #[.slice p j c, .int .i64 seed]] ++ [v] ++ l2)) := hx
      have cA : ∀ {w1 : World} {m : List Ob} {cs : Array Value}, Apt W w1 (l ++ [obBlk A 51 cs] ++ [v] ++ m) → w1.heap[A]? = some (.cells cs 51 (0, 0)) := fun {w1 m cs} h => h.all l.length (obBlk A 51 cs) (by rw [List.getElem?_append_left (by simp)]; exact at_mid _ _ _)
      have vA : ∀ {w1 : World} {m : List Ob} {cs : Array Value}, Apt W w1 (l ++ [obBlk A 51 cs] ++ [v] ++ m) → Vec w1 52 1 p j c f := fun {w1 m cs} h => h.all (l.length + 1) (obVec 52 1 p j c f) (by rw [List.getElem?_append_left (by simp), ← hv.out]; exact at_end _ _ _)
      have c0 : wr.cell? ⟨A, 0, none⟩ = some (.slice p j c) := cell_of (cA hx.out) rfl
      have lA : A < wr.heap.size := cell_lt c0
      have a1 := nw _ _ hx.out.drew
      go_wp2_with (go_at_call 27; refine (ce _).mono ?_; rintro e w' ⟨rfl, rfl⟩)
      refine region_fill [6, 7, 8, 11] [(18, .pointer (some ⟨A, 0, none⟩)), (19, .pointer (some ⟨A, 0, none⟩)), (20, .pointer (some ⟨A, 0, none⟩)), (21, .pointer (some ⟨A, 0, none⟩)), (22, .slice p j c), (23, .int .i64 size), (27, .pointer (some ⟨A, 0, none⟩)), (28, .pointer (some ⟨A, 0, none⟩))] hmx (by kernel_rfl) (by kernel_rfl) ?_
      simp only [fills, Act.put, List.setIfInBounds_toArray, List.set_cons_zero, List.set_cons_succ]
      refine flow_ent (some 24) 28 #[.int .i64 size] _ rfl rfl ?run (by go_simp) (a1.mono ?_)
      case run =>
        clear a1 ce nw cA vA
        intro i o ho hi
        iterate 12 (rcases i with _ | i; · first | (exact absurd hi (by decide)) | (cases ho; go_simp))
        cases ho
      rintro e w1 ⟨B, rfl, h2⟩
      refine ⟨_, rfl, ?_⟩
      simp only [Act.put, List.setIfInBounds_toArray, List.set_cons_zero, List.set_cons_succ]
      rw [List.append_assoc] at h2
      have h2 : Hid (Apt W w1 (l ++ [obBlk A 51 #[.slice p j c, .int .i64 seed]] ++ [v] ++ (l2 ++ [obD B N none 0 [] 0]))) := h2
      have c0 : w1.cell? ⟨A, 0, none⟩ = some (.slice p j c) := cell_of (cA h2.out) rfl
      have lA : A < w1.heap.size := cell_lt c0
      clear a1
      refine flow_val (some 25) (.slice (some ⟨w1.heap.size, 0, none⟩) 1 1) (w1.alloc (.cells #[.pointer (some ⟨B, 0, none⟩)] 52)) _ rfl rfl ?run (by go_simp) ?_
      case run =>
        clear ce nw cA vA
        intro i o ho hi
        iterate 12 (rcases i with _ | i; · first | (exact absurd hi (by decide)) | (cases ho; go_simp))
        cases ho
      simp only [Act.put, List.setIfInBounds_toArray, List.set_cons_zero, List.set_cons_succ]
      obtain ⟨p', c', w2, hr, hv2, ho2, hp2⟩ := run_append_vec (P := Try.prog) 49 Try.underlying49 infoP rfl ((vA h2.out).grown ((Grown.refl _).alloc #[.pointer (some ⟨B, 0, none⟩)] 52)) (cx := 1) (by decide) (new_int _ _ _) (fun _ _ => rfl) (by omega) (by omega)
      obtain ⟨k1, k2⟩ := row_put h2.out hv.out hv2 ho2 hp2 0 (.slice p' (j + 1) c')
      have K2 : Hid (Apt W (w2.setCell ⟨A, 0, none⟩ (.slice p' (j + 1) c')) _) := k2
      have c2 : w2.cell? ⟨A, 0, none⟩ = some (.slice p j c) := cell_of k1 rfl
      have f2 : w2.frozen? ⟨A, 0, none⟩ = false := fr0 k1 0
      have lA2 : A < w2.heap.size := cell_lt c2
      have c1 : (w1.alloc (.cells #[.pointer (some ⟨B, 0, none⟩)] 52)).cell? ⟨A, 0, none⟩ = some (.slice p j c) := by
        rw [← c0]
        simp only [World.cell?, grown_block ((Grown.refl w1).alloc #[.pointer (some ⟨B, 0, none⟩)] 52) lA]
      have lA1 : A < (w1.alloc (.cells #[.pointer (some ⟨B, 0, none⟩)] 52)).heap.size := cell_lt c1
      clear hv2 ho2 hp2 k1 k2 cA vA ce nw h2
      refine flow_val (some 26) (.slice p' (j + 1) c') w2 _ rfl rfl ?run (exec_append rfl rfl rfl hr) ?_
      case run =>
        clear hr
        intro i o ho hi
        iterate 12 (rcases i with _ | i; · first | (exact absurd hi (by decide)) | (cases ho; go_simp))
        cases ho
      clear hr c1 lA1 c0 lA
      simp only [Act.put, List.setIfInBounds_toArray, List.set_cons_zero, List.set_cons_succ]
      refine flow_cons _ undef (w2.setCell ⟨A, 0, none⟩ (.slice p' (j + 1) c')) rfl ?run ?eff ?next
      case run =>
        intro i o ho hi
        iterate 12 (rcases i with _ | i; · first | (exact absurd hi (by decide)) | (cases ho; go_simp))
        cases ho
      case eff => first | (left; go_simp; done) | (right; refine ⟨?_, rfl⟩; go_simp; done)
      case next =>
        simp only [Act.put]
        show Exit.inBlock 1 (Exit.then _ _) Exit.normal _ _
        clear c2 f2 lA2
        go_wp2
        go_roundw
        case rel =>
          refine ⟨j + 1, c', p', fun i => if i < j * 1 then f i else .pointer (some ⟨B, 0, none⟩), fun i => if i < j then a i else B, by omega, by go_num, fun i hi => ?_, ?_⟩
          rotate_left
          · rw [dRings_succ, ← hl2.out]; exact K2.out
          · by_cases e : i < j
            · simp only [if_pos e]
              rw [if_pos (show i < j * 1 by omega)]
              exact hf.out i e
            · simp only [if_neg e]
              rw [if_neg (show ¬ i < j * 1 by omega)]
              rfl
        case measure => simp [intOf]; omega
    · obtain rfl : j = k := by omega
      have hd : decide ((j : Int) < (j : Int)) = false := by rw [decide_eq_false_iff_not]; omega
      go_wp2_with (go_at_call 27; refine (ce _).mono ?_; rintro e w' ⟨rfl, rfl⟩)
      go_ret
      exact ⟨⟨A, j, N, seed, a, p, c⟩, freshD j, rfl, rfl, rfl, rfl, freshD_abs j, dp_new hx hf.out hl2.out hk1 hk2⟩
end Go.Proofs.Ytbboomhgigaobaa.Rn
