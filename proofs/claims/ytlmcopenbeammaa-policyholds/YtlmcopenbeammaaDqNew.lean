/-
  Lists of package deque: what New does when it is called.
-/
import Derived.Test.YtlmcopenbeammaaDqTake
import Derived.Test.YtlmcopenbeammaaGenObj
import Derived.Test.YtlmcopenbeammaaGenIter
namespace Go.Proofs.Ytlmcopenbeammaa
open Go.RowKit Go.Deep
variable {w w' : World} {X : Nat} {pr : Option Addr} {cr M : Nat} {g : Gh} {m : Int → Option Nat}

/-- One empty row more. -/
def Gh.more (g : Gh) (R H : Nat) : Gh := ⟨g.n + 1, fun i => if i = g.n then R else g.r i, fun i => if i = g.n then H else g.h i, fun i => if i = g.n then [] else g.B i, fun b => if b = H then ⟨0, 0, 0, H, H⟩ else g.E b⟩
theorem Gh.more_wf {R H : Nat} (hw : g.Wf) (hn : g.n < 16) (hR : ¬ rfoot g R) (hH : ¬ rfoot g H) : (g.more R H).Wf := by
  have nh : ∀ i, i < g.n → ∀ b ∈ g.h i :: g.B i, b ≠ H := fun i hi b hb q => hH ⟨i, hi, Or.inr (by rw [← q]; exact hb)⟩
  have lt : ∀ {i}, i < (g.more R H).n → i = g.n ∨ (i ≠ g.n ∧ i < g.n) := fun {i} hi => by have hi : i < g.n + 1 := hi; omega
  have hr : ∀ {i}, i ≠ g.n → (g.more R H).r i = g.r i := fun h => if_neg h
  have hh : ∀ {i}, i ≠ g.n → (g.more R H).h i = g.h i := fun h => if_neg h
  have hB : ∀ {i}, i ≠ g.n → (g.more R H).B i = g.B i := fun h => if_neg h
  have hB0 : (g.more R H).B g.n = [] := if_pos rfl
  have hh0 : (g.more R H).h g.n = H := if_pos rfl
  have hr0 : (g.more R H).r g.n = R := if_pos rfl
  have hE : ∀ {b}, b ≠ H → (g.more R H).E b = g.E b := fun h => if_neg h
  have hE0 : (g.more R H).E H = ⟨0, 0, 0, H, H⟩ := if_pos rfl
  have mem : ∀ {i b}, i < (g.more R H).n → b ∈ (g.more R H).B i → i < g.n ∧ b ∈ g.B i ∧ (g.more R H).E b = g.E b := fun {i b} hi hb => by
    rcases lt hi with q | ⟨q1, q2⟩
    · rw [q, hB0] at hb; exact absurd hb List.not_mem_nil
    · rw [hB q1] at hb; exact ⟨q2, hb, hE (nh i q2 b (List.mem_cons_of_mem _ hb))⟩
  refine ⟨by show g.n + 1 ≤ 16; omega, fun i hi => ?_, fun i hi => ?_, fun i hi b hb => ?_, fun i hi => ?_, fun i j b c hi hj hb hc h => ?_, fun i j hi hj h => ?_, fun i j hi hj h => ?_⟩
  · rcases lt hi with q | ⟨q1, q2⟩
    · rw [q, hB0, hh0]
      exact ⟨by rw [hE0], by rw [hE0], trivial⟩
    · rw [hB q1, hh q1]
      exact (hw.ring i q2).same fun b hb => by rw [hE (nh i q2 b hb)]; exact ⟨rfl, rfl⟩
  · rcases lt hi with q | ⟨q1, q2⟩
    · rw [q, hh0, hE0]
    · rw [hh q1, hE (nh i q2 _ (by simp))]; exact hw.hd i q2
  · obtain ⟨h1, h2, h3⟩ := mem hi hb
    rw [h3]; exact hw.els i h1 b h2
  · rcases lt hi with q | ⟨q1, q2⟩
    · rw [q, hB0]; exact List.nodup_nil
    · rw [hB q1]; exact hw.dup i q2
  · obtain ⟨h1, h2, h3⟩ := mem hi hb
    obtain ⟨k1, k2, k3⟩ := mem hj hc
    rw [h3, k3] at h
    exact hw.uniq i j b c h1 k1 h2 k2 h
  · rcases lt hi with q | ⟨q1, q2⟩
    · rcases lt hj with p | ⟨p1, p2⟩
      · rw [q, p]
      · rw [q, hr0, hr p1] at h; exact absurd ⟨j, p2, Or.inl h⟩ hR
    · rcases lt hj with p | ⟨p1, p2⟩
      · rw [p, hr0, hr q1] at h; exact absurd ⟨i, q2, Or.inl h.symm⟩ hR
      · rw [hr q1, hr p1] at h; exact hw.rinj i j q2 p2 h
  · rcases lt hi with q | ⟨q1, q2⟩
    · rcases lt hj with p | ⟨p1, p2⟩
      · rw [q, p]
      · rw [q, hh0, hh p1] at h; exact absurd h.symm (nh j p2 _ (by simp))
    · rcases lt hj with p | ⟨p1, p2⟩
      · rw [p, hh0, hh q1] at h; exact absurd h (nh i q2 _ (by simp))
      · rw [hh q1, hh p1] at h; exact hw.hinj i j q2 p2 h
theorem DqM.grew (h : DqM w X pr cr M g m) (hn : g.n < 16) {R H : Nat} (hH : ElOn w H ⟨0, 0, 0, H, H⟩) (hR : RwOn w R H 0 0) (fR : ¬ rfoot g R) (fH : ¬ rfoot g H) {w2 : World} {p' : Option Addr} {c' : Nat} {tmp : Array Value} {y : TypeId}
    (hv : Vec w2 75 1 p' (g.n + 1) c' (fun j => if j < g.n * 1 then ptr (g.r j) else ptr R)) (o : Out (In pr) (w.alloc (.cells tmp y)) w2) (hp : p' = pr ∨ p' = some ⟨(w.alloc (.cells tmp y)).heap.size, 0, none⟩) :
    (w2.cell? ⟨X, 0, none⟩ = some (.slice pr g.n cr) ∧ w2.frozen? ⟨X, 0, none⟩ = false) ∧ DqM (w2.setCell ⟨X, 0, none⟩ (.slice p' (g.n + 1) c')) X p' c' M (g.more R H) m ∧ Out (dfoot X pr M g) w (w2.setCell ⟨X, 0, none⟩ (.slice p' (g.n + 1) c')) ∧ ∀ k, dfoot X p' M (g.more R H) k → dfoot X pr M g k ∨ k = R ∨ k = H ∨ w.heap.size ≤ k := by
  have hx := h.core.xrow
  have hne := h.core.mne h.map
  have hold : Hold w X 74 #[.slice pr g.n cr, .map (some M)] [⟨75, 1, pr, g.n, cr, fun j => ptr (g.r j)⟩] := by
    refine ⟨h.core.head, fun i V hi => ?_, fun i V hi => ?_, fun i j V U hi hj hij => ?_⟩
    · rcases i with _ | i
      · cases hi; exact h.core.vec
      · simp at hi
    · rcases i with _ | i
      · cases hi; exact hx.1
      · simp at hi
    · rcases i with _ | i
      · rcases j with _ | j
        · exact absurd rfl hij
        · simp at hj
      · simp at hi
  obtain ⟨a1, a2, a3, a4⟩ := hold.append (i := 0) (k := 0) rfl rfl hv o hp
  have nf : ∀ {k : Nat}, k < w.heap.size → k ≠ X → ¬ In pr k → (w2.setCell ⟨X, 0, none⟩ (.slice p' (g.n + 1) c')).heap[k]? = w.heap[k]? := fun {k} hk h1 h2 => a4.out.block k hk (fun f => by
    rcases f with f | ⟨i, V, hi, f⟩
    · exact h1 f
    · rcases i with _ | i
      · cases hi; exact h2 f
      · simp at hi)
  have keep : ∀ {k : Nat} {o : Obj}, w.heap[k]? = some o → k ≠ X → ¬ In pr k → (w2.setCell ⟨X, 0, none⟩ (.slice p' (g.n + 1) c')).heap[k]? = some o := fun {k o} hk h1 h2 => (nf (lt_of hk) h1 h2).trans hk
  have keepEl : ∀ {b : Nat} {x : El}, ElOn w b x → ElOn (w2.setCell ⟨X, 0, none⟩ (.slice p' (g.n + 1) c')) b x := fun {b x} hb => keep hb (fun q => by
    have := h.core.head
    unfold ElOn at hb
    rw [← q, hb] at this
    cases this) (vec_ne h.core.vec hb (by decide))
  have keepRw : ∀ {b H : Nat} {W L : Int}, RwOn w b H W L → RwOn (w2.setCell ⟨X, 0, none⟩ (.slice p' (g.n + 1) c')) b H W L := fun {b H W L} hb => keep hb (fun q => by
    have := h.core.head
    unfold RwOn at hb
    rw [← q, hb] at this
    cases this) (vec_ne h.core.vec hb (by decide))
  refine ⟨⟨a1, a2⟩, ⟨⟨Gh.more_wf h.core.wf hn fR fH, a3.head, ?_, fun i hi => ?_, fun i hi b hb => ?_⟩, h.map.keep (nf h.map.lt hne.1.symm hne.2.1), fun x b => ?_⟩, ⟨a4.out.os, a4.out.output, a4.out.froz, a4.out.size, fun k hk hf => nf hk (fun q => hf (Or.inl q)) (fun q => hf (Or.inr (Or.inl q)))⟩, fun k hk => ?_⟩
  · have hv3 : Vec (w2.setCell ⟨X, 0, none⟩ (.slice p' (g.n + 1) c')) 75 1 p' (g.n + 1) c' (fun j => if j < g.n * 1 then ptr (g.r j) else ptr R) := a3.vec 0 _ rfl
    refine hv3.congr fun j hj => ?_
    show (if j < g.n * 1 then ptr (g.r j) else ptr R) = ptr (if j = g.n then R else g.r j)
    by_cases q : j = g.n
    · rw [if_neg (by omega), if_pos q]
    · rw [if_pos (by omega), if_neg q]
  · have hi : i < g.n + 1 := hi
    by_cases q : i = g.n
    · subst q
      have e1 : (g.more R H).r g.n = R := if_pos rfl
      have e2 : (g.more R H).h g.n = H := if_pos rfl
      have e3 : (g.more R H).B g.n = [] := if_pos rfl
      unfold Gh.sum
      rw [e1, e2, e3]
      exact keepRw hR
    · have e1 : (g.more R H).r i = g.r i := if_neg q
      have e2 : (g.more R H).h i = g.h i := if_neg q
      have e3 : (g.more R H).B i = g.B i := if_neg q
      have e4 : (g.more R H).sum i = g.sum i := by
        unfold Gh.sum
        rw [e3]
        congr 1
        refine List.map_congr_left fun b hb => ?_
        rw [show (g.more R H).E b = g.E b from if_neg fun y => fH ⟨i, by omega, Or.inr (by rw [← y]; exact List.mem_cons_of_mem _ hb)⟩]
      rw [e1, e2, e3, e4]
      exact keepRw (h.core.rows i (by omega))
  · have hi : i < g.n + 1 := hi
    by_cases q : i = g.n
    · subst q
      rw [show (g.more R H).h g.n = H from if_pos rfl, show (g.more R H).B g.n = [] from if_pos rfl] at hb
      simp at hb
      subst hb
      rw [show (g.more R b).E b = ⟨0, 0, 0, b, b⟩ from if_pos rfl]
      exact keepEl hH
    · rw [show (g.more R H).h i = g.h i from if_neg q, show (g.more R H).B i = g.B i from if_neg q] at hb
      rw [show (g.more R H).E b = g.E b from if_neg fun y => fH ⟨i, by omega, Or.inr (by rw [← y]; exact hb)⟩]
      exact keepEl (h.core.els i (by omega) b hb)
  · rw [h.mp x b]
    constructor
    · rintro ⟨i, hi, hb, hx⟩
      refine ⟨i, by show i < g.n + 1; omega, by rw [show (g.more R H).B i = g.B i from if_neg (by omega)]; exact hb, ?_⟩
      rw [show (g.more R H).E b = g.E b from if_neg fun y => fH ⟨i, hi, Or.inr (by rw [← y]; exact List.mem_cons_of_mem _ hb)⟩]
      exact hx
    · rintro ⟨i, hi, hb, hx⟩
      have hi : i < g.n + 1 := hi
      by_cases q : i = g.n
      · rw [q, show (g.more R H).B g.n = [] from if_pos rfl] at hb
        exact absurd hb List.not_mem_nil
      · rw [show (g.more R H).B i = g.B i from if_neg q] at hb
        rw [show (g.more R H).E b = g.E b from if_neg fun y => fH ⟨i, by omega, Or.inr (by rw [← y]; exact List.mem_cons_of_mem _ hb)⟩] at hx
        exact ⟨i, by omega, hb, hx⟩
  · rcases hk with hk | hk | hk | ⟨i, hi, hk⟩
    · exact Or.inl (Or.inl hk)
    · rcases hp with rfl | rfl
      · exact Or.inl (Or.inr (Or.inl hk))
      · have := hk.eq
        rw [nblk_alloc] at this
        exact Or.inr (Or.inr (Or.inr (by omega)))
    · exact Or.inl (Or.inr (Or.inr (Or.inl hk)))
    · have hi : i < g.n + 1 := hi
      by_cases q : i = g.n
      · subst q
        rw [show (g.more R H).r g.n = R from if_pos rfl, show (g.more R H).h g.n = H from if_pos rfl, show (g.more R H).B g.n = [] from if_pos rfl] at hk
        rcases hk with hk | hk
        · exact Or.inr (Or.inl hk)
        · simp at hk; exact Or.inr (Or.inr (Or.inl hk))
      · rw [show (g.more R H).r i = g.r i from if_neg q, show (g.more R H).h i = g.h i from if_neg q, show (g.more R H).B i = g.B i from if_neg q] at hk
        exact Or.inl (Or.inr (Or.inr (Or.inr ⟨i, by omega, hk⟩)))

def rowsI (lists : Int) : Nat := (min (max lists 0) 16).toNat
theorem rowsI_le (lists : Int) : rowsI lists ≤ 16 := by unfold rowsI; omega
theorem infoRowD : (Try.prog.info? 75).map (fun i => (i.zero, i.size, i.bytes)) = some (some (.pointer none), 1, 8) := by kernel_rfl
theorem new_ptr (w : World) (v : Value) (t : TypeId) : ∀ j, j < 1 * 1 → (w.alloc (.cells #[v] t)).cell? ((⟨w.heap.size, 0, none⟩ : Addr).add j) = some v := fun j hj => by
  have : j = 0 := by omega
  subst this
  have e : (⟨w.heap.size, 0, none⟩ : Addr).add 0 = ⟨w.heap.size, 0, none⟩ := by unfold Addr.add; split <;> simp_all
  rw [e]
  exact cell_of (blk_alloc_new _ _) rfl
/-- The empty lists that New begins with. -/
theorem DqM.start (w : World) : DqM ((w.alloc (.map #[] 0)).alloc (.cells #[.slice none 0 0, .map (some w.heap.size)] 74)) (w.heap.size + 1) none 0 w.heap.size ⟨0, fun _ => 0, fun _ => 0, fun _ => [], fun _ => ⟨0, 0, 0, 0, 0⟩⟩ (fun _ => none) := by
  refine ⟨⟨⟨by show (0 : Nat) ≤ 16; omega, fun i hi => absurd hi (Nat.not_lt_zero i), fun i hi => absurd hi (Nat.not_lt_zero i), fun i hi => absurd hi (Nat.not_lt_zero i), fun i hi => absurd hi (Nat.not_lt_zero i), fun i _ _ _ hi => absurd hi (Nat.not_lt_zero i), fun i _ hi => absurd hi (Nat.not_lt_zero i), fun i _ hi => absurd hi (Nat.not_lt_zero i)⟩, heap2_new _ _ _, Vec.nil _ _ _ _, fun i hi => absurd hi (Nat.not_lt_zero i), fun i hi => absurd hi (Nat.not_lt_zero i)⟩, ?_, fun x b => ⟨fun h => (by cases h), fun ⟨i, hi, _⟩ => absurd hi (Nat.not_lt_zero i)⟩⟩
  exact (MapV.made Try.prog 3 w 1 65536 (.pointer none)).keep (grown_block ((Grown.refl _).alloc _ _) (by simp))

/-- What a round of New finds behind newRow, append and the store. -/
theorem DqM.rowed (h : DqM w X pr cr M g m) (hn : g.n < 16) {w1 : World} (hH : ElOn w1 w.heap.size ⟨0, 0, 0, w.heap.size, w.heap.size⟩) (hR : RwOn w1 (w.heap.size + 1) w.heap.size 0 0) (gr : Grown w w1) {w2 : World} {p' : Option Addr} {c' : Nat} {tmp : Array Value} {y : TypeId}
    (hv : Vec w2 75 1 p' (g.n + 1) c' (fun j => if j < g.n * 1 then ptr (g.r j) else ptr (w.heap.size + 1))) (o : Out (In pr) (w1.alloc (.cells tmp y)) w2) (hp : p' = pr ∨ p' = some ⟨(w1.alloc (.cells tmp y)).heap.size, 0, none⟩) :
    (w2.cell? ⟨X, 0, none⟩ = some (.slice pr g.n cr) ∧ w2.frozen? ⟨X, 0, none⟩ = false) ∧ DqM (w2.setCell ⟨X, 0, none⟩ (.slice p' (g.n + 1) c')) X p' c' M (g.more (w.heap.size + 1) w.heap.size) m ∧ Out (dfoot X pr M g) w (w2.setCell ⟨X, 0, none⟩ (.slice p' (g.n + 1) c')) ∧ ∀ k, dfoot X p' M (g.more (w.heap.size + 1) w.heap.size) k → dfoot X pr M g k ∨ w.heap.size ≤ k := by
  obtain ⟨a1, a2, a3, a4⟩ := (h.grown gr).grew hn hH hR (fun q => by have := h.core.rfoot_lt q; omega) (fun q => by have := h.core.rfoot_lt q; omega) hv o hp
  refine ⟨a1, a2, Out.after gr a3, fun k hk => ?_⟩
  rcases a4 k hk with q | q | q | q
  · exact Or.inl q
  · exact Or.inr (by omega)
  · exact Or.inr (by omega)
  · exact Or.inr (Nat.le_trans gr.2.2 q)
theorem new_row (w : World) : Calls Try.prog 34 #[] w fun e w' => e = .returned (ptr (w.heap.size + 1)) ∧ Hid (ElOn w' w.heap.size ⟨0, 0, 0, w.heap.size, w.heap.size⟩ ∧ RwOn w' (w.heap.size + 1) w.heap.size 0 0 ∧ Grown w w') := newRow_m w
set_option maxRecDepth 100000 in
set_option maxHeartbeats 8000000 in
theorem new_m (lists : Int) (w : World) :
    Calls Try.prog 18 #[.int .i64 lists] w fun e w' => ∃ X pr cr M g, e = .returned (ptr X) ∧ DqM w' X pr cr M g (fun _ => none) ∧ g.n = rowsI lists ∧ Grown w w' ∧ ∀ k, dfoot X pr M g k → w.heap.size ≤ k := by
  have h0 : ((rowsI lists : Nat) : Int) = min (max lists 0) 16 := by unfold rowsI; omega
  have hle := rowsI_le lists
  have hmm := @run_makeMap Try.prog
  have HS : Hid (∃ pr cr g, DqM ((w.alloc (.map #[] 0)).alloc (.cells #[.slice none 0 0, .map (some w.heap.size)] 74)) (w.heap.size + 1) pr cr w.heap.size g (fun _ => none) ∧ g.n = 0 ∧ Grown w ((w.alloc (.map #[] 0)).alloc (.cells #[.slice none 0 0, .map (some w.heap.size)] 74)) ∧ ∀ k, dfoot (w.heap.size + 1) pr w.heap.size g k → w.heap.size ≤ k) := by
    refine ⟨_, _, _, DqM.start w, rfl, ?_, ?_⟩
    · exact Grown.alloc (Turn.grown (Grown.refl w) (Turn.alloc w.heap.size w (.map #[] 0) rfl) (Nat.le_refl _)) _ _
    · rintro k (q | q | q | ⟨i, hi, _⟩)
      · omega
      · exact absurd q In.no
      · omega
      · exact absurd hi (Nat.not_lt_zero i)
  obtain ⟨N, HN⟩ : ∃ N, Hid (N = rowsI lists) := ⟨_, rfl⟩
  rw [← HN.out] at h0 hle ⊢
  have hc : lists < 0 ∨ (0 ≤ lists ∧ lists ≤ 16) ∨ (0 ≤ lists ∧ 16 < lists) := by omega
  have NR := new_row
  rcases hc with h | ⟨h, h'⟩ | ⟨h, h'⟩
  · have HB : Hid ((0 : Int) = (N : Int)) := by show _ = _; omega
    clear h0
    unfold ptr at NR
    go_enter Try.func18, Try.ntmps18
    go_wp2
    go_loopw [10] (fun iv wr => ∃ (k : Nat) (pr : Option Addr) (cr : Nat) (g : Gh), k ≤ N ∧ iv = .int .i64 (k : Int) ∧ DqM wr (w.heap.size + 1) pr cr w.heap.size g (fun _ => none) ∧ g.n = k ∧ Grown w wr ∧ ∀ x, dfoot (w.heap.size + 1) pr w.heap.size g x → w.heap.size ≤ x) (fun iv _ => N - (intOf iv).toNat)
    case atStart =>
      obtain ⟨pr, cr, g, h1, h2, h3, h4⟩ := HS.out
      exact ⟨0, pr, cr, g, by omega, rfl, h1, h2, h3, h4⟩
    case round =>
      clear HS
      obtain ⟨k, pr, cr, g, hkN, rfl, hd, hgn, hgr, hft⟩ := hrel
      by_cases hlt : k < N
      · have d1 : decide ((k : Int) < 0) = true := by rw [HB.out, decide_eq_true_eq]; omega
        have c0 := hd.cell0
        have hX := hd.core.lt
        have fX := froz_of hd.core.head
        rw [hgn] at c0
        have NR2 := fun d : Nat => NR (wr.drewN d)
        have HV : Hid (∀ w1 c y, Grown wr w1 → Vec (w1.alloc (.cells c y)) 75 1 pr k cr (fun j => ptr (g.r j)) ∧ w1.cell? ⟨w.heap.size + 1, 0, none⟩ = some (.slice pr k cr) ∧ w.heap.size + 1 < w1.heap.size) := fun w1 c y gr => by
          rw [← hgn]
          exact ⟨(hd.core.vec.grown gr).grown ((Grown.refl _).alloc c y), (hd.grown gr).cell0, (hd.grown gr).core.lt⟩
        have HW : Hid (∀ (w1 w2 : World) (p' : Option Addr) (c' : Nat) (tmp : Array Value) (y : TypeId), (ElOn w1 wr.heap.size ⟨0, 0, 0, wr.heap.size, wr.heap.size⟩ ∧ RwOn w1 (wr.heap.size + 1) wr.heap.size 0 0 ∧ Grown wr w1) → Vec w2 75 1 p' (k + 1) c' (fun j => if j < k * 1 then ptr (g.r j) else ptr (wr.heap.size + 1)) → Out (In pr) (w1.alloc (.cells tmp y)) w2 → (p' = pr ∨ p' = some ⟨(w1.alloc (.cells tmp y)).heap.size, 0, none⟩) →
            (w2.cell? ⟨w.heap.size + 1, 0, none⟩ = some (.slice pr k cr) ∧ w2.frozen? ⟨w.heap.size + 1, 0, none⟩ = false) ∧ ∃ X3, w2.setCell ⟨w.heap.size + 1, 0, none⟩ (.slice p' (k + 1) c') = X3 ∧ Hid (∃ pr cr g, DqM X3 (w.heap.size + 1) pr cr w.heap.size g (fun _ => none) ∧ g.n = k + 1 ∧ Grown w X3 ∧ ∀ x, dfoot (w.heap.size + 1) pr w.heap.size g x → w.heap.size ≤ x)) := fun w1 w2 p' c' tmp y hn hv ho hp => by
          subst hgn
          obtain ⟨a1, a2, a3, a4⟩ := hd.rowed (by omega) hn.1 hn.2.1 hn.2.2 hv ho hp
          refine ⟨a1, _, rfl, p', c', _, a2, rfl, a3.grown hgr hft, fun x hx => ?_⟩
          rcases a4 x hx with q | q
          · exact hft x q
          · exact Nat.le_trans hgr.2.2 q
        clear hd hft
        go_wp2
        go_region_law (first | (refine step_append_vec (by rfl) (.tmp 16) (.tmp 18) 72 (by rfl) Try.underlying72 infoRowD rfl (by rfl) (HV.out w1 _ _ hn.out.2.2).1 (by rfl) (by decide) (new_ptr _ _ _) (fun _ _ => rfl) (by omega) (by omega) ?_; intro p' c' w2 hv2 ho2 hp2; obtain ⟨⟨g1, g2⟩, X3, hX3, HX⟩ := HW.out _ _ _ _ _ _ hn.out hv2 ho2 hp2; clear hv2 ho2 hp2) | (go_simp; go_at_call 34; refine (NR2 1).mono ?_; rintro e w1 ⟨rfl, hn⟩; obtain ⟨-, cc, ll⟩ := HV.out w1 #[] 0 hn.out.2.2))
        all_goals
          go_wp2
          go_roundw
          case rel =>
            obtain ⟨pr', cr', g', h1, h2, h3, h4⟩ := HX.out
            exact ⟨k + 1, pr', cr', g', by omega, by go_num, h1, h2, h3, h4⟩
          case measure => simp [intOf]; omega
      · obtain rfl : k = N := by omega
        have d1 : decide ((k : Int) < 0) = false := by rw [HB.out, decide_eq_false_iff_not]; omega
        go_wp2
        go_ret
        exact ⟨_, _, _, _, _, rfl, hd, hgn, hgr, hft⟩
  · have HB : Hid ((lists : Int) = (N : Int)) := by show _ = _; omega
    clear h0
    unfold ptr at NR
    go_enter Try.func18, Try.ntmps18
    go_wp2
    go_loopw [10] (fun iv wr => ∃ (k : Nat) (pr : Option Addr) (cr : Nat) (g : Gh), k ≤ N ∧ iv = .int .i64 (k : Int) ∧ DqM wr (w.heap.size + 1) pr cr w.heap.size g (fun _ => none) ∧ g.n = k ∧ Grown w wr ∧ ∀ x, dfoot (w.heap.size + 1) pr w.heap.size g x → w.heap.size ≤ x) (fun iv _ => N - (intOf iv).toNat)
    case atStart =>
      obtain ⟨pr, cr, g, h1, h2, h3, h4⟩ := HS.out
      exact ⟨0, pr, cr, g, by omega, rfl, h1, h2, h3, h4⟩
    case round =>
      clear HS
      obtain ⟨k, pr, cr, g, hkN, rfl, hd, hgn, hgr, hft⟩ := hrel
      by_cases hlt : k < N
      · have d1 : decide ((k : Int) < lists) = true := by rw [HB.out, decide_eq_true_eq]; omega
        have c0 := hd.cell0
        have hX := hd.core.lt
        have fX := froz_of hd.core.head
        rw [hgn] at c0
        have NR2 := fun d : Nat => NR (wr.drewN d)
        have HV : Hid (∀ w1 c y, Grown wr w1 → Vec (w1.alloc (.cells c y)) 75 1 pr k cr (fun j => ptr (g.r j)) ∧ w1.cell? ⟨w.heap.size + 1, 0, none⟩ = some (.slice pr k cr) ∧ w.heap.size + 1 < w1.heap.size) := fun w1 c y gr => by
          rw [← hgn]
          exact ⟨(hd.core.vec.grown gr).grown ((Grown.refl _).alloc c y), (hd.grown gr).cell0, (hd.grown gr).core.lt⟩
        have HW : Hid (∀ (w1 w2 : World) (p' : Option Addr) (c' : Nat) (tmp : Array Value) (y : TypeId), (ElOn w1 wr.heap.size ⟨0, 0, 0, wr.heap.size, wr.heap.size⟩ ∧ RwOn w1 (wr.heap.size + 1) wr.heap.size 0 0 ∧ Grown wr w1) → Vec w2 75 1 p' (k + 1) c' (fun j => if j < k * 1 then ptr (g.r j) else ptr (wr.heap.size + 1)) → Out (In pr) (w1.alloc (.cells tmp y)) w2 → (p' = pr ∨ p' = some ⟨(w1.alloc (.cells tmp y)).heap.size, 0, none⟩) →
            (w2.cell? ⟨w.heap.size + 1, 0, none⟩ = some (.slice pr k cr) ∧ w2.frozen? ⟨w.heap.size + 1, 0, none⟩ = false) ∧ ∃ X3, w2.setCell ⟨w.heap.size + 1, 0, none⟩ (.slice p' (k + 1) c') = X3 ∧ Hid (∃ pr cr g, DqM X3 (w.heap.size + 1) pr cr w.heap.size g (fun _ => none) ∧ g.n = k + 1 ∧ Grown w X3 ∧ ∀ x, dfoot (w.heap.size + 1) pr w.heap.size g x → w.heap.size ≤ x)) := fun w1 w2 p' c' tmp y hn hv ho hp => by
          subst hgn
          obtain ⟨a1, a2, a3, a4⟩ := hd.rowed (by omega) hn.1 hn.2.1 hn.2.2 hv ho hp
          refine ⟨a1, _, rfl, p', c', _, a2, rfl, a3.grown hgr hft, fun x hx => ?_⟩
          rcases a4 x hx with q | q
          · exact hft x q
          · exact Nat.le_trans hgr.2.2 q
        clear hd hft
        go_wp2
        go_region_law (first | (refine step_append_vec (by rfl) (.tmp 16) (.tmp 18) 72 (by rfl) Try.underlying72 infoRowD rfl (by rfl) (HV.out w1 _ _ hn.out.2.2).1 (by rfl) (by decide) (new_ptr _ _ _) (fun _ _ => rfl) (by omega) (by omega) ?_; intro p' c' w2 hv2 ho2 hp2; obtain ⟨⟨g1, g2⟩, X3, hX3, HX⟩ := HW.out _ _ _ _ _ _ hn.out hv2 ho2 hp2; clear hv2 ho2 hp2) | (go_simp; go_at_call 34; refine (NR2 1).mono ?_; rintro e w1 ⟨rfl, hn⟩; obtain ⟨-, cc, ll⟩ := HV.out w1 #[] 0 hn.out.2.2))
        all_goals
          go_wp2
          go_roundw
          case rel =>
            obtain ⟨pr', cr', g', h1, h2, h3, h4⟩ := HX.out
            exact ⟨k + 1, pr', cr', g', by omega, by go_num, h1, h2, h3, h4⟩
          case measure => simp [intOf]; omega
      · obtain rfl : k = N := by omega
        have d1 : decide ((k : Int) < lists) = false := by rw [HB.out, decide_eq_false_iff_not]; omega
        go_wp2
        go_ret
        exact ⟨_, _, _, _, _, rfl, hd, hgn, hgr, hft⟩
  · have HB : Hid ((16 : Int) = (N : Int)) := by show _ = _; omega
    clear h0
    unfold ptr at NR
    go_enter Try.func18, Try.ntmps18
    go_wp2
    go_loopw [10] (fun iv wr => ∃ (k : Nat) (pr : Option Addr) (cr : Nat) (g : Gh), k ≤ N ∧ iv = .int .i64 (k : Int) ∧ DqM wr (w.heap.size + 1) pr cr w.heap.size g (fun _ => none) ∧ g.n = k ∧ Grown w wr ∧ ∀ x, dfoot (w.heap.size + 1) pr w.heap.size g x → w.heap.size ≤ x) (fun iv _ => N - (intOf iv).toNat)
    case atStart =>
      obtain ⟨pr, cr, g, h1, h2, h3, h4⟩ := HS.out
      exact ⟨0, pr, cr, g, by omega, rfl, h1, h2, h3, h4⟩
    case round =>
      clear HS
      obtain ⟨k, pr, cr, g, hkN, rfl, hd, hgn, hgr, hft⟩ := hrel
      by_cases hlt : k < N
      · have d1 : decide ((k : Int) < 16) = true := by rw [HB.out, decide_eq_true_eq]; omega
        have c0 := hd.cell0
        have hX := hd.core.lt
        have fX := froz_of hd.core.head
        rw [hgn] at c0
        have NR2 := fun d : Nat => NR (wr.drewN d)
        have HV : Hid (∀ w1 c y, Grown wr w1 → Vec (w1.alloc (.cells c y)) 75 1 pr k cr (fun j => ptr (g.r j)) ∧ w1.cell? ⟨w.heap.size + 1, 0, none⟩ = some (.slice pr k cr) ∧ w.heap.size + 1 < w1.heap.size) := fun w1 c y gr => by
          rw [← hgn]
          exact ⟨(hd.core.vec.grown gr).grown ((Grown.refl _).alloc c y), (hd.grown gr).cell0, (hd.grown gr).core.lt⟩
        have HW : Hid (∀ (w1 w2 : World) (p' : Option Addr) (c' : Nat) (tmp : Array Value) (y : TypeId), (ElOn w1 wr.heap.size ⟨0, 0, 0, wr.heap.size, wr.heap.size⟩ ∧ RwOn w1 (wr.heap.size + 1) wr.heap.size 0 0 ∧ Grown wr w1) → Vec w2 75 1 p' (k + 1) c' (fun j => if j < k * 1 then ptr (g.r j) else ptr (wr.heap.size + 1)) → Out (In pr) (w1.alloc (.cells tmp y)) w2 → (p' = pr ∨ p' = some ⟨(w1.alloc (.cells tmp y)).heap.size, 0, none⟩) →
            (w2.cell? ⟨w.heap.size + 1, 0, none⟩ = some (.slice pr k cr) ∧ w2.frozen? ⟨w.heap.size + 1, 0, none⟩ = false) ∧ ∃ X3, w2.setCell ⟨w.heap.size + 1, 0, none⟩ (.slice p' (k + 1) c') = X3 ∧ Hid (∃ pr cr g, DqM X3 (w.heap.size + 1) pr cr w.heap.size g (fun _ => none) ∧ g.n = k + 1 ∧ Grown w X3 ∧ ∀ x, dfoot (w.heap.size + 1) pr w.heap.size g x → w.heap.size ≤ x)) := fun w1 w2 p' c' tmp y hn hv ho hp => by
          subst hgn
          obtain ⟨a1, a2, a3, a4⟩ := hd.rowed (by omega) hn.1 hn.2.1 hn.2.2 hv ho hp
          refine ⟨a1, _, rfl, p', c', _, a2, rfl, a3.grown hgr hft, fun x hx => ?_⟩
          rcases a4 x hx with q | q
          · exact hft x q
          · exact Nat.le_trans hgr.2.2 q
        clear hd hft
        go_wp2
        go_region_law (first | (refine step_append_vec (by rfl) (.tmp 16) (.tmp 18) 72 (by rfl) Try.underlying72 infoRowD rfl (by rfl) (HV.out w1 _ _ hn.out.2.2).1 (by rfl) (by decide) (new_ptr _ _ _) (fun _ _ => rfl) (by omega) (by omega) ?_; intro p' c' w2 hv2 ho2 hp2; obtain ⟨⟨g1, g2⟩, X3, hX3, HX⟩ := HW.out _ _ _ _ _ _ hn.out hv2 ho2 hp2; clear hv2 ho2 hp2) | (go_simp; go_at_call 34; refine (NR2 1).mono ?_; rintro e w1 ⟨rfl, hn⟩; obtain ⟨-, cc, ll⟩ := HV.out w1 #[] 0 hn.out.2.2))
        all_goals
          go_wp2
          go_roundw
          case rel =>
            obtain ⟨pr', cr', g', h1, h2, h3, h4⟩ := HX.out
            exact ⟨k + 1, pr', cr', g', by omega, by go_num, h1, h2, h3, h4⟩
          case measure => simp [intOf]; omega
      · obtain rfl : k = N := by omega
        have d1 : decide ((k : Int) < 16) = false := by rw [HB.out, decide_eq_false_iff_not]; omega
        go_wp2
        go_ret
        exact ⟨_, _, _, _, _, rfl, hd, hgn, hgr, hft⟩
end Go.Proofs.Ytlmcopenbeammaa
