/-
  Lists of package deque: what addLast and remove make of the rows, the map apart.
-/
import Derived.Test.YtecnlciogcanmaaDqMem
namespace Go.Proofs.Ytecnlciogcanmaa
open Go.RowKit Go.Deep

namespace Gh
variable {g : Gh}
theorem sum_add {l e j : Nat} {id wt : Int} (hf : ∀ j, j < g.n → e ∉ g.h j :: g.B j) (hj : j < g.n) : (g.add l e id wt).sum j = if j = l then g.sum j + wt else g.sum j := by
  rw [sum_row, row_add hf hj, sum_row]
  split
  · rw [List.map_append, sumI_append]; simp [sumI]
  · rfl
theorem len_add (l e j : Nat) (id wt : Int) : ((g.add l e id wt).B j).length = if j = l then (g.B j).length + 1 else (g.B j).length := by
  show (if j = l then g.B j ++ [e] else g.B j).length = _
  split <;> simp
theorem sum_cut (hw : g.Wf) {i e : Nat} (hi : i < g.n) (he : e ∈ g.B i) (j : Nat) : (g.cut i e).sum j = if j = i then g.sum j - (g.E e).wt else g.sum j := by
  show sumI ((if j = i then (g.B j).filter fun b => !(b == e) else g.B j).map fun b => (g.E b).wt) = if j = i then sumI ((g.B j).map fun b => (g.E b).wt) - (g.E e).wt else sumI ((g.B j).map fun b => (g.E b).wt)
  by_cases hji : j = i
  · subst hji
    rw [if_pos rfl, if_pos rfl]
    obtain ⟨P, S, h1, h2⟩ := parts he (hw.dup j hi)
    rw [h2, h1, List.map_append, List.map_append, sumI_append, sumI_append, List.map_cons]
    simp only [sumI]
    omega
  · rw [if_neg hji, if_neg hji]
theorem len_cut (hw : g.Wf) {i e : Nat} (hi : i < g.n) (he : e ∈ g.B i) (j : Nat) : (((g.cut i e).B j).length : Int) = if j = i then ((g.B j).length : Int) - 1 else ((g.B j).length : Int) := by
  show ((if j = i then (g.B j).filter fun b => !(b == e) else g.B j).length : Int) = _
  by_cases hji : j = i
  · subst hji
    rw [if_pos rfl, if_pos rfl]
    obtain ⟨P, S, h1, h2⟩ := parts he (hw.dup j hi)
    rw [h2, h1]
    simp
    omega
  · rw [if_neg hji, if_neg hji]
end Gh

/-- Lists at block X, the map apart. -/
structure DqC (w : World) (X : Nat) (pr : Option Addr) (cr M : Nat) (g : Gh) : Prop where
  wf : g.Wf
  head : w.heap[X]? = some (.cells #[.slice pr g.n cr, .map (some M)] 50 (0, 0))
  vec : Vec w 51 1 pr g.n cr (fun j => ptr (g.r j))
  rows : ∀ i, i < g.n → RwOn w (g.r i) (g.h i) (g.sum i) ((g.B i).length : Int)
  els : ∀ i, i < g.n → ∀ b ∈ g.h i :: g.B i, ElOn w b (g.E b)
/-- The blocks of the rows and elements. -/
def rfoot (g : Gh) (k : Nat) : Prop := ∃ i, i < g.n ∧ (k = g.r i ∨ k ∈ g.h i :: g.B i)
variable {w w' : World} {X : Nat} {pr : Option Addr} {cr M : Nat} {g : Gh}
theorem vec_ne {e ty : TypeId} {s n c B : Nat} {p : Option Addr} {f : Nat → Value} {cs : Array Value} (hv : Vec w e s p n c f) (hb : w.heap[B]? = some (.cells cs ty (0, 0))) (ht : ty ≠ e) : ¬ In p B := fun hi => by
  rcases hv with ⟨rfl, _⟩ | ⟨B', cur, h1, h2, _⟩
  · exact In.no hi
  · rw [h1] at hi
    rw [hi.eq, h2] at hb
    cases hb
    exact ht rfl
namespace DqC
theorem lt (h : DqC w X pr cr M g) : X < w.heap.size := lt_of h.head
theorem rfoot_lt (h : DqC w X pr cr M g) {k : Nat} (hk : rfoot g k) : k < w.heap.size := by
  obtain ⟨i, hi, rfl | hk⟩ := hk
  · exact lt_of (h.rows i hi)
  · exact lt_of (h.els i hi k hk)
theorem keep (h : DqC w X pr cr M g) (hX : w'.heap[X]? = w.heap[X]?) (hv : ∀ k, In pr k → w'.heap[k]? = w.heap[k]?) (hk : ∀ k, rfoot g k → w'.heap[k]? = w.heap[k]?) : DqC w' X pr cr M g := by
  refine ⟨h.wf, hX.trans h.head, ?_, fun i hi => (h.rows i hi).keep (hk _ ⟨i, hi, Or.inl rfl⟩), fun i hi b hb => (h.els i hi b hb).keep (hk _ ⟨i, hi, Or.inr hb⟩)⟩
  rcases h.vec with hv' | ⟨B, cur, h1, h2, h3⟩
  · exact Or.inl hv'
  · exact Or.inr ⟨B, cur, h1, (hv B h1).trans h2, h3⟩
theorem drewN (h : DqC w X pr cr M g) (d : Nat) : DqC (w.drewN d) X pr cr M g := h.keep rfl (fun _ _ => rfl) (fun _ _ => rfl)
theorem xrow (h : DqC w X pr cr M g) : ¬ In pr X ∧ ¬ rfoot g X := by
  refine ⟨vec_ne h.vec h.head (by decide), fun ⟨i, hi, hk⟩ => ?_⟩
  have h1 := h.head
  rcases hk with hk | hk
  · have h2 := h.rows i hi
    unfold RwOn at h2
    rw [← hk, h1] at h2
    cases h2
  · have h2 := h.els i hi X hk
    unfold ElOn at h2
    rw [h1] at h2
    cases h2
theorem vrow (h : DqC w X pr cr M g) {k : Nat} (hk : In pr k) : ¬ rfoot g k := fun ⟨i, hi, hr⟩ => by
  rcases hr with rfl | hr
  · exact vec_ne h.vec (h.rows i hi) (by decide) hk
  · exact vec_ne h.vec (h.els i hi k hr) (by decide) hk
/-- Whatever turns rows and elements alone keeps the struct and its slice. -/
theorem base (h : DqC w X pr cr M g) {F : Nat → Prop} (o : Out F w w') (hF : ∀ k, F k → k < w.heap.size → ¬ k = X ∧ ¬ In pr k) : w'.heap[X]? = some (.cells #[.slice pr g.n cr, .map (some M)] 50 (0, 0)) ∧ Vec w' 51 1 pr g.n cr (fun j => ptr (g.r j)) :=
  ⟨(o.block X h.lt (fun f => (hF X f h.lt).1 rfl)).trans h.head, h.vec.out o fun k hk f => (hF k f (h.vec.lt hk)).2 hk⟩

set_option maxHeartbeats 1000000 in
theorem addLast (h : DqC w X pr cr M g) {l e : Nat} {id wt : Int} {v3 v4 : Value} (hl : l < g.n) (he : w.heap[e]? = some (.cells #[.int .i64 id, .int .i64 wt, .int .i64 (l : Int), v3, v4] 59 (0, 0)))
    (hf : ∀ j, j < g.n → e ∉ g.h j :: g.B j) (hid : ∀ j, j < g.n → ∀ b ∈ g.B j, (g.E b).id ≠ id) (h1 : 1 ≤ id) (h2 : id ≤ 65536) (h3 : 0 ≤ wt) (h4 : wt ≤ 2147483648) :
    Calls Try.prog 32 #[ptr (g.r l), ptr e] w fun e' w' => e' = .returned (.tuple #[]) ∧ DqC w' X pr cr M (g.add l e id wt) ∧ Out (fun k => rfoot g k ∨ k = e) w w' := by
  have hw := h.wf
  have hh := h.els l hl (g.h l) (by simp)
  have hp := h.els l hl _ (hw.headPv hl)
  have hr := h.rows l hl
  have hne : ∀ j, j < g.n → ∀ b ∈ g.h j :: g.B j, b ≠ e := fun j hj b hb q => hf j hj (by rw [← q]; exact hb)
  refine (addLast_r hr hh rfl hp he (fun q => hne l hl _ (by simp) q.symm) (fun q => hne l hl _ (hw.headPv hl) q.symm) (hw.sumBound hl) ⟨h3, h4⟩ ⟨by omega, by have := hw.len hl; omega⟩).mono ?_
  rintro e' w' ⟨rfl, d, rfl⟩
  have hrne : ∀ j, j < g.n → g.r j ≠ e := fun j hj q => by
    have := h.rows j hj
    unfold RwOn at this
    rw [q, he] at this
    cases this
  have ho : Out (fun k => rfoot g k ∨ k = e) w ((((((w.setCell ⟨e, 3, none⟩ (ptr (g.E (g.h l)).pv)).setCell ⟨e, 4, none⟩ (ptr (g.h l))).setCell ⟨(g.E (g.h l)).pv, 4, none⟩ (ptr e)).setCell ⟨g.h l, 3, none⟩ (ptr e)).setCell ⟨g.r l, 1, none⟩ (.int .i64 (g.sum l + wt))).setCell ⟨g.r l, 2, none⟩ (.int .i64 (((g.B l).length : Int) + 1))) :=
    ((((((Out.refl _ w).setCell (a := ⟨e, 3, none⟩) (Or.inr rfl) _).setCell (a := ⟨e, 4, none⟩) (Or.inr rfl) _).setCell (a := ⟨(g.E (g.h l)).pv, 4, none⟩) (Or.inl ⟨l, hl, Or.inr (hw.headPv hl)⟩) _).setCell (a := ⟨g.h l, 3, none⟩) (Or.inl ⟨l, hl, Or.inr (by simp)⟩) _).setCell (a := ⟨g.r l, 1, none⟩) (Or.inl ⟨l, hl, Or.inl rfl⟩) _).setCell (a := ⟨g.r l, 2, none⟩) (Or.inl ⟨l, hl, Or.inl rfl⟩) _
  obtain ⟨b1, b2⟩ := h.base ho (fun k hk _ => by
    rcases hk with hk | rfl
    · exact ⟨fun q => h.xrow.2 (by rw [← q]; exact hk), fun q => h.vrow q hk⟩
    · refine ⟨fun q => ?_, fun q => ?_⟩
      · have := h.head
        rw [← q, he] at this
        cases this
      · exact vec_ne h.vec he (by decide) q)
  refine ⟨rfl, DqC.drewN ?_ d, ho.drewN d⟩
  refine ⟨hw.add hl hf hid h1 h2 h3 h4, b1, b2, fun j hj => ?_, fun j hj b hb => ?_⟩
  · rw [Gh.sum_add hf hj, Gh.len_add]
    have hj0 := h.rows j hj
    have a1 := (((hj0.other (k := 3) (hrne j hj) (ptr (g.E (g.h l)).pv)).other (k := 4) (hrne j hj) (ptr (g.h l))).other (k := 4) (hj0.ne hp) (ptr e)).other (k := 3) (hj0.ne hh) (ptr e)
    by_cases q : j = l
    · subst q
      rw [if_pos rfl, if_pos rfl]
      exact (a1.setWt _).setLen _
    · rw [if_neg q, if_neg q]
      have q' : g.r j ≠ g.r l := fun x => q (hw.rinj j l hj hl x)
      exact (a1.other q' _).other q' _
  · show ElOn _ b ((g.add l e id wt).E b)
    have hb : b ∈ g.h j :: (if j = l then g.B j ++ [e] else g.B j) := hb
    by_cases q : b = e
    · subst q
      rw [show (g.add l b id wt).E b = ⟨id, wt, (l : Int), (g.E (g.h l)).pv, g.h l⟩ from if_pos rfl]
      have s1 := blk_set_same (blk_set_same he 3 (ptr (g.E (g.h l)).pv)) 4 (ptr (g.h l))
      have s2 : ElOn ((w.setCell ⟨b, 3, none⟩ (ptr (g.E (g.h l)).pv)).setCell ⟨b, 4, none⟩ (ptr (g.h l))) b ⟨id, wt, (l : Int), (g.E (g.h l)).pv, g.h l⟩ := s1
      exact (((s2.other (fun x => hne l hl _ (hw.headPv hl) x.symm) _).other (fun x => hne l hl _ (by simp) x.symm) _).other (fun x => hrne l hl x.symm) _).other (fun x => hrne l hl x.symm) _
    · have hb' : b ∈ g.h j :: g.B j := by
        split at hb
        · simp at hb ⊢
          rcases hb with x | x | x
          · exact Or.inl x
          · exact Or.inr x
          · exact absurd x q
        · exact hb
      rw [show (g.add l e id wt).E b = { g.E b with nx := if b = (g.E (g.h l)).pv then e else (g.E b).nx, pv := if b = g.h l then e else (g.E b).pv } from if_neg q]
      have s0 := h.els j hj b hb'
      have q' : b ≠ g.r l := fun x => hr.ne s0 x.symm
      exact (((((s0.other q _).other q _).setNx _ e).setPv (g.h l) e).other q' _).other q' _

set_option maxHeartbeats 1000000 in
theorem remove (h : DqC w X pr cr M g) {i e : Nat} (hi : i < g.n) (he : e ∈ g.B i) :
    Calls Try.prog 36 #[ptr (g.r i), ptr e] w fun e' w' => e' = .returned (.tuple #[]) ∧ DqC w' X pr cr M (g.cut i e) ∧ Out (rfoot g) w w' ∧ ElOn w' e ((g.cut i e).E e) := by
  have hw := h.wf
  obtain ⟨m1, m2, m3, m4⟩ := hw.besides hi he
  have hel := h.els i hi e (List.mem_cons_of_mem _ he)
  have hp := h.els i hi _ m1
  have hn := h.els i hi _ m2
  have hr := h.rows i hi
  have hee := hw.els i hi e he
  refine (remove_r hr hel rfl rfl hp hn (hw.sumBound hi) ⟨hee.2.2.1, hee.2.2.2.1⟩ ⟨by omega, by have := hw.len hi; omega⟩).mono ?_
  rintro e' w' ⟨rfl, d, rfl⟩
  have ho : Out (rfoot g) w ((((w.setCell ⟨(g.E e).pv, 4, none⟩ (ptr (g.E e).nx)).setCell ⟨(g.E e).nx, 3, none⟩ (ptr (g.E e).pv)).setCell ⟨g.r i, 1, none⟩ (.int .i64 (g.sum i - (g.E e).wt))).setCell ⟨g.r i, 2, none⟩ (.int .i64 (((g.B i).length : Int) - 1))) :=
    ((((Out.refl _ w).setCell (a := ⟨(g.E e).pv, 4, none⟩) ⟨i, hi, Or.inr m1⟩ _).setCell (a := ⟨(g.E e).nx, 3, none⟩) ⟨i, hi, Or.inr m2⟩ _).setCell (a := ⟨g.r i, 1, none⟩) ⟨i, hi, Or.inl rfl⟩ _).setCell (a := ⟨g.r i, 2, none⟩) ⟨i, hi, Or.inl rfl⟩ _
  obtain ⟨b1, b2⟩ := h.base ho (fun k hk _ => ⟨fun q => h.xrow.2 (by rw [← q]; exact hk), fun q => h.vrow q hk⟩)
  have hE : ∀ j, j < g.n → ∀ b ∈ g.h j :: g.B j, ElOn ((((w.setCell ⟨(g.E e).pv, 4, none⟩ (ptr (g.E e).nx)).setCell ⟨(g.E e).nx, 3, none⟩ (ptr (g.E e).pv)).setCell ⟨g.r i, 1, none⟩ (.int .i64 (g.sum i - (g.E e).wt))).setCell ⟨g.r i, 2, none⟩ (.int .i64 (((g.B i).length : Int) - 1))) b ((g.cut i e).E b) := fun j hj b hb => by
    have s0 := h.els j hj b hb
    have q' : b ≠ g.r i := fun x => hr.ne s0 x.symm
    exact (((s0.setNx _ _).setPv _ _).other q' _).other q' _
  refine ⟨rfl, DqC.drewN ⟨hw.cut hi he, b1, b2, fun j hj => ?_, fun j hj b hb => ?_⟩ d, ho.drewN d, (hE i hi e (List.mem_cons_of_mem _ he)).keep rfl⟩
  · rw [Gh.sum_cut hw hi he, Gh.len_cut hw hi he]
    have hj0 := h.rows j hj
    have a1 := (hj0.other (k := 4) (hj0.ne hp) (ptr (g.E e).nx)).other (k := 3) (hj0.ne hn) (ptr (g.E e).pv)
    by_cases q : j = i
    · subst q
      rw [if_pos rfl, if_pos rfl]
      exact (a1.setWt _).setLen _
    · rw [if_neg q, if_neg q]
      have q' : g.r j ≠ g.r i := fun x => q (hw.rinj j i hj hi x)
      exact (a1.other q' _).other q' _
  · rcases List.mem_cons.1 hb with q | q
    · exact hE j hj b (by rw [q]; simp; exact Or.inl rfl)
    · exact hE j hj b (List.mem_cons_of_mem _ (Gh.mem_cut q))
end DqC
end Go.Proofs.Ytecnlciogcanmaa
