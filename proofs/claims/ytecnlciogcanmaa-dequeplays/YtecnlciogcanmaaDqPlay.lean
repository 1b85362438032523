/-
  Lists of package deque, the document's, and a step's four numbers beside them. No condition but those told at each sentence.
-/
import Derived.Test.YtecnlciogcanmaaDqDuo
namespace Go.Proofs.Ytecnlciogcanmaa
open Go.RowKit Go.Deep
variable {W w w' : World} {X R : Nat} {t t' u u' : Ds} {vs : List Vd}

/-- An array of four numbers at block b. -/
def four (b : Nat) (x0 x1 x2 x3 : Int) : Vd := ⟨28, 4, some ⟨b, 0, none⟩, 1, 1, fun j => if j = 0 then .int .i64 x0 else if j = 1 then .int .i64 x1 else if j = 2 then .int .i64 x2 else .int .i64 x3⟩
theorem Duo.four {x0 x1 x2 x3 : Int} (h : Duo W w X R t u vs) : Duo W (w.alloc (.cells #[.int .i64 x0, .int .i64 x1, .int .i64 x2, .int .i64 x3] 28)) X R t u (four w.heap.size x0 x1 x2 x3 :: vs) := by
  refine h.add ((Grown.refl _).alloc _ _) (show Vec _ 28 4 (some ⟨w.heap.size, 0, none⟩) 1 1 _ from Vec.laid w _ _ 1 4 (by unfold maxLen; omega) rfl _ fun j hj => ?_) (fun k hk => by have := In.eq hk; omega)
  have h4 : j = 0 ∨ j = 1 ∨ j = 2 ∨ j = 3 := by omega
  rcases h4 with rfl | rfl | rfl | rfl <;> rfl
theorem Duo.four_at {b : Nat} {x0 x1 x2 x3 : Int} (h : Duo W w X R t u vs) (hV : Go.Proofs.Ytecnlciogcanmaa.four b x0 x1 x2 x3 ∈ vs) : w.cell? ⟨b, 1, none⟩ = some (.int .i64 x1) ∧ w.cell? ⟨b, 2, none⟩ = some (.int .i64 x2) ∧ w.cell? ⟨b, 3, none⟩ = some (.int .i64 x3) ∧ b < w.heap.size := by
  have hv : Vec w 28 4 (some ⟨b, 0, none⟩) 1 1 _ := h.on hV
  obtain ⟨B, h1, h2, h3, _⟩ := hv.opens (by decide)
  cases h1
  exact ⟨h3 1 (by decide), h3 2 (by decide), h3 3 (by decide), h2⟩
theorem new_d (lists : Int) (w : World) : Calls Try.prog 9 #[.int .i64 lists] w fun e w' => ∃ X F, e = .returned (ptr X) ∧ Dq w' X F (Ds.zero (rowsI lists)) ∧ Grown w w' ∧ ∀ k, F k → w.heap.size ≤ k := new_a lists w
theorem rnew_d {F : Nat → Prop} (lists : Int) (h : Dq w X F t) (g : Grown W w) (hF : ∀ k, F k → W.heap.size ≤ k) : Calls Try.prog 10 #[.int .i64 lists] w fun e w' => ∃ R, e = .returned (ptr R) ∧ Duo W w' X R t (Ds.zero (rowsI lists)) [] := by
  refine (rnew_a lists w).mono ?_
  rintro e w' ⟨R, G, rfl, hr, g', b⟩
  exact ⟨R, rfl, F, G, h.grown g', hr, fun k hf hg => by have := h.lt hf; have := b k hg; omega, fun V hV => absurd hV List.not_mem_nil, grownTrans g g', hF, fun k hk => Nat.le_trans g.2.2 (b k hk)⟩
theorem push_d (h : Duo W w X R t u vs) (l id wt : Int) : Calls Try.prog 11 #[ptr X, .int .i64 l, .int .i64 id, .int .i64 wt] w fun e w' => e = .returned (.int .i64 (t.pushE l id wt)) ∧ Duo W w' X R (t.pushI l id wt) u vs := duo_x h fun _ h => push_a h l id wt
theorem unlink_d (h : Duo W w X R t u vs) {id : Int} (hid : (Lit.int .i64 id).wf = true) : Calls Try.prog 13 #[ptr X, .int .i64 id] w fun e w' => e = .returned (.int .i64 (t.unlinkE id)) ∧ Duo W w' X R (t.unlinkI id) u vs := duo_x h fun _ h => unlink_a h hid
theorem move_d (h : Duo W w X R t u vs) {id : Int} (l : Int) (hid : (Lit.int .i64 id).wf = true) : Calls Try.prog 15 #[ptr X, .int .i64 id, .int .i64 l] w fun e w' => e = .returned (.int .i64 (t.moveE id l)) ∧ Duo W w' X R (t.moveI id l) u vs := duo_x h fun _ h => move_a h l hid
theorem reweigh_d (h : Duo W w X R t u vs) {id : Int} (wt : Int) (hid : (Lit.int .i64 id).wf = true) : Calls Try.prog 17 #[ptr X, .int .i64 id, .int .i64 wt] w fun e w' => e = .returned (.int .i64 (t.reweighE id wt)) ∧ Duo W w' X R (t.reweighI id wt) u vs := duo_x h fun _ h => reweigh_a h wt hid
theorem of_d (h : Duo W w X R t u vs) {id : Int} (hid : (Lit.int .i64 id).wf = true) : Calls Try.prog 19 #[ptr X, .int .i64 id] w fun e w' => e = .returned (.tuple #[.int .i64 (t.ofL id), .int .i64 (t.ofW id)]) ∧ Duo W w' X R t u vs := duo_xg h fun _ h => (of_a h hid).mono fun _ _ ⟨a, d, b⟩ => ⟨a, by rw [b]; exact grownDrewN (Grown.refl _) d⟩
theorem len_d (h : Duo W w X R t u vs) (l : Int) : Calls Try.prog 23 #[ptr X, .int .i64 l] w fun e w' => e = .returned (.int .i64 ((t.rowI l).length : Int)) ∧ Duo W w' X R t u vs := duo_xg h fun _ h => len_a h l
theorem rpush_d (h : Duo W w X R t u vs) (hw : u.Wf) (hl : ∀ i, (u.L i).length ≤ 65536) (l id wt : Int) : Calls Try.prog 12 #[ptr R, .int .i64 l, .int .i64 id, .int .i64 wt] w fun e w' => e = .returned (.int .i64 (u.pushE l id wt)) ∧ Duo W w' X R t (u.pushI l id wt) vs := duo_r h fun _ h => rpush_a h hw hl l id wt
theorem runlink_d (h : Duo W w X R t u vs) (hw : u.Wf) (hl : ∀ i, (u.L i).length ≤ 65536) (id : Int) : Calls Try.prog 14 #[ptr R, .int .i64 id] w fun e w' => e = .returned (.int .i64 (u.unlinkE id)) ∧ Duo W w' X R t (u.unlinkI id) vs := duo_r h fun _ h => runlink_a h hw hl id
theorem rmove_d (h : Duo W w X R t u vs) (hw : u.Wf) (hl : ∀ i, (u.L i).length ≤ 65536) (id l : Int) : Calls Try.prog 16 #[ptr R, .int .i64 id, .int .i64 l] w fun e w' => e = .returned (.int .i64 (u.moveE id l)) ∧ Duo W w' X R t (u.moveI id l) vs := duo_r h fun _ h => rmove_a h hw hl id l
theorem rreweigh_d (h : Duo W w X R t u vs) (hw : u.Wf) (hl : ∀ i, (u.L i).length ≤ 65536) (id wt : Int) : Calls Try.prog 18 #[ptr R, .int .i64 id, .int .i64 wt] w fun e w' => e = .returned (.int .i64 (u.reweighE id wt)) ∧ Duo W w' X R t (u.reweighI id wt) vs := duo_r h fun _ h => rreweigh_a h hw hl id wt
theorem rof_d (h : Duo W w X R t u vs) (hw : u.Wf) (hl : ∀ i, (u.L i).length ≤ 65536) (id : Int) : Calls Try.prog 20 #[ptr R, .int .i64 id] w fun e w' => e = .returned (.tuple #[.int .i64 (u.ofL id), .int .i64 (u.ofW id)]) ∧ Duo W w' X R t u vs := duo_rg h fun _ h => rof_a h hw hl id
end Go.Proofs.Ytecnlciogcanmaa
