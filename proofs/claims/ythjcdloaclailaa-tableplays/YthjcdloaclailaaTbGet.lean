/-
  What Get of package table does when it is called. No condition but those told at each sentence.
-/
import Derived.Test.YthjcdloaclailaaTbFind
namespace Go.Proofs.Ythjcdloaclailaa.Tb
open Go.RowKit Go.Deep Us
variable {w w' : World} {t : Tab} {key : Int} {l : List Lk} {x : Lk} {r : List Lk}

theorem sizeEn : (Try.prog.info? 30).map (·.size) = some 4 := by kernel_rfl
/-- An entry that is stored whole. -/
theorem wpList_store_en {ops : Array Oper} {rest : List Oper} {o : Oper} {a : Act} {w : World} {Q : Exit → Act → World → Prop} (hgd : o.guard = none) (hd : o.dst = none) (x y : Operand) (ho : o.op = .store 30 x y)
    (b : Nat) {old : Array Value} {d n k s : Int} (hx : a.eval x = .pointer (some ⟨b, 0, none⟩)) (hy : a.eval y = .agg #[.int .i64 d, .int .i64 n, .int .i64 k, .int .i64 s]) (h : w.heap[b]? = some (.cells old 30 (0, 0))) (hs : old.size = 4)
    (hn : ∀ W, W.heap[b]? = some (.cells #[.int .i64 d, .int .i64 n, .int .i64 k, .int .i64 s] 30 (0, 0)) → Out (· = b) w W → wpList Try.prog ops Q rest a W) : wpList Try.prog ops Q (o :: rest) a w := by
  refine wpList_store_row hgd 30 x y ho b _ hx hy 30 _ h sizeEn hs (by simp [Value.oneCell']) ?_
  rw [hd]
  exact hn _ (setRow_heap _ _ _ _ _ _ h) (Out.of_off (off_setRow h) rfl)
/-- An entry that is loaded whole. -/
theorem wpList_load_en {ops : Array Oper} {rest : List Oper} {o : Oper} {a : Act} {w : World} {Q : Exit → Act → World → Prop} (hgd : o.guard = none) (x : Operand) (ho : o.op = .load 30 x)
    (b : Nat) {d n k s : Int} (hx : a.eval x = .pointer (some ⟨b, 0, none⟩)) (h : w.heap[b]? = some (.cells #[.int .i64 d, .int .i64 n, .int .i64 k, .int .i64 s] 30 (0, 0)))
    (hn : wpList Try.prog ops Q rest (a.put o.dst (.agg #[.int .i64 d, .int .i64 n, .int .i64 k, .int .i64 s])) w) : wpList Try.prog ops Q (o :: rest) a w :=
  wpList_load_row hgd 30 x ho b hx 30 _ (0, 0) _ h Try.underlying30 rfl sizeEn hn
/-- The entry in a link, loaded whole. -/
theorem wpList_load_lk {ops : Array Oper} {rest : List Oper} {o : Oper} {a : Act} {w : World} {Q : Exit → Act → World → Prop} (hgd : o.guard = none) (x : Operand) (ho : o.op = .load 30 x)
    (b : Nat) {d n k s : Int} {v : Value} (hx : a.eval x = .pointer (some ⟨b, 0, none⟩)) (h : w.heap[b]? = some (.cells #[.int .i64 d, .int .i64 n, .int .i64 k, .int .i64 s, v] 59 (0, 0)))
    (hn : wpList Try.prog ops Q rest (a.put o.dst (.agg #[.int .i64 d, .int .i64 n, .int .i64 k, .int .i64 s])) w) : wpList Try.prog ops Q (o :: rest) a w := by
  refine wpList_load_mid hgd 30 x ho b 0 hx [.int .i64 d, .int .i64 n, .int .i64 k, .int .i64 s] _ ?_ Try.underlying30 rfl sizeEn hn
  intro j u hu
  rw [Nat.zero_add]
  rcases j with _ | _ | _ | _ | j
  · cases hu; exact cell_of h rfl
  · cases hu; exact cell_of h rfl
  · cases hu; exact cell_of h rfl
  · cases hu; exact cell_of h rfl
  · simp at hu
theorem rst_head {key : Int} : ∀ {l : List Lk} {x : Lk} {r : List Lk}, rst key l = x :: r → x.2.k = key
  | [], x, r, h => by cases h
  | y :: l, x, r, h => by
    unfold rst at h
    rw [List.dropWhile_cons] at h
    by_cases e : y.2.k = key
    · rw [if_neg (by simpa using e)] at h
      cases h; exact e
    · rw [if_pos (by simpa using e)] at h
      exact rst_head (l := l) h
theorem ahd_ne {key : Int} : ∀ {l : List Lk}, ∀ x ∈ ahd key l, x.2.k ≠ key
  | [], x, h => by cases h
  | y :: l, x, h => by
    unfold ahd at h
    rw [List.takeWhile_cons] at h
    by_cases e : y.2.k = key
    · rw [if_neg (by simpa using e)] at h
      cases h
    · rw [if_pos (by simpa using e)] at h
      rcases List.mem_cons.1 h with rfl | h
      · exact e
      · exact ahd_ne (l := l) x h
def Tab.pl (t : Tab) (key : Int) : Nat := Tb.pl t.s t.n t.l key
def Tab.ch (t : Tab) (key : Int) : List Lk := t.c (t.pl key)
def Tab.a (t : Tab) (key : Int) : Addr := endA ⟨t.B, t.pl key, none⟩ (ahd key (t.ch key))
namespace Shape
theorem pl_lt (h : Shape t) (key : Int) : t.pl key < t.n := Tb.pl_lt (by have := h.lo; omega)
theorem rst_mem (h : Shape t) {key : Int} (e : rst key (t.ch key) = x :: r) : x ∈ t.D ∧ x.2.k = key := by
  refine ⟨(h.mem _ (h.pl_lt key) x ?_).1, rst_head e⟩
  show x ∈ t.ch key
  rw [← ahd_rst key (t.ch key), e]
  simp
theorem rst_no (h : Shape t) {key : Int} (e : rst key (t.ch key) = []) : ∀ x ∈ t.D, x.2.k ≠ key := fun x hx ek => by
  have h1 := h.all x hx
  rw [ek] at h1
  have h2 : x ∈ t.ch key := h1
  rw [← ahd_rst key (t.ch key), e, List.append_nil] at h2
  exact ahd_ne x h2 ek
theorem key_one (h : Shape t) {x y : Lk} (hx : x ∈ t.D) (hy : y ∈ t.D) (e : x.2.k = y.2.k) : x = y := by
  have hk := h.keys
  generalize t.D = D at *
  induction D with
  | nil => cases hx
  | cons z q ih =>
    simp only [List.map_cons, List.nodup_cons] at hk
    rcases List.mem_cons.1 hx with rfl | hx' <;> rcases List.mem_cons.1 hy with rfl | hy'
    · rfl
    · exact absurd (List.mem_map.2 ⟨y, hy', e.symm⟩) hk.1
    · exact absurd (List.mem_map.2 ⟨x, hx', e⟩) hk.1
    · exact ih hx' hy' hk.2
theorem rst_yes (h : Shape t) (hx : x ∈ t.D) (e : x.2.k = key) : ∃ r, rst key (t.ch key) = x :: r := by
  cases hr : rst key (t.ch key) with
  | nil => exact absurd e (h.rst_no hr x hx)
  | cons y r =>
    obtain ⟨h1, h2⟩ := h.rst_mem hr
    rw [h.key_one hx h1 (e.trans h2.symm)]
    exact ⟨r, rfl⟩
theorem rst_nil (h : Shape t) (hx : ∀ x ∈ t.D, x.2.k ≠ key) : rst key (t.ch key) = [] := by
  cases hr : rst key (t.ch key) with
  | nil => rfl
  | cons y r =>
    obtain ⟨h1, h2⟩ := h.rst_mem hr
    exact absurd h2 (hx y h1)
theorem at_a (h : Shape t) (key : Int) : At t.B t.n t.D (t.a key) := end_at (h.pl_lt key) fun x hx => (h.mem _ (h.pl_lt key) x (by
  show x ∈ t.ch key
  rw [← ahd_rst key (t.ch key)]; simp [hx])).1
theorem val_a (h : Shape t) (key : Int) : t.val (t.a key) = nx (rst key (t.ch key)) := by
  have h1 : Linked t.val ⟨t.B, t.pl key, none⟩ (t.ch key) := h.link _ (h.pl_lt key)
  rw [← ahd_rst key (t.ch key), linked_app] at h1
  exact linked_first h1.2
theorem a_form (t : Tab) (key : Int) : ∃ b o, (⟨b, o, none⟩ : Addr) = t.a key := end_form _ _ _
end Shape
theorem get_no (h : Tb w t) (hx : ∀ x ∈ t.D, x.2.k ≠ key) : Calls Try.prog 16 #[ptr t.X, .int .i64 key] w fun e w' => e = .returned (.tuple #[e0.v, .bool false]) ∧ Grown w w' := by
  have hm := fun (W : World) (g : Grown w W) => find_t (h.grown g) key
  have hv := h.sh.val_a key
  rw [h.sh.rst_nil hx] at hv
  change t.val (t.a key) = .pointer none at hv
  have hc : ∀ W, Grown w W → W.cell? (t.a key) = some (.pointer none) ∧ (t.a key).block < W.heap.size := fun W g => by
    obtain ⟨h1, _, h2⟩ := (h.grown g).mem.cell (h.sh.at_a key)
    rw [hv] at h1
    exact ⟨h1, h2⟩
  obtain ⟨Ab, Ao, hA⟩ := Shape.a_form t key
  change ∀ (W : World), Grown w W → Calls Try.prog 32 #[ptr t.X, .int .i64 key] W fun e w' => e = .returned (.pointer (some (t.a key))) ∧ ∃ k, w' = W.drewN k at hm
  rw [← hA] at hc hm
  have hc : Hid (∀ W, Grown w W → W.cell? ⟨Ab, Ao, none⟩ = some (.pointer none) ∧ Ab < W.heap.size) := hc
  have hb := h.mem.lt (.inl rfl)
  have hw : Hid (Grown w (w.alloc (.cells #[.int .i64 0, .int .i64 0, .int .i64 0, .int .i64 0] 30))) := (Grown.refl _).alloc _ _
  have hR : Hid ((w.alloc (.cells #[.int .i64 0, .int .i64 0, .int .i64 0, .int .i64 0] 30)).heap[w.heap.size]? = some (.cells #[.int .i64 0, .int .i64 0, .int .i64 0, .int .i64 0] 30 (0, 0))) := blk_alloc_new w _
  clear h hv hA hx
  unfold ptr En.v e0 at *
  go_enter Try.func16, Try.ntmps16
  go_wp2_with (first | (go_at_call 32; refine (hm _ hw.out).mono ?_; rintro e w' ⟨rfl, k, rfl⟩; generalize w.alloc (.cells #[.int .i64 0, .int .i64 0, .int .i64 0, .int .i64 0] 30) = W1 at hw hR ⊢; have g2 : Grown w (W1.drewN k) := grownDrewN hw.out k; obtain ⟨c1, l1⟩ := hc.out _ g2; have h2 : (W1.drewN k).heap[w.heap.size]? = some (.cells #[.int .i64 0, .int .i64 0, .int .i64 0, .int .i64 0] 30 (0, 0)) := hR.out; generalize W1.drewN k = W2 at g2 c1 l1 h2 ⊢; have l2 := lt_of h2) | (refine wpList_store_en rfl rfl (.tmp 4) (.tmp 14) rfl w.heap.size rfl rfl h2 rfl ?_; intro W3 h3 o3; have g3 := o3.grown g2 (fun k hk => by omega); clear h2 o3 g2))
  exact bodyPost_ret (results_row_tmp Try.results16 _ _ w.heap.size 30 _ (0, 0) _ rfl h3 Try.underlying30 rfl sizeEn) rfl ⟨rfl, g3⟩
theorem get_yes (h : Tb w t) (hx : x ∈ t.D) (hk : x.2.k = key) : Calls Try.prog 16 #[ptr t.X, .int .i64 key] w fun e w' => e = .returned (.tuple #[x.2.v, .bool true]) ∧ Grown w w' := by
  have hm := fun (W : World) (g : Grown w W) => find_t (h.grown g) key
  have hv := h.sh.val_a key
  obtain ⟨r, hr⟩ := h.sh.rst_yes hx hk
  rw [hr] at hv
  change t.val (t.a key) = .pointer (some ⟨x.1, 0, none⟩) at hv
  have hc : ∀ W, Grown w W → W.cell? (t.a key) = some (.pointer (some ⟨x.1, 0, none⟩)) ∧ (t.a key).block < W.heap.size := fun W g => by
    obtain ⟨h1, _, h2⟩ := (h.grown g).mem.cell (h.sh.at_a key)
    rw [hv] at h1
    exact ⟨h1, h2⟩
  obtain ⟨Ab, Ao, hA⟩ := Shape.a_form t key
  change ∀ (W : World), Grown w W → Calls Try.prog 32 #[ptr t.X, .int .i64 key] W fun e w' => e = .returned (.pointer (some (t.a key))) ∧ ∃ k, w' = W.drewN k at hm
  rw [← hA] at hc hm
  have hc : Hid (∀ W, Grown w W → W.cell? ⟨Ab, Ao, none⟩ = some (.pointer (some ⟨x.1, 0, none⟩)) ∧ Ab < W.heap.size) := hc
  have hb := h.mem.lt (.inl rfl)
  have hw : Hid (Grown w (w.alloc (.cells #[.int .i64 0, .int .i64 0, .int .i64 0, .int .i64 0] 30))) := (Grown.refl _).alloc _ _
  have hR : Hid ((w.alloc (.cells #[.int .i64 0, .int .i64 0, .int .i64 0, .int .i64 0] 30)).heap[w.heap.size]? = some (.cells #[.int .i64 0, .int .i64 0, .int .i64 0, .int .i64 0] 30 (0, 0))) := blk_alloc_new w _
  obtain ⟨z, hz⟩ : ∃ z, z = t.val ⟨x.1, 4, none⟩ := ⟨_, rfl⟩
  have hL : Hid (w.heap[x.1]? = some (.cells #[.int .i64 x.2.k, .int .i64 x.2.a, .int .i64 x.2.x, .int .i64 x.2.n, z] 59 (0, 0))) := by rw [hz]; exact h.mem.lnk x hx
  clear h hv hA hx hk hr hz
  unfold ptr En.v at *
  go_enter Try.func16, Try.ntmps16
  go_wp2_with (first | (go_at_call 32; refine (hm _ hw.out).mono ?_; rintro e w' ⟨rfl, k, rfl⟩; generalize w.alloc (.cells #[.int .i64 0, .int .i64 0, .int .i64 0, .int .i64 0] 30) = W1 at hw hR ⊢; have g2 : Grown w (W1.drewN k) := grownDrewN hw.out k; obtain ⟨c1, l1⟩ := hc.out _ g2; have h2 : (W1.drewN k).heap[w.heap.size]? = some (.cells #[.int .i64 0, .int .i64 0, .int .i64 0, .int .i64 0] 30 (0, 0)) := hR.out; have hL2 := (grown_block g2 (lt_of hL.out)).trans hL.out; generalize W1.drewN k = W2 at g2 c1 l1 h2 hL2 ⊢; have l2 := lt_of h2; have lL := lt_of hL2) | (refine wpList_load_lk rfl _ rfl x.1 rfl hL2 ?_) | (refine wpList_store_en rfl rfl (.tmp 4) (.tmp 18) rfl w.heap.size rfl rfl h2 rfl ?_; intro W3 h3 o3; have g3 := o3.grown g2 (fun k hk => by omega); clear h2 hL2 o3 g2))
  exact bodyPost_ret (results_row_tmp Try.results16 _ _ w.heap.size 30 _ (0, 0) _ rfl h3 Try.underlying30 rfl sizeEn) rfl ⟨rfl, g3⟩
end Go.Proofs.Ythjcdloaclailaa.Tb
