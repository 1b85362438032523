/-
  The second loop inside: what is left, with its weights. Condition: those told.
-/
import Derived.Test.YtlmcopenbeammaaGrPoH
import Derived.Test.YtlmcopenbeammaaGenCls
namespace Go.Proofs.Ytlmcopenbeammaa.Po
open Go.RowKit Go.Deep Cm
theorem leftS_next {I : List (Int × Int)} {G : List Int} {n v r d : Int} {j : Nat} {p : Int × Int} (h : I[j]? = some p) : leftS (I.take (j + 1)) G n v r d = leftS (I.take j) G n v r d ++ (if keepB G n r d (upd n v r d p) then [upd n v r d p] else []) := by
  unfold leftS
  rw [List.take_add_one, h, List.map_append, List.filter_append]
  congr 1
  simp [List.filter_cons]
set_option maxRecDepth 1000000 in
set_option maxHeartbeats 64000000 in
theorem left_loop {c0 c1 c2 c3 c4 c5 c6 c7 c8 c11 c13 c14 c15 c21 c22 c23 c24 c25 c26 c27 c28 c29 c30 c31 c32 c33 c34 c35 c36 c37 c38 c39 c40 c41 c42 c43 c44 c45 c46 c47 c48 c49 c50 c51 c52 c53 c54 c55 c56 c57 c58 c59 c60 c61 c62 c63 c64 c65 c66 c67 c68 c69 c70 c71 c72 c73 c74 c75 c76 c77 c78 c79 c80 c81 c82 c83 c84 c85 c86 c87 c88 c89 c90 c91 c92 c93 c94 c95 c96 c97 c98 c99 c100 c101 c102 c103 c104 c105 c106 c107 c108 c109 c110 c111 c112 c113 c114 c115 c116 c117 c118 c119 c120 c121 c122 c123 c124 c125 c126 c127 c128 c129 c130 c131 c132 c133 c134 c135 c136 c137 c138 c139 c140 c141 c142 c143 c144 c145 c146 c147 c148 c149 c150 c151 c152 c153 c154 c155 c156 c157 c158 c159 c160 c161 c162 c163 c164 c165 c166 c167 c168 c169 c170 c171 c172 c173 c174 c175 c176 c177 c178 c179 c180 c181 c182 c183 c184 c185 c186 c187 c188 c189 c190 c191 c192 c193 c194 c195 c196 c197 c198 c199 c200 c201 c202 c203 c204 c205 c206 c207 c208 c209 c210 c211 c212 c213 c214 c215 c216 c217 c218 c219 c220 c221 c222 c223 c224 c225 c226 c227 c228 c229 c230 c231 c232 c233 c234 c235 c236 c237 c238 c239 c240 c241 c242 c243 c244 c245 c246 c247 c248 c249 c250 c251 c252 c253 c254 c255 c256 c257 c258 c259 c260 c261 c262 c263 c264 c265 c266 c267 c268 c269 c270 c271 c272 c273 c274 c275 c276 c277 c278 c279 : Value} {ip iq gp : Option Addr} {m c d g gc eb : Nat} {zd zn zk zv r : Int} {I : List (Int × Int)} {G : List Int} {W w : World} {A : Nat} {C seed : Int} {mw : Nat} {y : Ps} {Q0 : Exit → Act → World → Prop}
    (h1 : One W w A C seed mw y [numv gp g gc G, box eb zd zn zk zv, numv ip m c (I.map (·.1)), numv iq m d (I.map (·.2))]) (hm : m = I.length) (hb : m ≤ 1000000) (hg : g = G.length) (hg2 : g ≤ 1000000)
    (hexit : ∀ (a b : Option Addr) (n lc ld : Nat) (i : Int) (wx : World) (u21 u136 u137 u138 u139 u140 u141 u142 u143 u144 u145 u146 u147 u148 u149 u150 u151 u152 u153 u154 u155 u156 u157 u158 u159 u160 u161 u162 u163 u164 u165 u166 u167 u168 u169 u170 u171 u172 u173 u174 u175 u176 u177 u178 u179 u180 u181 u182 u183 u184 u185 u186 u187 u188 u189 u190 u191 u192 u193 u194 u195 u196 u197 u198 u199 : Value), One W wx A C seed mw y [numv a n lc ((leftS I G zn zv r zd).map (·.1)), numv b n ld ((leftS I G zn zv r zd).map (·.2)), numv gp g gc G, box eb zd zn zk zv, numv ip m c (I.map (·.1)), numv iq m d (I.map (·.2))] → n = (leftS I G zn zv r zd).length → Q0 (.exit 4) ⟨List.toArray (c0 :: c1 :: c2 :: c3 :: c4 :: c5 :: c6 :: c7 :: c8 :: .slice ip m c :: .slice iq m d :: c11 :: .pointer (some ⟨eb, 0, none⟩) :: c13 :: c14 :: c15 :: .slice gp g gc :: .int .i64 r :: .slice a n lc :: .slice b n ld :: .int .i64 i :: u21 :: c22 :: c23 :: c24 :: c25 :: c26 :: c27 :: c28 :: c29 :: c30 :: c31 :: c32 :: c33 :: c34 :: c35 :: c36 :: c37 :: c38 :: c39 :: c40 :: c41 :: c42 :: c43 :: c44 :: c45 :: c46 :: c47 :: c48 :: c49 :: c50 :: c51 :: c52 :: c53 :: c54 :: c55 :: c56 :: c57 :: c58 :: c59 :: c60 :: c61 :: c62 :: c63 :: c64 :: c65 :: c66 :: c67 :: c68 :: c69 :: c70 :: c71 :: c72 :: c73 :: c74 :: c75 :: c76 :: c77 :: c78 :: c79 :: c80 :: c81 :: c82 :: c83 :: c84 :: c85 :: c86 :: c87 :: c88 :: c89 :: c90 :: c91 :: c92 :: c93 :: c94 :: c95 :: c96 :: c97 :: c98 :: c99 :: c100 :: c101 :: c102 :: c103 :: c104 :: c105 :: c106 :: c107 :: c108 :: c109 :: c110 :: c111 :: c112 :: c113 :: c114 :: c115 :: c116 :: c117 :: c118 :: c119 :: c120 :: c121 :: c122 :: c123 :: c124 :: c125 :: c126 :: c127 :: c128 :: c129 :: c130 :: c131 :: c132 :: c133 :: c134 :: c135 :: u136 :: u137 :: u138 :: u139 :: u140 :: u141 :: u142 :: u143 :: u144 :: u145 :: u146 :: u147 :: u148 :: u149 :: u150 :: u151 :: u152 :: u153 :: u154 :: u155 :: u156 :: u157 :: u158 :: u159 :: u160 :: u161 :: u162 :: u163 :: u164 :: u165 :: u166 :: u167 :: u168 :: u169 :: u170 :: u171 :: u172 :: u173 :: u174 :: u175 :: u176 :: u177 :: u178 :: u179 :: u180 :: u181 :: u182 :: u183 :: u184 :: u185 :: u186 :: u187 :: u188 :: u189 :: u190 :: u191 :: u192 :: u193 :: u194 :: u195 :: u196 :: u197 :: u198 :: u199 :: c200 :: c201 :: c202 :: c203 :: c204 :: c205 :: c206 :: c207 :: c208 :: c209 :: c210 :: c211 :: c212 :: c213 :: c214 :: c215 :: c216 :: c217 :: c218 :: c219 :: c220 :: c221 :: c222 :: c223 :: c224 :: c225 :: c226 :: c227 :: c228 :: c229 :: c230 :: c231 :: c232 :: c233 :: c234 :: c235 :: c236 :: c237 :: c238 :: c239 :: c240 :: c241 :: c242 :: c243 :: c244 :: c245 :: c246 :: c247 :: c248 :: c249 :: c250 :: c251 :: c252 :: c253 :: c254 :: c255 :: c256 :: c257 :: c258 :: c259 :: c260 :: c261 :: c262 :: c263 :: c264 :: c265 :: c266 :: c267 :: c268 :: c269 :: c270 :: c271 :: c272 :: c273 :: c274 :: c275 :: c276 :: c277 :: c278 :: c279 :: []), []⟩ wx) :
    (Code.loop (lp 2)).wp Try.prog Q0 ⟨List.toArray (c0 :: c1 :: c2 :: c3 :: c4 :: c5 :: c6 :: c7 :: c8 :: .slice ip m c :: .slice iq m d :: c11 :: .pointer (some ⟨eb, 0, none⟩) :: c13 :: c14 :: c15 :: .slice gp g gc :: .int .i64 r :: .slice none 0 0 :: .slice none 0 0 :: .int .i64 0 :: c21 :: c22 :: c23 :: c24 :: c25 :: c26 :: c27 :: c28 :: c29 :: c30 :: c31 :: c32 :: c33 :: c34 :: c35 :: c36 :: c37 :: c38 :: c39 :: c40 :: c41 :: c42 :: c43 :: c44 :: c45 :: c46 :: c47 :: c48 :: c49 :: c50 :: c51 :: c52 :: c53 :: c54 :: c55 :: c56 :: c57 :: c58 :: c59 :: c60 :: c61 :: c62 :: c63 :: c64 :: c65 :: c66 :: c67 :: c68 :: c69 :: c70 :: c71 :: c72 :: c73 :: c74 :: c75 :: c76 :: c77 :: c78 :: c79 :: c80 :: c81 :: c82 :: c83 :: c84 :: c85 :: c86 :: c87 :: c88 :: c89 :: c90 :: c91 :: c92 :: c93 :: c94 :: c95 :: c96 :: c97 :: c98 :: c99 :: c100 :: c101 :: c102 :: c103 :: c104 :: c105 :: c106 :: c107 :: c108 :: c109 :: c110 :: c111 :: c112 :: c113 :: c114 :: c115 :: c116 :: c117 :: c118 :: c119 :: c120 :: c121 :: c122 :: c123 :: c124 :: c125 :: c126 :: c127 :: c128 :: c129 :: c130 :: c131 :: c132 :: c133 :: c134 :: c135 :: c136 :: c137 :: c138 :: c139 :: c140 :: c141 :: c142 :: c143 :: c144 :: c145 :: c146 :: c147 :: c148 :: c149 :: c150 :: c151 :: c152 :: c153 :: c154 :: c155 :: c156 :: c157 :: c158 :: c159 :: c160 :: c161 :: c162 :: c163 :: c164 :: c165 :: c166 :: c167 :: c168 :: c169 :: c170 :: c171 :: c172 :: c173 :: c174 :: c175 :: c176 :: c177 :: c178 :: c179 :: c180 :: c181 :: c182 :: c183 :: c184 :: c185 :: c186 :: c187 :: c188 :: c189 :: c190 :: c191 :: c192 :: c193 :: c194 :: c195 :: c196 :: c197 :: c198 :: c199 :: c200 :: c201 :: c202 :: c203 :: c204 :: c205 :: c206 :: c207 :: c208 :: c209 :: c210 :: c211 :: c212 :: c213 :: c214 :: c215 :: c216 :: c217 :: c218 :: c219 :: c220 :: c221 :: c222 :: c223 :: c224 :: c225 :: c226 :: c227 :: c228 :: c229 :: c230 :: c231 :: c232 :: c233 :: c234 :: c235 :: c236 :: c237 :: c238 :: c239 :: c240 :: c241 :: c242 :: c243 :: c244 :: c245 :: c246 :: c247 :: c248 :: c249 :: c250 :: c251 :: c252 :: c253 :: c254 :: c255 :: c256 :: c257 :: c258 :: c259 :: c260 :: c261 :: c262 :: c263 :: c264 :: c265 :: c266 :: c267 :: c268 :: c269 :: c270 :: c271 :: c272 :: c273 :: c274 :: c275 :: c276 :: c277 :: c278 :: c279 :: []), []⟩ w := by
  have HX : Hid _ := hexit
  have H1 : Hid _ := h1
  have HM : Hid (m = I.length) := hm
  have HG : Hid (g = G.length ∧ g ≤ 1000000) := ⟨hg, hg2⟩
  have hmI : (m : Int) ≤ 1000000 := by omega
  clear hexit h1 hm hg hg2
  conv => arg 2; arg 1; whnf
  go_loopw [18, 19, 20] (fun s t i wx => ∃ (j : Nat) (a b : Option Addr) (n lc ld : Nat), j ≤ m ∧ s = .slice a n lc ∧ t = .slice b n ld ∧ i = .int .i64 j ∧ Hid (One W wx A C seed mw y [numv a n lc ((leftS (I.take j) G zn zv r zd).map (·.1)), numv b n ld ((leftS (I.take j) G zn zv r zd).map (·.2)), numv gp g gc G, box eb zd zn zk zv, numv ip m c (I.map (·.1)), numv iq m d (I.map (·.2))] ∧ n = (leftS (I.take j) G zn zv r zd).length)) (fun _ _ i _ => m - (intOf i).toNat)
  case atStart => exact ⟨0, none, none, 0, 0, 0, by omega, rfl, rfl, rfl, (H1.out.add (Grown.refl _) (V := numv none 0 0 []) (Vec.nil _ _ _ _) (fun k hk => absurd hk In.no)).add (Grown.refl _) (V := numv none 0 0 []) (Vec.nil _ _ _ _) (fun k hk => absurd hk In.no), rfl⟩
  case round =>
    obtain ⟨j, a, b, n, lc, ld, hj, rfl, rfl, rfl, HT⟩ := hrel
    by_cases hjm : j < m
    · have hd2 : decide ((j : Int) < (m : Int)) = true := by rw [decide_eq_true_eq]; omega
      have hin : numv ip m c (I.map (·.1)) ∈ [numv a n lc ((leftS (I.take j) G zn zv r zd).map (·.1)), numv b n ld ((leftS (I.take j) G zn zv r zd).map (·.2)), numv gp g gc G, box eb zd zn zk zv, numv ip m c (I.map (·.1)), numv iq m d (I.map (·.2))] := List.mem_cons_of_mem _ (List.mem_cons_of_mem _ (List.mem_cons_of_mem _ (List.mem_cons_of_mem _ List.mem_cons_self)))
      have hiq : numv iq m d (I.map (·.2)) ∈ [numv a n lc ((leftS (I.take j) G zn zv r zd).map (·.1)), numv b n ld ((leftS (I.take j) G zn zv r zd).map (·.2)), numv gp g gc G, box eb zd zn zk zv, numv ip m c (I.map (·.1)), numv iq m d (I.map (·.2))] := List.mem_cons_of_mem _ (List.mem_cons_of_mem _ (List.mem_cons_of_mem _ (List.mem_cons_of_mem _ (List.mem_cons_of_mem _ List.mem_cons_self))))
      obtain ⟨P, hP, -⟩ := (HT.out.1.vec hin).opens (by omega)
      obtain ⟨Q2, hQ2, -⟩ := (HT.out.1.vec hiq).opens (by omega)
      subst hP hQ2
      obtain ⟨⟨nj, wj⟩, hp⟩ : ∃ p, I[j]? = some p := ⟨_, List.getElem?_eq_getElem (by rw [← HM.out]; exact hjm)⟩
      obtain ⟨J, hJJ⟩ : ∃ J, J = leftS (I.take j) G zn zv r zd := ⟨_, rfl⟩
      have hJn := leftS_next (G := G) (n := zn) (v := zv) (r := r) (d := zd) hp
      rw [← hJJ] at HT hJn hin hiq
      have HJ : Hid (leftS (I.take (j + 1)) G zn zv r zd = J ++ (if keepB G zn r zd (upd zn zv r zd (nj, wj)) then [upd zn zv r zd (nj, wj)] else [])) := hJn
      have hnb : n ≤ 1000000 := by
        have h1 := HT.out.2
        rw [hJJ] at h1
        have h2 : (leftS (I.take j) G zn zv r zd).length ≤ (I.take j).length := by unfold leftS; exact Nat.le_trans (List.length_filter_le ..) (by rw [List.length_map]; exact Nat.le_refl _)
        have h3 : (I.take j).length ≤ j := by rw [List.length_take]; exact Nat.min_le_left ..
        omega
      obtain ⟨Good, hGood⟩ : ∃ Good : World → Prop, Good = fun w => One W w A C seed mw y [numv a n lc (J.map (·.1)), numv b n ld (J.map (·.2)), numv gp g gc G, box eb zd zn zk zv, numv (some ⟨P, 0, none⟩) m c (I.map (·.1)), numv (some ⟨Q2, 0, none⟩) m d (I.map (·.2))] := ⟨_, rfl⟩
      have GG : ∀ w, Good w → One W w A C seed mw y [numv a n lc (J.map (·.1)), numv b n ld (J.map (·.2)), numv gp g gc G, box eb zd zn zk zv, numv (some ⟨P, 0, none⟩) m c (I.map (·.1)), numv (some ⟨Q2, 0, none⟩) m d (I.map (·.2))] := fun w h => by rw [hGood] at h; exact h
      have GK : ∀ w w', Good w → Grown w w' → Good w' := fun w w' h g => by rw [hGood] at h ⊢; exact h.grown g
      have g0 : Good wr := by rw [hGood]; exact HT.out.1
      have CN : ∀ w, Good w → w.cell? ⟨P, j, none⟩ = some (.int .i64 nj) := fun w h => by
        obtain ⟨P', e, _, hc, _⟩ := ((GG w h).vec hin).opens (by omega)
        cases e
        rw [hc j (by omega)]; unfold idL; rw [List.getD_eq_getElem?_getD, List.getElem?_map, hp]; rfl
      have CW : ∀ w, Good w → w.cell? ⟨Q2, j, none⟩ = some (.int .i64 wj) := fun w h => by
        obtain ⟨P', e, _, hc, _⟩ := ((GG w h).vec hiq).opens (by omega)
        cases e
        rw [hc j (by omega)]; unfold idL; rw [List.getD_eq_getElem?_getD, List.getElem?_map, hp]; rfl
      have BX : ∀ w, Good w → (box eb zd zn zk zv).On w := fun w h => (GG w h).on (List.mem_cons_of_mem _ (List.mem_cons_of_mem _ (List.mem_cons_of_mem _ List.mem_cons_self)))
      have K0 : ∀ r : Wor Good, r.w.cell? ⟨eb, 0, none⟩ = some (.int .i64 zd) := fun r => (box_cells (BX _ r.h)).1
      have K2 : ∀ r : Wor Good, r.w.cell? ⟨eb, 1, none⟩ = some (.int .i64 zn) := fun r => (box_cells (BX _ r.h)).2.1
      have K3 : ∀ r : Wor Good, r.w.cell? ⟨eb, 3, none⟩ = some (.int .i64 zv) := fun r => (box_cells (BX _ r.h)).2.2.1
      have K1 : ∀ r : Wor Good, r.w.cell? ⟨P, j, none⟩ = some (.int .i64 nj) := fun r => CN _ r.h
      have cw := CW _ g0
      have hne : Nonempty (Wor Good) := ⟨⟨_, g0⟩⟩
      clear hin hiq hp hJJ hJn hGood CN CW BX
      by_cases kn : nj = zn
      · by_cases kr : r = 0
        · by_cases k3 : zd = 3
          · skip
            by_cases kg : nj ∈ G
            · skip
              have hgd : decide (nj ∈ G) = true := by simpa using kg
              have HU : Hid (upd zn zv r zd (nj, wj) = (nj, zv)) := by
                exact if_pos ⟨kn, kr, k3⟩
              have HKB : Hid (keepB G zn r zd (nj, zv) = false) := by
                show keepB G zn r zd (nj, zv) = false
                unfold keepB
                simp [kg]
              have b1 : (nj == zn) = true := by simpa using kn
              have n1 : (nj != zn) = false := by simpa using kn
              have b2 : (r == 0) = true := by simpa using kr
              have n2 : (r != 0) = false := by simpa using kr
              have b3 : (zd == 3) = true := by simpa using k3
              have b4 : (zd == 4) = false := by simp; omega
              have n4 : (zd != 4) = true := by simp; omega
              have WA : Hid (∀ r : Wor Good, Calls Try.prog 8 #[.slice gp g gc, .int .i64 nj] r.w fun e w' => e = .returned (.bool true) ∧ ∃ r' : Wor Good, w' = r'.w) := fun r => calls_class (by
                rw [← hgd]
                exact (has_q ((GG _ r.h).vec (List.mem_cons_of_mem _ (List.mem_cons_of_mem _ List.mem_cons_self))) HG.out.1 HG.out.2 nj).mono fun e w' ⟨e1, e2⟩ => ⟨e1, by rw [e2]; exact r.h⟩)
              clear kg hgd kn kr k3
              go_wp2
              refine wp_region_class (Good := Good) (by kernel_rfl) (by kernel_rfl) (GK _ _ g0 (Grown.refl _).drew) ?_
              repeat (go_big_quiet_step (fail))
              refine wpQuiet_nil ?_
              intro _ hw'
              obtain ⟨r1, hw''⟩ := hw'
              subst hw''
              have k3 := K3 r1
              go_wp2
              refine wp_region_class (Good := Good) (by kernel_rfl) (by kernel_rfl) (GK _ _ r1.h (Grown.refl _).drew) ?_
              repeat (go_big_quiet_step (first | (go_at_call 8; with_reducible exact WA.out _)))
              refine wpQuiet_nil ?_
              intro _ hw'
              obtain ⟨r2, hw''⟩ := hw'
              subst hw''
              have T2 : Hid _ := GG _ r2.h
              clear K1 K2 K3 GK WA
              go_wp2
              have e5 : leftS (I.take (j + 1)) G zn zv r zd = J := by rw [HJ.out, HU.out, HKB.out]; exact List.append_nil _
              exact ⟨⟨j + 1, a, b, n, lc, ld, by omega, rfl, rfl, by go_num, by rw [e5]; exact T2.out, by rw [e5]; exact HT.out.2⟩, by simp [intOf]; omega⟩
            · skip
              have hgd : decide (nj ∈ G) = false := by simpa using kg
              have HU : Hid (upd zn zv r zd (nj, wj) = (nj, zv)) := by
                exact if_pos ⟨kn, kr, k3⟩
              have HKB : Hid (keepB G zn r zd (nj, zv) = true) := by
                show keepB G zn r zd (nj, zv) = true
                unfold keepB
                simp [kg, k3]
              have b1 : (nj == zn) = true := by simpa using kn
              have n1 : (nj != zn) = false := by simpa using kn
              have b2 : (r == 0) = true := by simpa using kr
              have n2 : (r != 0) = false := by simpa using kr
              have b3 : (zd == 3) = true := by simpa using k3
              have b4 : (zd == 4) = false := by simp; omega
              have n4 : (zd != 4) = true := by simp; omega
              have WA : Hid (∀ r : Wor Good, Calls Try.prog 8 #[.slice gp g gc, .int .i64 nj] r.w fun e w' => e = .returned (.bool false) ∧ ∃ r' : Wor Good, w' = r'.w) := fun r => calls_class (by
                rw [← hgd]
                exact (has_q ((GG _ r.h).vec (List.mem_cons_of_mem _ (List.mem_cons_of_mem _ List.mem_cons_self))) HG.out.1 HG.out.2 nj).mono fun e w' ⟨e1, e2⟩ => ⟨e1, by rw [e2]; exact r.h⟩)
              clear kg hgd kn kr k3
              go_wp2
              refine wp_region_class (Good := Good) (by kernel_rfl) (by kernel_rfl) (GK _ _ g0 (Grown.refl _).drew) ?_
              repeat (go_big_quiet_step (fail))
              refine wpQuiet_nil ?_
              intro _ hw'
              obtain ⟨r1, hw''⟩ := hw'
              subst hw''
              have k3 := K3 r1
              go_wp2
              refine wp_region_class (Good := Good) (by kernel_rfl) (by kernel_rfl) (GK _ _ r1.h (Grown.refl _).drew) ?_
              repeat (go_big_quiet_step (first | (go_at_call 8; with_reducible exact WA.out _)))
              refine wpQuiet_nil ?_
              intro _ hw'
              obtain ⟨r2, hw''⟩ := hw'
              subst hw''
              have T2 : Hid _ := GG _ r2.h
              have k1 := K1 r2
              clear K1 K2 K3 GK WA
              go_wp2_with (first | (at_builtin; refine wpList_append_vec rfl (.tmp 189) (.tmp 194) 26 rfl Try.underlying26 infoIntD rfl rfl ((T2.out.vec List.mem_cons_self).grown ((Grown.refl _).alloc _ _)) rfl (by decide) (new_ptr _ _ _) (fun _ _ => rfl) (by omega) (by omega) ?_; intro p3 c3 w3 hv3 ho3 hp3; have T3 : Hid _ := One.appended (l1 := []) T2.out (HT.out.2.trans (List.length_map ..).symm) hv3 ho3 hp3; clear hv3 ho3 hp3) | (at_builtin; refine wpList_append_vec rfl (.tmp 196) (.tmp 198) 26 rfl Try.underlying26 infoIntD rfl rfl ((T3.out.vec (List.mem_cons_of_mem _ List.mem_cons_self)).grown ((Grown.refl _).alloc _ _)) rfl (by decide) (new_ptr _ _ _) (fun _ _ => rfl) (by omega) (by omega) ?_; intro p4 c4 w4 hv4 ho4 hp4; have T4 : Hid _ := One.appended (l1 := [_]) T3.out (HT.out.2.trans (List.length_map ..).symm) hv4 ho4 hp4; clear hv4 ho4 hp4))
              have e5 : leftS (I.take (j + 1)) G zn zv r zd = J ++ [(nj, zv)] := by rw [HJ.out, HU.out, HKB.out]; rfl
              refine ⟨⟨j + 1, p3, p4, n + 1, c3, c4, by omega, rfl, rfl, by go_num, ?_, by rw [e5, List.length_append, HT.out.2]; rfl⟩, by simp [intOf]; omega⟩
              rw [e5, List.map_append, List.map_append]
              exact T4.out
          · by_cases k4 : zd = 4
            · skip
              by_cases kg : nj ∈ G
              · skip
                have hgd : decide (nj ∈ G) = true := by simpa using kg
                have HU : Hid (upd zn zv r zd (nj, wj) = (nj, wj)) := by
                  exact if_neg fun h => by have := h.2.2; omega
                have HKB : Hid (keepB G zn r zd (nj, wj) = false) := by
                  show keepB G zn r zd (nj, wj) = false
                  unfold keepB
                  simp [kg]
                have b1 : (nj == zn) = true := by simpa using kn
                have n1 : (nj != zn) = false := by simpa using kn
                have b2 : (r == 0) = true := by simpa using kr
                have n2 : (r != 0) = false := by simpa using kr
                have b3 : (zd == 3) = false := by simp; omega
                have b4 : (zd == 4) = true := by simpa using k4
                have n4 : (zd != 4) = false := by simpa using k4
                have WA : Hid (∀ r : Wor Good, Calls Try.prog 8 #[.slice gp g gc, .int .i64 nj] r.w fun e w' => e = .returned (.bool true) ∧ ∃ r' : Wor Good, w' = r'.w) := fun r => calls_class (by
                  rw [← hgd]
                  exact (has_q ((GG _ r.h).vec (List.mem_cons_of_mem _ (List.mem_cons_of_mem _ List.mem_cons_self))) HG.out.1 HG.out.2 nj).mono fun e w' ⟨e1, e2⟩ => ⟨e1, by rw [e2]; exact r.h⟩)
                clear kg hgd kn kr k4
                go_wp2
                refine wp_region_class (Good := Good) (by kernel_rfl) (by kernel_rfl) (GK _ _ g0 (Grown.refl _).drew) ?_
                repeat (go_big_quiet_step (fail))
                refine wpQuiet_nil ?_
                intro _ hw'
                obtain ⟨r1, hw''⟩ := hw'
                subst hw''
                go_wp2
                refine wp_region_class (Good := Good) (by kernel_rfl) (by kernel_rfl) (GK _ _ r1.h (Grown.refl _).drew) ?_
                repeat (go_big_quiet_step (first | (go_at_call 8; with_reducible exact WA.out _)))
                refine wpQuiet_nil ?_
                intro _ hw'
                obtain ⟨r2, hw''⟩ := hw'
                subst hw''
                have T2 : Hid _ := GG _ r2.h
                clear K1 K2 K3 GK WA
                go_wp2
                have e5 : leftS (I.take (j + 1)) G zn zv r zd = J := by rw [HJ.out, HU.out, HKB.out]; exact List.append_nil _
                exact ⟨⟨j + 1, a, b, n, lc, ld, by omega, rfl, rfl, by go_num, by rw [e5]; exact T2.out, by rw [e5]; exact HT.out.2⟩, by simp [intOf]; omega⟩
              · skip
                have hgd : decide (nj ∈ G) = false := by simpa using kg
                have HU : Hid (upd zn zv r zd (nj, wj) = (nj, wj)) := by
                  exact if_neg fun h => by have := h.2.2; omega
                have HKB : Hid (keepB G zn r zd (nj, wj) = false) := by
                  show keepB G zn r zd (nj, wj) = false
                  unfold keepB
                  simp [kn, kr, k4]
                have b1 : (nj == zn) = true := by simpa using kn
                have n1 : (nj != zn) = false := by simpa using kn
                have b2 : (r == 0) = true := by simpa using kr
                have n2 : (r != 0) = false := by simpa using kr
                have b3 : (zd == 3) = false := by simp; omega
                have b4 : (zd == 4) = true := by simpa using k4
                have n4 : (zd != 4) = false := by simpa using k4
                have WA : Hid (∀ r : Wor Good, Calls Try.prog 8 #[.slice gp g gc, .int .i64 nj] r.w fun e w' => e = .returned (.bool false) ∧ ∃ r' : Wor Good, w' = r'.w) := fun r => calls_class (by
                  rw [← hgd]
                  exact (has_q ((GG _ r.h).vec (List.mem_cons_of_mem _ (List.mem_cons_of_mem _ List.mem_cons_self))) HG.out.1 HG.out.2 nj).mono fun e w' ⟨e1, e2⟩ => ⟨e1, by rw [e2]; exact r.h⟩)
                clear kg hgd kn kr k4
                go_wp2
                refine wp_region_class (Good := Good) (by kernel_rfl) (by kernel_rfl) (GK _ _ g0 (Grown.refl _).drew) ?_
                repeat (go_big_quiet_step (fail))
                refine wpQuiet_nil ?_
                intro _ hw'
                obtain ⟨r1, hw''⟩ := hw'
                subst hw''
                go_wp2
                refine wp_region_class (Good := Good) (by kernel_rfl) (by kernel_rfl) (GK _ _ r1.h (Grown.refl _).drew) ?_
                repeat (go_big_quiet_step (first | (go_at_call 8; with_reducible exact WA.out _)))
                refine wpQuiet_nil ?_
                intro _ hw'
                obtain ⟨r2, hw''⟩ := hw'
                subst hw''
                have T2 : Hid _ := GG _ r2.h
                clear K1 K2 K3 GK WA
                go_wp2
                have e5 : leftS (I.take (j + 1)) G zn zv r zd = J := by rw [HJ.out, HU.out, HKB.out]; exact List.append_nil _
                exact ⟨⟨j + 1, a, b, n, lc, ld, by omega, rfl, rfl, by go_num, by rw [e5]; exact T2.out, by rw [e5]; exact HT.out.2⟩, by simp [intOf]; omega⟩
            · skip
              by_cases kg : nj ∈ G
              · skip
                have hgd : decide (nj ∈ G) = true := by simpa using kg
                have HU : Hid (upd zn zv r zd (nj, wj) = (nj, wj)) := by
                  exact if_neg fun h => k3 h.2.2
                have HKB : Hid (keepB G zn r zd (nj, wj) = false) := by
                  show keepB G zn r zd (nj, wj) = false
                  unfold keepB
                  simp [kg]
                have b1 : (nj == zn) = true := by simpa using kn
                have n1 : (nj != zn) = false := by simpa using kn
                have b2 : (r == 0) = true := by simpa using kr
                have n2 : (r != 0) = false := by simpa using kr
                have b3 : (zd == 3) = false := by simpa using k3
                have b4 : (zd == 4) = false := by simpa using k4
                have n4 : (zd != 4) = true := by simpa using k4
                have WA : Hid (∀ r : Wor Good, Calls Try.prog 8 #[.slice gp g gc, .int .i64 nj] r.w fun e w' => e = .returned (.bool true) ∧ ∃ r' : Wor Good, w' = r'.w) := fun r => calls_class (by
                  rw [← hgd]
                  exact (has_q ((GG _ r.h).vec (List.mem_cons_of_mem _ (List.mem_cons_of_mem _ List.mem_cons_self))) HG.out.1 HG.out.2 nj).mono fun e w' ⟨e1, e2⟩ => ⟨e1, by rw [e2]; exact r.h⟩)
                clear kg hgd kn kr k3 k4
                go_wp2
                refine wp_region_class (Good := Good) (by kernel_rfl) (by kernel_rfl) (GK _ _ g0 (Grown.refl _).drew) ?_
                repeat (go_big_quiet_step (fail))
                refine wpQuiet_nil ?_
                intro _ hw'
                obtain ⟨r1, hw''⟩ := hw'
                subst hw''
                go_wp2
                refine wp_region_class (Good := Good) (by kernel_rfl) (by kernel_rfl) (GK _ _ r1.h (Grown.refl _).drew) ?_
                repeat (go_big_quiet_step (first | (go_at_call 8; with_reducible exact WA.out _)))
                refine wpQuiet_nil ?_
                intro _ hw'
                obtain ⟨r2, hw''⟩ := hw'
                subst hw''
                have T2 : Hid _ := GG _ r2.h
                clear K1 K2 K3 GK WA
                go_wp2
                have e5 : leftS (I.take (j + 1)) G zn zv r zd = J := by rw [HJ.out, HU.out, HKB.out]; exact List.append_nil _
                exact ⟨⟨j + 1, a, b, n, lc, ld, by omega, rfl, rfl, by go_num, by rw [e5]; exact T2.out, by rw [e5]; exact HT.out.2⟩, by simp [intOf]; omega⟩
              · skip
                have hgd : decide (nj ∈ G) = false := by simpa using kg
                have HU : Hid (upd zn zv r zd (nj, wj) = (nj, wj)) := by
                  exact if_neg fun h => k3 h.2.2
                have HKB : Hid (keepB G zn r zd (nj, wj) = true) := by
                  show keepB G zn r zd (nj, wj) = true
                  unfold keepB
                  simp [kg, k4]
                have b1 : (nj == zn) = true := by simpa using kn
                have n1 : (nj != zn) = false := by simpa using kn
                have b2 : (r == 0) = true := by simpa using kr
                have n2 : (r != 0) = false := by simpa using kr
                have b3 : (zd == 3) = false := by simpa using k3
                have b4 : (zd == 4) = false := by simpa using k4
                have n4 : (zd != 4) = true := by simpa using k4
                have WA : Hid (∀ r : Wor Good, Calls Try.prog 8 #[.slice gp g gc, .int .i64 nj] r.w fun e w' => e = .returned (.bool false) ∧ ∃ r' : Wor Good, w' = r'.w) := fun r => calls_class (by
                  rw [← hgd]
                  exact (has_q ((GG _ r.h).vec (List.mem_cons_of_mem _ (List.mem_cons_of_mem _ List.mem_cons_self))) HG.out.1 HG.out.2 nj).mono fun e w' ⟨e1, e2⟩ => ⟨e1, by rw [e2]; exact r.h⟩)
                clear kg hgd kn kr k3 k4
                go_wp2
                refine wp_region_class (Good := Good) (by kernel_rfl) (by kernel_rfl) (GK _ _ g0 (Grown.refl _).drew) ?_
                repeat (go_big_quiet_step (fail))
                refine wpQuiet_nil ?_
                intro _ hw'
                obtain ⟨r1, hw''⟩ := hw'
                subst hw''
                go_wp2
                refine wp_region_class (Good := Good) (by kernel_rfl) (by kernel_rfl) (GK _ _ r1.h (Grown.refl _).drew) ?_
                repeat (go_big_quiet_step (first | (go_at_call 8; with_reducible exact WA.out _)))
                refine wpQuiet_nil ?_
                intro _ hw'
                obtain ⟨r2, hw''⟩ := hw'
                subst hw''
                have T2 : Hid _ := GG _ r2.h
                have k1 := K1 r2
                clear K1 K2 K3 GK WA
                go_wp2_with (first | (at_builtin; refine wpList_append_vec rfl (.tmp 189) (.tmp 194) 26 rfl Try.underlying26 infoIntD rfl rfl ((T2.out.vec List.mem_cons_self).grown ((Grown.refl _).alloc _ _)) rfl (by decide) (new_ptr _ _ _) (fun _ _ => rfl) (by omega) (by omega) ?_; intro p3 c3 w3 hv3 ho3 hp3; have T3 : Hid _ := One.appended (l1 := []) T2.out (HT.out.2.trans (List.length_map ..).symm) hv3 ho3 hp3; clear hv3 ho3 hp3) | (at_builtin; refine wpList_append_vec rfl (.tmp 196) (.tmp 198) 26 rfl Try.underlying26 infoIntD rfl rfl ((T3.out.vec (List.mem_cons_of_mem _ List.mem_cons_self)).grown ((Grown.refl _).alloc _ _)) rfl (by decide) (new_ptr _ _ _) (fun _ _ => rfl) (by omega) (by omega) ?_; intro p4 c4 w4 hv4 ho4 hp4; have T4 : Hid _ := One.appended (l1 := [_]) T3.out (HT.out.2.trans (List.length_map ..).symm) hv4 ho4 hp4; clear hv4 ho4 hp4))
                have e5 : leftS (I.take (j + 1)) G zn zv r zd = J ++ [(nj, wj)] := by rw [HJ.out, HU.out, HKB.out]; rfl
                refine ⟨⟨j + 1, p3, p4, n + 1, c3, c4, by omega, rfl, rfl, by go_num, ?_, by rw [e5, List.length_append, HT.out.2]; rfl⟩, by simp [intOf]; omega⟩
                rw [e5, List.map_append, List.map_append]
                exact T4.out
        · skip
          by_cases kg : nj ∈ G
          · skip
            have hgd : decide (nj ∈ G) = true := by simpa using kg
            have HU : Hid (upd zn zv r zd (nj, wj) = (nj, wj)) := by
              exact if_neg fun h => kr h.2.1
            have HKB : Hid (keepB G zn r zd (nj, wj) = false) := by
              show keepB G zn r zd (nj, wj) = false
              unfold keepB
              simp [kg]
            have b1 : (nj == zn) = true := by simpa using kn
            have n1 : (nj != zn) = false := by simpa using kn
            have b2 : (r == 0) = false := by simpa using kr
            have n2 : (r != 0) = true := by simpa using kr
            have WA : Hid (∀ r : Wor Good, Calls Try.prog 8 #[.slice gp g gc, .int .i64 nj] r.w fun e w' => e = .returned (.bool true) ∧ ∃ r' : Wor Good, w' = r'.w) := fun r => calls_class (by
              rw [← hgd]
              exact (has_q ((GG _ r.h).vec (List.mem_cons_of_mem _ (List.mem_cons_of_mem _ List.mem_cons_self))) HG.out.1 HG.out.2 nj).mono fun e w' ⟨e1, e2⟩ => ⟨e1, by rw [e2]; exact r.h⟩)
            clear kg hgd kn kr
            go_wp2
            refine wp_region_class (Good := Good) (by kernel_rfl) (by kernel_rfl) (GK _ _ g0 (Grown.refl _).drew) ?_
            repeat (go_big_quiet_step (fail))
            refine wpQuiet_nil ?_
            intro _ hw'
            obtain ⟨r1, hw''⟩ := hw'
            subst hw''
            go_wp2
            refine wp_region_class (Good := Good) (by kernel_rfl) (by kernel_rfl) (GK _ _ r1.h (Grown.refl _).drew) ?_
            repeat (go_big_quiet_step (first | (go_at_call 8; with_reducible exact WA.out _)))
            refine wpQuiet_nil ?_
            intro _ hw'
            obtain ⟨r2, hw''⟩ := hw'
            subst hw''
            have T2 : Hid _ := GG _ r2.h
            clear K1 K2 K3 GK WA
            go_wp2
            have e5 : leftS (I.take (j + 1)) G zn zv r zd = J := by rw [HJ.out, HU.out, HKB.out]; exact List.append_nil _
            exact ⟨⟨j + 1, a, b, n, lc, ld, by omega, rfl, rfl, by go_num, by rw [e5]; exact T2.out, by rw [e5]; exact HT.out.2⟩, by simp [intOf]; omega⟩
          · skip
            have hgd : decide (nj ∈ G) = false := by simpa using kg
            have HU : Hid (upd zn zv r zd (nj, wj) = (nj, wj)) := by
              exact if_neg fun h => kr h.2.1
            have HKB : Hid (keepB G zn r zd (nj, wj) = true) := by
              show keepB G zn r zd (nj, wj) = true
              unfold keepB
              simp [kg, kr]
            have b1 : (nj == zn) = true := by simpa using kn
            have n1 : (nj != zn) = false := by simpa using kn
            have b2 : (r == 0) = false := by simpa using kr
            have n2 : (r != 0) = true := by simpa using kr
            have WA : Hid (∀ r : Wor Good, Calls Try.prog 8 #[.slice gp g gc, .int .i64 nj] r.w fun e w' => e = .returned (.bool false) ∧ ∃ r' : Wor Good, w' = r'.w) := fun r => calls_class (by
              rw [← hgd]
              exact (has_q ((GG _ r.h).vec (List.mem_cons_of_mem _ (List.mem_cons_of_mem _ List.mem_cons_self))) HG.out.1 HG.out.2 nj).mono fun e w' ⟨e1, e2⟩ => ⟨e1, by rw [e2]; exact r.h⟩)
            clear kg hgd kn kr
            go_wp2
            refine wp_region_class (Good := Good) (by kernel_rfl) (by kernel_rfl) (GK _ _ g0 (Grown.refl _).drew) ?_
            repeat (go_big_quiet_step (fail))
            refine wpQuiet_nil ?_
            intro _ hw'
            obtain ⟨r1, hw''⟩ := hw'
            subst hw''
            go_wp2
            refine wp_region_class (Good := Good) (by kernel_rfl) (by kernel_rfl) (GK _ _ r1.h (Grown.refl _).drew) ?_
            repeat (go_big_quiet_step (first | (go_at_call 8; with_reducible exact WA.out _)))
            refine wpQuiet_nil ?_
            intro _ hw'
            obtain ⟨r2, hw''⟩ := hw'
            subst hw''
            have T2 : Hid _ := GG _ r2.h
            have k1 := K1 r2
            clear K1 K2 K3 GK WA
            go_wp2_with (first | (at_builtin; refine wpList_append_vec rfl (.tmp 189) (.tmp 194) 26 rfl Try.underlying26 infoIntD rfl rfl ((T2.out.vec List.mem_cons_self).grown ((Grown.refl _).alloc _ _)) rfl (by decide) (new_ptr _ _ _) (fun _ _ => rfl) (by omega) (by omega) ?_; intro p3 c3 w3 hv3 ho3 hp3; have T3 : Hid _ := One.appended (l1 := []) T2.out (HT.out.2.trans (List.length_map ..).symm) hv3 ho3 hp3; clear hv3 ho3 hp3) | (at_builtin; refine wpList_append_vec rfl (.tmp 196) (.tmp 198) 26 rfl Try.underlying26 infoIntD rfl rfl ((T3.out.vec (List.mem_cons_of_mem _ List.mem_cons_self)).grown ((Grown.refl _).alloc _ _)) rfl (by decide) (new_ptr _ _ _) (fun _ _ => rfl) (by omega) (by omega) ?_; intro p4 c4 w4 hv4 ho4 hp4; have T4 : Hid _ := One.appended (l1 := [_]) T3.out (HT.out.2.trans (List.length_map ..).symm) hv4 ho4 hp4; clear hv4 ho4 hp4))
            have e5 : leftS (I.take (j + 1)) G zn zv r zd = J ++ [(nj, wj)] := by rw [HJ.out, HU.out, HKB.out]; rfl
            refine ⟨⟨j + 1, p3, p4, n + 1, c3, c4, by omega, rfl, rfl, by go_num, ?_, by rw [e5, List.length_append, HT.out.2]; rfl⟩, by simp [intOf]; omega⟩
            rw [e5, List.map_append, List.map_append]
            exact T4.out
      · skip
        by_cases kg : nj ∈ G
        · skip
          have hgd : decide (nj ∈ G) = true := by simpa using kg
          have HU : Hid (upd zn zv r zd (nj, wj) = (nj, wj)) := by
            exact if_neg fun h => kn h.1
          have HKB : Hid (keepB G zn r zd (nj, wj) = false) := by
            show keepB G zn r zd (nj, wj) = false
            unfold keepB
            simp [kg]
          have b1 : (nj == zn) = false := by simpa using kn
          have n1 : (nj != zn) = true := by simpa using kn
          have WA : Hid (∀ r : Wor Good, Calls Try.prog 8 #[.slice gp g gc, .int .i64 nj] r.w fun e w' => e = .returned (.bool true) ∧ ∃ r' : Wor Good, w' = r'.w) := fun r => calls_class (by
            rw [← hgd]
            exact (has_q ((GG _ r.h).vec (List.mem_cons_of_mem _ (List.mem_cons_of_mem _ List.mem_cons_self))) HG.out.1 HG.out.2 nj).mono fun e w' ⟨e1, e2⟩ => ⟨e1, by rw [e2]; exact r.h⟩)
          clear kg hgd kn
          go_wp2
          refine wp_region_class (Good := Good) (by kernel_rfl) (by kernel_rfl) (GK _ _ g0 (Grown.refl _).drew) ?_
          repeat (go_big_quiet_step (fail))
          refine wpQuiet_nil ?_
          intro _ hw'
          obtain ⟨r1, hw''⟩ := hw'
          subst hw''
          go_wp2
          refine wp_region_class (Good := Good) (by kernel_rfl) (by kernel_rfl) (GK _ _ r1.h (Grown.refl _).drew) ?_
          repeat (go_big_quiet_step (first | (go_at_call 8; with_reducible exact WA.out _)))
          refine wpQuiet_nil ?_
          intro _ hw'
          obtain ⟨r2, hw''⟩ := hw'
          subst hw''
          have T2 : Hid _ := GG _ r2.h
          clear K1 K2 K3 GK WA
          go_wp2
          have e5 : leftS (I.take (j + 1)) G zn zv r zd = J := by rw [HJ.out, HU.out, HKB.out]; exact List.append_nil _
          exact ⟨⟨j + 1, a, b, n, lc, ld, by omega, rfl, rfl, by go_num, by rw [e5]; exact T2.out, by rw [e5]; exact HT.out.2⟩, by simp [intOf]; omega⟩
        · skip
          have hgd : decide (nj ∈ G) = false := by simpa using kg
          have HU : Hid (upd zn zv r zd (nj, wj) = (nj, wj)) := by
            exact if_neg fun h => kn h.1
          have HKB : Hid (keepB G zn r zd (nj, wj) = true) := by
            show keepB G zn r zd (nj, wj) = true
            unfold keepB
            simp [kg, kn]
          have b1 : (nj == zn) = false := by simpa using kn
          have n1 : (nj != zn) = true := by simpa using kn
          have WA : Hid (∀ r : Wor Good, Calls Try.prog 8 #[.slice gp g gc, .int .i64 nj] r.w fun e w' => e = .returned (.bool false) ∧ ∃ r' : Wor Good, w' = r'.w) := fun r => calls_class (by
            rw [← hgd]
            exact (has_q ((GG _ r.h).vec (List.mem_cons_of_mem _ (List.mem_cons_of_mem _ List.mem_cons_self))) HG.out.1 HG.out.2 nj).mono fun e w' ⟨e1, e2⟩ => ⟨e1, by rw [e2]; exact r.h⟩)
          clear kg hgd kn
          go_wp2
          refine wp_region_class (Good := Good) (by kernel_rfl) (by kernel_rfl) (GK _ _ g0 (Grown.refl _).drew) ?_
          repeat (go_big_quiet_step (fail))
          refine wpQuiet_nil ?_
          intro _ hw'
          obtain ⟨r1, hw''⟩ := hw'
          subst hw''
          go_wp2
          refine wp_region_class (Good := Good) (by kernel_rfl) (by kernel_rfl) (GK _ _ r1.h (Grown.refl _).drew) ?_
          repeat (go_big_quiet_step (first | (go_at_call 8; with_reducible exact WA.out _)))
          refine wpQuiet_nil ?_
          intro _ hw'
          obtain ⟨r2, hw''⟩ := hw'
          subst hw''
          have T2 : Hid _ := GG _ r2.h
          have k1 := K1 r2
          clear K1 K2 K3 GK WA
          go_wp2_with (first | (at_builtin; refine wpList_append_vec rfl (.tmp 189) (.tmp 194) 26 rfl Try.underlying26 infoIntD rfl rfl ((T2.out.vec List.mem_cons_self).grown ((Grown.refl _).alloc _ _)) rfl (by decide) (new_ptr _ _ _) (fun _ _ => rfl) (by omega) (by omega) ?_; intro p3 c3 w3 hv3 ho3 hp3; have T3 : Hid _ := One.appended (l1 := []) T2.out (HT.out.2.trans (List.length_map ..).symm) hv3 ho3 hp3; clear hv3 ho3 hp3) | (at_builtin; refine wpList_append_vec rfl (.tmp 196) (.tmp 198) 26 rfl Try.underlying26 infoIntD rfl rfl ((T3.out.vec (List.mem_cons_of_mem _ List.mem_cons_self)).grown ((Grown.refl _).alloc _ _)) rfl (by decide) (new_ptr _ _ _) (fun _ _ => rfl) (by omega) (by omega) ?_; intro p4 c4 w4 hv4 ho4 hp4; have T4 : Hid _ := One.appended (l1 := [_]) T3.out (HT.out.2.trans (List.length_map ..).symm) hv4 ho4 hp4; clear hv4 ho4 hp4))
          have e5 : leftS (I.take (j + 1)) G zn zv r zd = J ++ [(nj, wj)] := by rw [HJ.out, HU.out, HKB.out]; rfl
          refine ⟨⟨j + 1, p3, p4, n + 1, c3, c4, by omega, rfl, rfl, by go_num, ?_, by rw [e5, List.length_append, HT.out.2]; rfl⟩, by simp [intOf]; omega⟩
          rw [e5, List.map_append, List.map_append]
          exact T4.out

    · have hd2 : decide ((j : Int) < (m : Int)) = false := by rw [decide_eq_false_iff_not]; omega
      have hjm2 : j = I.length := by have := HM.out; omega
      have HE : Hid (I.take j = I) := by show I.take j = I; rw [hjm2, List.take_length]
      have HT2 : Hid (One W wr A C seed mw y [numv a n lc ((leftS I G zn zv r zd).map (·.1)), numv b n ld ((leftS I G zn zv r zd).map (·.2)), numv gp g gc G, box eb zd zn zk zv, numv ip m c (I.map (·.1)), numv iq m d (I.map (·.2))] ∧ n = (leftS I G zn zv r zd).length) := by have h := HT.out; rw [HE.out] at h; exact h
      clear hjm2
      go_wp2
      exact HX.out _ _ _ _ _ _ _ _ _ _ _ _ _ _ _ _ _ _ _ _ _ _ _ _ _ _ _ _ _ _ _ _ _ _ _ _ _ _ _ _ _ _ _ _ _ _ _ _ _ _ _ _ _ _ _ _ _ _ _ _ _ _ _ _ _ _ _ _ _ _ _ _ HT2.out.1 HT2.out.2
end Go.Proofs.Ytlmcopenbeammaa.Po
