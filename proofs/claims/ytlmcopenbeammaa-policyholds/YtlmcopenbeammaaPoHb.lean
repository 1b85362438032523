/-
  The first loop inside: what a node weighed. Condition: those told.
-/
import Derived.Test.YtlmcopenbeammaaPoHa
namespace Go.Proofs.Ytlmcopenbeammaa.Po
open Go.RowKit Go.Deep Cm
set_option maxRecDepth 1000000 in
set_option maxHeartbeats 16000000 in
theorem was_loop {c0 c1 c2 c3 c4 c5 c6 c7 c8 c11 c15 c16 c17 c18 c19 c20 c21 c22 c23 c24 c25 c26 c27 c28 c29 c30 c31 c32 c33 c34 c35 c36 c37 c38 c39 c40 c41 c42 c43 c44 c45 c46 c47 c48 c49 c50 c51 c52 c53 c54 c55 c56 c57 c58 c59 c60 c61 c62 c63 c64 c65 c66 c67 c68 c69 c70 c71 c72 c73 c74 c75 c76 c77 c78 c79 c80 c81 c82 c83 c84 c85 c86 c87 c88 c89 c90 c91 c92 c93 c94 c95 c96 c97 c98 c99 c100 c101 c102 c103 c104 c105 c106 c107 c108 c109 c110 c111 c112 c113 c114 c115 c116 c117 c118 c119 c120 c121 c122 c123 c124 c125 c126 c127 c128 c129 c130 c131 c132 c133 c134 c135 c136 c137 c138 c139 c140 c141 c142 c143 c144 c145 c146 c147 c148 c149 c150 c151 c152 c153 c154 c155 c156 c157 c158 c159 c160 c161 c162 c163 c164 c165 c166 c167 c168 c169 c170 c171 c172 c173 c174 c175 c176 c177 c178 c179 c180 c181 c182 c183 c184 c185 c186 c187 c188 c189 c190 c191 c192 c193 c194 c195 c196 c197 c198 c199 c200 c201 c202 c203 c204 c205 c206 c207 c208 c209 c210 c211 c212 c213 c214 c215 c216 c217 c218 c219 c220 c221 c222 c223 c224 c225 c226 c227 c228 c229 c230 c231 c232 c233 c234 c235 c236 c237 c238 c239 c240 c241 c242 c243 c244 c245 c246 c247 c248 c249 c250 c251 c252 c253 c254 c255 c256 c257 c258 c259 c260 c261 c262 c263 c264 c265 c266 c267 c268 c269 c270 c271 c272 c273 c274 c275 c276 c277 c278 c279 : Value} {ip iq : Option Addr} {m c d eb : Nat} {zd zn zk zv : Int} {I : List (Int × Int)} {W0 : World} {Q0 : Exit → Act → World → Prop}
    (h1 : (box eb zd zn zk zv).On W0) (h2 : (numv ip m c (I.map (·.1))).On W0) (h3 : (numv iq m d (I.map (·.2))).On W0) (hm : m = I.length) (hb : m ≤ 1000000) (hnd : (I.map (·.1)).Nodup)
    (hexit : ∀ (n : Nat) (sv i : Int) (u56 u57 u58 u59 u60 u61 u62 u63 u64 u65 u66 u67 u68 u69 u70 u71 u72 : Value), (∀ w0, (zn, w0) ∈ I → sv = w0) → Q0 (.exit 2) ⟨List.toArray (c0 :: c1 :: c2 :: c3 :: c4 :: c5 :: c6 :: c7 :: c8 :: .slice ip m c :: .slice iq m d :: c11 :: .pointer (some ⟨eb, 0, none⟩) :: .int .i64 sv :: .int .i64 i :: c15 :: c16 :: c17 :: c18 :: c19 :: c20 :: c21 :: c22 :: c23 :: c24 :: c25 :: c26 :: c27 :: c28 :: c29 :: c30 :: c31 :: c32 :: c33 :: c34 :: c35 :: c36 :: c37 :: c38 :: c39 :: c40 :: c41 :: c42 :: c43 :: c44 :: c45 :: c46 :: c47 :: c48 :: c49 :: c50 :: c51 :: c52 :: c53 :: c54 :: c55 :: u56 :: u57 :: u58 :: u59 :: u60 :: u61 :: u62 :: u63 :: u64 :: u65 :: u66 :: u67 :: u68 :: u69 :: u70 :: u71 :: u72 :: c73 :: c74 :: c75 :: c76 :: c77 :: c78 :: c79 :: c80 :: c81 :: c82 :: c83 :: c84 :: c85 :: c86 :: c87 :: c88 :: c89 :: c90 :: c91 :: c92 :: c93 :: c94 :: c95 :: c96 :: c97 :: c98 :: c99 :: c100 :: c101 :: c102 :: c103 :: c104 :: c105 :: c106 :: c107 :: c108 :: c109 :: c110 :: c111 :: c112 :: c113 :: c114 :: c115 :: c116 :: c117 :: c118 :: c119 :: c120 :: c121 :: c122 :: c123 :: c124 :: c125 :: c126 :: c127 :: c128 :: c129 :: c130 :: c131 :: c132 :: c133 :: c134 :: c135 :: c136 :: c137 :: c138 :: c139 :: c140 :: c141 :: c142 :: c143 :: c144 :: c145 :: c146 :: c147 :: c148 :: c149 :: c150 :: c151 :: c152 :: c153 :: c154 :: c155 :: c156 :: c157 :: c158 :: c159 :: c160 :: c161 :: c162 :: c163 :: c164 :: c165 :: c166 :: c167 :: c168 :: c169 :: c170 :: c171 :: c172 :: c173 :: c174 :: c175 :: c176 :: c177 :: c178 :: c179 :: c180 :: c181 :: c182 :: c183 :: c184 :: c185 :: c186 :: c187 :: c188 :: c189 :: c190 :: c191 :: c192 :: c193 :: c194 :: c195 :: c196 :: c197 :: c198 :: c199 :: c200 :: c201 :: c202 :: c203 :: c204 :: c205 :: c206 :: c207 :: c208 :: c209 :: c210 :: c211 :: c212 :: c213 :: c214 :: c215 :: c216 :: c217 :: c218 :: c219 :: c220 :: c221 :: c222 :: c223 :: c224 :: c225 :: c226 :: c227 :: c228 :: c229 :: c230 :: c231 :: c232 :: c233 :: c234 :: c235 :: c236 :: c237 :: c238 :: c239 :: c240 :: c241 :: c242 :: c243 :: c244 :: c245 :: c246 :: c247 :: c248 :: c249 :: c250 :: c251 :: c252 :: c253 :: c254 :: c255 :: c256 :: c257 :: c258 :: c259 :: c260 :: c261 :: c262 :: c263 :: c264 :: c265 :: c266 :: c267 :: c268 :: c269 :: c270 :: c271 :: c272 :: c273 :: c274 :: c275 :: c276 :: c277 :: c278 :: c279 :: []), []⟩ (W0.drewN n)) :
    (Code.loop (lp 1)).wp Try.prog Q0 ⟨List.toArray (c0 :: c1 :: c2 :: c3 :: c4 :: c5 :: c6 :: c7 :: c8 :: .slice ip m c :: .slice iq m d :: c11 :: .pointer (some ⟨eb, 0, none⟩) :: .int .i64 0 :: .int .i64 0 :: c15 :: c16 :: c17 :: c18 :: c19 :: c20 :: c21 :: c22 :: c23 :: c24 :: c25 :: c26 :: c27 :: c28 :: c29 :: c30 :: c31 :: c32 :: c33 :: c34 :: c35 :: c36 :: c37 :: c38 :: c39 :: c40 :: c41 :: c42 :: c43 :: c44 :: c45 :: c46 :: c47 :: c48 :: c49 :: c50 :: c51 :: c52 :: c53 :: c54 :: c55 :: c56 :: c57 :: c58 :: c59 :: c60 :: c61 :: c62 :: c63 :: c64 :: c65 :: c66 :: c67 :: c68 :: c69 :: c70 :: c71 :: c72 :: c73 :: c74 :: c75 :: c76 :: c77 :: c78 :: c79 :: c80 :: c81 :: c82 :: c83 :: c84 :: c85 :: c86 :: c87 :: c88 :: c89 :: c90 :: c91 :: c92 :: c93 :: c94 :: c95 :: c96 :: c97 :: c98 :: c99 :: c100 :: c101 :: c102 :: c103 :: c104 :: c105 :: c106 :: c107 :: c108 :: c109 :: c110 :: c111 :: c112 :: c113 :: c114 :: c115 :: c116 :: c117 :: c118 :: c119 :: c120 :: c121 :: c122 :: c123 :: c124 :: c125 :: c126 :: c127 :: c128 :: c129 :: c130 :: c131 :: c132 :: c133 :: c134 :: c135 :: c136 :: c137 :: c138 :: c139 :: c140 :: c141 :: c142 :: c143 :: c144 :: c145 :: c146 :: c147 :: c148 :: c149 :: c150 :: c151 :: c152 :: c153 :: c154 :: c155 :: c156 :: c157 :: c158 :: c159 :: c160 :: c161 :: c162 :: c163 :: c164 :: c165 :: c166 :: c167 :: c168 :: c169 :: c170 :: c171 :: c172 :: c173 :: c174 :: c175 :: c176 :: c177 :: c178 :: c179 :: c180 :: c181 :: c182 :: c183 :: c184 :: c185 :: c186 :: c187 :: c188 :: c189 :: c190 :: c191 :: c192 :: c193 :: c194 :: c195 :: c196 :: c197 :: c198 :: c199 :: c200 :: c201 :: c202 :: c203 :: c204 :: c205 :: c206 :: c207 :: c208 :: c209 :: c210 :: c211 :: c212 :: c213 :: c214 :: c215 :: c216 :: c217 :: c218 :: c219 :: c220 :: c221 :: c222 :: c223 :: c224 :: c225 :: c226 :: c227 :: c228 :: c229 :: c230 :: c231 :: c232 :: c233 :: c234 :: c235 :: c236 :: c237 :: c238 :: c239 :: c240 :: c241 :: c242 :: c243 :: c244 :: c245 :: c246 :: c247 :: c248 :: c249 :: c250 :: c251 :: c252 :: c253 :: c254 :: c255 :: c256 :: c257 :: c258 :: c259 :: c260 :: c261 :: c262 :: c263 :: c264 :: c265 :: c266 :: c267 :: c268 :: c269 :: c270 :: c271 :: c272 :: c273 :: c274 :: c275 :: c276 :: c277 :: c278 :: c279 :: []), []⟩ W0 := by
  have HX : Hid _ := hexit
  have H1 : Hid _ := h1
  have H2 : Hid (Vec W0 3 1 ip m c (idL (I.map (·.1)))) := h2
  have H3 : Hid (Vec W0 3 1 iq m d (idL (I.map (·.2)))) := h3
  have HM : Hid (m = I.length) := hm
  have HND : Hid _ := hnd
  have hmI : (m : Int) ≤ 1000000 := by omega
  clear hexit h1 h2 h3 hm hnd
  conv => arg 2; arg 1; whnf
  go_loopw [13, 14] (fun s i wx => ∃ (j n : Nat) (sv : Int), j ≤ m ∧ s = .int .i64 sv ∧ i = .int .i64 j ∧ wx = W0.drewN n ∧ Hid (∀ x w0, x < j → I[x]? = some (zn, w0) → sv = w0)) (fun _ i _ => m - (intOf i).toNat)
  case atStart => exact ⟨0, 0, 0, by omega, rfl, rfl, rfl, fun x w0 hx => absurd hx (by omega)⟩
  case round =>
    obtain ⟨j, n, sv, hj, rfl, rfl, rfl, HJ⟩ := hrel
    by_cases hjm : j < m
    · have hd2 : decide ((j : Int) < (m : Int)) = true := by rw [decide_eq_true_eq]; omega
      obtain ⟨P, hP, _, hc1, _⟩ := H2.out.opens (by omega)
      obtain ⟨Q2, hQ2, _, hc2, _⟩ := H3.out.opens (by omega)
      subst hP hQ2
      obtain ⟨e0, e1, e2, e3⟩ := box_cells H1.out
      obtain ⟨⟨nj, wj⟩, hp⟩ : ∃ p, I[j]? = some p := ⟨_, List.getElem?_eq_getElem (by rw [← HM.out]; exact hjm)⟩
      have c1 : W0.cell? ⟨P, j, none⟩ = some (.int .i64 nj) := by
        rw [hc1 j (by omega)]; unfold idL; rw [List.getD_eq_getElem?_getD, List.getElem?_map, hp]; rfl
      have c2 : W0.cell? ⟨Q2, j, none⟩ = some (.int .i64 wj) := by
        rw [hc2 j (by omega)]; unfold idL; rw [List.getD_eq_getElem?_getD, List.getElem?_map, hp]; rfl
      have HP2 : Hid (I[j]? = some (nj, wj)) := hp
      clear hc1 hc2 hp e3
      by_cases hn : nj = zn
      · have b1 : (nj == zn) = true := by simpa using hn
        have HN2 : Hid (nj = zn) := hn
        clear hn
        go_wp2
        go_quiet (fail)
        go_wp2
        refine ⟨⟨j + 1, _, wj, by omega, rfl, by go_num, rfl, fun x w0 hx hxI => ?_⟩, by simp [intOf]; omega⟩
        by_cases q : x = j
        · rw [q, HP2.out] at hxI; cases hxI; rfl
        · exfalso
          have hxl : x < I.length := (List.getElem?_eq_some_iff.1 hxI).1
          have hjl : j < I.length := by rw [← HM.out]; exact hjm
          have g1 : (I.map (·.1))[x]? = (I.map (·.1))[j]? := by rw [List.getElem?_map, List.getElem?_map, hxI, HP2.out, HN2.out]; rfl
          exact q ((List.getElem?_inj (by rw [List.length_map]; exact hxl) HND.out).1 g1)
      · have b1 : (nj == zn) = false := by simpa using hn
        have HN2 : Hid (nj ≠ zn) := hn
        clear hn
        go_wp2
        go_quiet (fail)
        go_wp2
        refine ⟨⟨j + 1, _, sv, by omega, rfl, by go_num, rfl, fun x w0 hx hxI => ?_⟩, by simp [intOf]; omega⟩
        by_cases q : x = j
        · rw [q, HP2.out] at hxI; cases hxI; exact absurd rfl HN2.out
        · exact HJ.out x w0 (by omega) hxI
    · have hd2 : decide ((j : Int) < (m : Int)) = false := by rw [decide_eq_false_iff_not]; omega
      have HSV : Hid (∀ w0, (zn, w0) ∈ I → sv = w0) := fun w0 h => by
        obtain ⟨x, hx, e⟩ := List.getElem_of_mem h
        exact HJ.out x w0 (by have := HM.out; omega) (by rw [List.getElem?_eq_getElem hx, e])
      go_wp2
      exact HX.out _ _ _ _ _ _ _ _ _ _ _ _ _ _ _ _ _ _ _ _ HSV.out
end Go.Proofs.Ytlmcopenbeammaa.Po
