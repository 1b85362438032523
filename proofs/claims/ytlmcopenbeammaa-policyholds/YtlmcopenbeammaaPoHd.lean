/-
  The third loop inside: the rows hold what is there. Condition: those told.
-/
import Derived.Test.YtlmcopenbeammaaPoHa
namespace Go.Proofs.Ytlmcopenbeammaa.Po
open Go.RowKit Go.Deep Cm
set_option maxRecDepth 1000000 in
set_option maxHeartbeats 64000000 in
theorem rows_loop {c0 c1 c2 c3 c4 c5 c6 c7 c11 c12 c13 c14 c15 c16 c17 c18 c19 c20 c21 c23 c25 c26 c27 c28 c29 c30 c31 c32 c33 c34 c35 c36 c37 c38 c39 c40 c41 c42 c43 c44 c45 c46 c47 c48 c49 c50 c51 c52 c53 c54 c55 c56 c57 c58 c59 c60 c61 c62 c63 c64 c65 c66 c67 c68 c69 c70 c71 c72 c73 c74 c75 c76 c77 c78 c79 c80 c81 c82 c83 c84 c85 c86 c87 c88 c89 c90 c91 c92 c93 c94 c95 c96 c97 c98 c99 c100 c101 c102 c103 c104 c105 c106 c107 c108 c109 c110 c111 c112 c113 c114 c115 c116 c117 c118 c119 c120 c121 c122 c123 c124 c125 c126 c127 c128 c129 c130 c131 c132 c133 c134 c135 c136 c137 c138 c139 c140 c141 c142 c143 c144 c145 c146 c147 c148 c149 c150 c151 c152 c153 c154 c155 c156 c157 c158 c159 c160 c161 c162 c163 c164 c165 c166 c167 c168 c169 c170 c171 c172 c173 c174 c175 c176 c177 c178 c179 c180 c181 c182 c183 c184 c185 c186 c187 c188 c189 c190 c191 c192 c193 c194 c195 c196 c197 c198 c199 c200 c201 c202 c203 c204 c205 c206 c207 c208 c209 c210 c211 c212 c213 c214 c215 c216 c217 c218 c219 c220 c221 c222 c223 c224 c225 c226 c227 c228 c229 c230 c231 c232 c233 c234 c235 c236 c237 c238 c239 c240 c241 c242 c243 c244 c245 c246 c247 c248 c249 c250 c251 c252 c253 c254 c255 c256 c257 c258 c259 c260 c261 c262 c263 c264 c265 c266 c267 c268 c269 c270 c271 c272 c273 c274 c275 c276 c277 c278 c279 : Value} {ip iq : Option Addr} {m c d : Nat} {J : List (Int × Int)} {W w : World} {A : Nat} {C seed : Int} {mw : Nat} {y : Ps} {Q0 : Exit → Act → World → Prop}
    (h1 : One W w A C seed mw y [numv ip m c (J.map (·.1)), numv iq m d (J.map (·.2))]) (hm : m = J.length) (hb : m ≤ 1000000) (hJ : Inv y J) (hf : Fine C y)
    (hexit : ∀ (i : Int) (wx : World) (u6 u25 u26 u228 u229 u230 u231 u232 u233 u234 u235 u236 u237 u238 u239 u240 u241 u242 u243 u244 u245 u246 u247 u248 u249 u250 u251 : Value), One W wx A C seed mw y [numv ip m c (J.map (·.1)), numv iq m d (J.map (·.2))] → Q0 (.exit 6) ⟨List.toArray (c0 :: c1 :: c2 :: c3 :: c4 :: c5 :: u6 :: c7 :: .pointer (some ⟨A, 0, none⟩) :: .slice ip m c :: .slice iq m d :: c11 :: c12 :: c13 :: c14 :: c15 :: c16 :: c17 :: c18 :: c19 :: c20 :: c21 :: .int .i64 (y.t.cnt 3) :: c23 :: .int .i64 i :: u25 :: u26 :: c27 :: c28 :: c29 :: c30 :: c31 :: c32 :: c33 :: c34 :: c35 :: c36 :: c37 :: c38 :: c39 :: c40 :: c41 :: c42 :: c43 :: c44 :: c45 :: c46 :: c47 :: c48 :: c49 :: c50 :: c51 :: c52 :: c53 :: c54 :: c55 :: c56 :: c57 :: c58 :: c59 :: c60 :: c61 :: c62 :: c63 :: c64 :: c65 :: c66 :: c67 :: c68 :: c69 :: c70 :: c71 :: c72 :: c73 :: c74 :: c75 :: c76 :: c77 :: c78 :: c79 :: c80 :: c81 :: c82 :: c83 :: c84 :: c85 :: c86 :: c87 :: c88 :: c89 :: c90 :: c91 :: c92 :: c93 :: c94 :: c95 :: c96 :: c97 :: c98 :: c99 :: c100 :: c101 :: c102 :: c103 :: c104 :: c105 :: c106 :: c107 :: c108 :: c109 :: c110 :: c111 :: c112 :: c113 :: c114 :: c115 :: c116 :: c117 :: c118 :: c119 :: c120 :: c121 :: c122 :: c123 :: c124 :: c125 :: c126 :: c127 :: c128 :: c129 :: c130 :: c131 :: c132 :: c133 :: c134 :: c135 :: c136 :: c137 :: c138 :: c139 :: c140 :: c141 :: c142 :: c143 :: c144 :: c145 :: c146 :: c147 :: c148 :: c149 :: c150 :: c151 :: c152 :: c153 :: c154 :: c155 :: c156 :: c157 :: c158 :: c159 :: c160 :: c161 :: c162 :: c163 :: c164 :: c165 :: c166 :: c167 :: c168 :: c169 :: c170 :: c171 :: c172 :: c173 :: c174 :: c175 :: c176 :: c177 :: c178 :: c179 :: c180 :: c181 :: c182 :: c183 :: c184 :: c185 :: c186 :: c187 :: c188 :: c189 :: c190 :: c191 :: c192 :: c193 :: c194 :: c195 :: c196 :: c197 :: c198 :: c199 :: c200 :: c201 :: c202 :: c203 :: c204 :: c205 :: c206 :: c207 :: c208 :: c209 :: c210 :: c211 :: c212 :: c213 :: c214 :: c215 :: c216 :: c217 :: c218 :: c219 :: c220 :: c221 :: c222 :: c223 :: c224 :: c225 :: c226 :: c227 :: u228 :: u229 :: u230 :: u231 :: u232 :: u233 :: u234 :: u235 :: u236 :: u237 :: u238 :: u239 :: u240 :: u241 :: u242 :: u243 :: u244 :: u245 :: u246 :: u247 :: u248 :: u249 :: u250 :: u251 :: c252 :: c253 :: c254 :: c255 :: c256 :: c257 :: c258 :: c259 :: c260 :: c261 :: c262 :: c263 :: c264 :: c265 :: c266 :: c267 :: c268 :: c269 :: c270 :: c271 :: c272 :: c273 :: c274 :: c275 :: c276 :: c277 :: c278 :: c279 :: []), []⟩ wx) :
    (Code.loop (lp 3)).wp Try.prog Q0 ⟨List.toArray (c0 :: c1 :: c2 :: c3 :: c4 :: c5 :: c6 :: c7 :: .pointer (some ⟨A, 0, none⟩) :: .slice ip m c :: .slice iq m d :: c11 :: c12 :: c13 :: c14 :: c15 :: c16 :: c17 :: c18 :: c19 :: c20 :: c21 :: .int .i64 0 :: c23 :: .int .i64 0 :: c25 :: c26 :: c27 :: c28 :: c29 :: c30 :: c31 :: c32 :: c33 :: c34 :: c35 :: c36 :: c37 :: c38 :: c39 :: c40 :: c41 :: c42 :: c43 :: c44 :: c45 :: c46 :: c47 :: c48 :: c49 :: c50 :: c51 :: c52 :: c53 :: c54 :: c55 :: c56 :: c57 :: c58 :: c59 :: c60 :: c61 :: c62 :: c63 :: c64 :: c65 :: c66 :: c67 :: c68 :: c69 :: c70 :: c71 :: c72 :: c73 :: c74 :: c75 :: c76 :: c77 :: c78 :: c79 :: c80 :: c81 :: c82 :: c83 :: c84 :: c85 :: c86 :: c87 :: c88 :: c89 :: c90 :: c91 :: c92 :: c93 :: c94 :: c95 :: c96 :: c97 :: c98 :: c99 :: c100 :: c101 :: c102 :: c103 :: c104 :: c105 :: c106 :: c107 :: c108 :: c109 :: c110 :: c111 :: c112 :: c113 :: c114 :: c115 :: c116 :: c117 :: c118 :: c119 :: c120 :: c121 :: c122 :: c123 :: c124 :: c125 :: c126 :: c127 :: c128 :: c129 :: c130 :: c131 :: c132 :: c133 :: c134 :: c135 :: c136 :: c137 :: c138 :: c139 :: c140 :: c141 :: c142 :: c143 :: c144 :: c145 :: c146 :: c147 :: c148 :: c149 :: c150 :: c151 :: c152 :: c153 :: c154 :: c155 :: c156 :: c157 :: c158 :: c159 :: c160 :: c161 :: c162 :: c163 :: c164 :: c165 :: c166 :: c167 :: c168 :: c169 :: c170 :: c171 :: c172 :: c173 :: c174 :: c175 :: c176 :: c177 :: c178 :: c179 :: c180 :: c181 :: c182 :: c183 :: c184 :: c185 :: c186 :: c187 :: c188 :: c189 :: c190 :: c191 :: c192 :: c193 :: c194 :: c195 :: c196 :: c197 :: c198 :: c199 :: c200 :: c201 :: c202 :: c203 :: c204 :: c205 :: c206 :: c207 :: c208 :: c209 :: c210 :: c211 :: c212 :: c213 :: c214 :: c215 :: c216 :: c217 :: c218 :: c219 :: c220 :: c221 :: c222 :: c223 :: c224 :: c225 :: c226 :: c227 :: c228 :: c229 :: c230 :: c231 :: c232 :: c233 :: c234 :: c235 :: c236 :: c237 :: c238 :: c239 :: c240 :: c241 :: c242 :: c243 :: c244 :: c245 :: c246 :: c247 :: c248 :: c249 :: c250 :: c251 :: c252 :: c253 :: c254 :: c255 :: c256 :: c257 :: c258 :: c259 :: c260 :: c261 :: c262 :: c263 :: c264 :: c265 :: c266 :: c267 :: c268 :: c269 :: c270 :: c271 :: c272 :: c273 :: c274 :: c275 :: c276 :: c277 :: c278 :: c279 :: []), []⟩ w := by
  have HX : Hid _ := hexit
  have H1 : Hid _ := h1
  have HM : Hid (m = J.length ∧ m ≤ 1000000) := ⟨hm, hb⟩
  have HJ : Hid _ := hJ
  have HF : Hid _ := hf
  have hmI : (m : Int) ≤ 1000000 := by omega
  have RW : Hid (∀ (w : World) (k : Nat), One W w A C seed mw y [numv ip m c (J.map (·.1)), numv iq m d (J.map (·.2))] → Calls Try.prog 10 #[.pointer (some ⟨A, 0, none⟩), .int .i64 k] w fun e w' => ∃ pa ca na, e = .returned (.slice pa na ca) ∧ Hid (na = ((y.t.L k).map (·.1)).length ∧ na ≤ 65536 ∧ One W w' A C seed mw y (numv pa na ca ((y.t.L k).map (·.1)) :: [numv ip m c (J.map (·.1)), numv iq m d (J.map (·.2))]))) := fun w k h => by
    refine (row_one h k).mono ?_
    rintro e w' ⟨pa, ca, na, rfl, hn, h'⟩
    exact ⟨pa, ca, na, rfl, hn, by rw [hn, List.length_map]; exact hf.wf.lenD k, h'⟩
  clear hexit h1 hm hJ hf hb
  conv => arg 2; arg 1; whnf
  go_loopw [22, 24] (fun s i wx => ∃ (j : Nat), j ≤ 3 ∧ s = .int .i64 (y.t.cnt j) ∧ i = .int .i64 j ∧ Hid (One W wx A C seed mw y [numv ip m c (J.map (·.1)), numv iq m d (J.map (·.2))])) (fun _ i _ => 3 - (intOf i).toNat)
  case atStart => exact ⟨0, by omega, rfl, rfl, H1.out⟩
  case round =>
    obtain ⟨j, hj, rfl, rfl, HT⟩ := hrel
    by_cases hjm : j < 3
    · have hd2 : decide ((j : Int) < 3) = true := by rw [decide_eq_true_eq]; omega
      have RJ := RW.out wr j HT.out
      obtain ⟨cj, hcj⟩ : ∃ x, x = y.t.cnt j := ⟨_, rfl⟩
      have hcb : cj ≤ 196608 := by
        have h3 := HF.out.wf.cnt3
        have e : y.t.cnt 3 = 0 + (y.t.L 0).length + (y.t.L 1).length + (y.t.L 2).length := rfl
        rw [hcj]
        rcases j with _ | _ | _ | j
        · exact Nat.zero_le _
        · show 0 + (y.t.L 0).length ≤ _; omega
        · show 0 + (y.t.L 0).length + (y.t.L 1).length ≤ _; omega
        · omega
      have HCJ : Hid (y.t.cnt (j + 1) = cj + ((y.t.L j).map (·.1)).length) := by rw [hcj, List.length_map]; rfl
      have HIN : Hid (∀ x ∈ (y.t.L j).map (·.1), x ∈ J.map (·.1)) := fun x hx => by
        obtain ⟨p, hp, e⟩ := List.mem_map.1 hx
        exact List.mem_map.2 ⟨p, (HJ.out.mem p).2 ⟨j, hp⟩, e⟩
      obtain ⟨D, hD⟩ : ∃ D, D = (y.t.L j).map (·.1) := ⟨_, rfl⟩
      rw [← hD] at HCJ HIN RJ
      rw [← hcj]
      clear hcj hD
      go_wp2_with (first | (go_at_call 10; refine RJ.mono ?_; clear RJ; rintro e w5 ⟨p5, c5, n5, rfl, H5⟩; have h5 : (n5 : Int) ≤ 65536 := (by have := H5.out.2.1; omega); have wc : IntKind.i64.wrap ((cj : Int) + (n5 : Int)) = (cj : Int) + (n5 : Int) := (by simp [IntKind.wrap, IntKind.signed, IntKind.bits]; omega)))
      go_loopw [26] (fun i wx => ∃ (t : Nat), t ≤ n5 ∧ i = .int .i64 t ∧ Hid (One W wx A C seed mw y (numv p5 n5 c5 D :: [numv ip m c (J.map (·.1)), numv iq m d (J.map (·.2))]))) (fun i _ => n5 - (intOf i).toNat)
      case atStart => exact ⟨0, by omega, rfl, H5.out.2.2⟩
      case round =>
        obtain ⟨t, ht, rfl, HT5⟩ := hrel
        by_cases htm : t < n5
        · have hd3 : decide ((t : Int) < (n5 : Int)) = true := by rw [decide_eq_true_eq]; omega
          obtain ⟨P, hP, _, hc1, _⟩ := (HT5.out.vec List.mem_cons_self).opens (by omega)
          subst hP
          obtain ⟨x, hx⟩ : ∃ x, D[t]? = some x := ⟨_, List.getElem?_eq_getElem (by rw [← H5.out.1]; exact htm)⟩
          have c1 : wr.cell? ⟨P, t, none⟩ = some (.int .i64 x) := by
            rw [hc1 t (by omega)]; unfold idL; rw [List.getD_eq_getElem?_getD, hx]; rfl
          have hxi : decide (x ∈ J.map (·.1)) = true := by rw [decide_eq_true_eq]; exact HIN.out x (List.mem_of_getElem? hx)
          have HA := has_q (HT5.out.vec (List.mem_cons_of_mem _ List.mem_cons_self)) (HM.out.1.trans (List.length_map ..).symm) HM.out.2 x
          rw [hxi] at HA
          clear hc1 hx hxi
          go_wp2_with (first | (go_at_call 8; refine HA.mono ?_; clear HA; rintro e w6 ⟨rfl, hw6⟩; subst hw6))
          exact ⟨⟨t + 1, by omega, by go_num, HT5.out⟩, by simp [intOf]; omega⟩
        · have hd3 : decide ((t : Int) < (n5 : Int)) = false := by rw [decide_eq_false_iff_not]; omega
          go_wp2
          refine ⟨⟨j + 1, by omega, ?_, by go_num, HT5.out.less (List.sublist_cons_self ..)⟩, by simp [intOf]; omega⟩
          rw [HCJ.out, ← H5.out.1]; rfl
    · obtain rfl : j = 3 := by omega
      go_wp2
      exact HX.out _ _ _ _ _ _ _ _ _ _ _ _ _ _ _ _ _ _ _ _ _ _ _ _ _ _ _ _ _ HT.out
end Go.Proofs.Ytlmcopenbeammaa.Po
