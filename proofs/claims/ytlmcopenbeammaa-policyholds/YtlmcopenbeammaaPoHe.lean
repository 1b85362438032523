/-
  The last loop inside: what all weigh. Condition: those told.
-/
import Derived.Test.YtlmcopenbeammaaPoHa
namespace Go.Proofs.Ytlmcopenbeammaa.Po
open Go.RowKit Go.Deep Cm
theorem sum_up : ∀ {L : List Int}, (∀ x ∈ L, 0 ≤ x) → ∀ k, 0 ≤ sumD (L.take k) ∧ sumD (L.take k) ≤ sumD L
  | [], _, k => by simp [sumD]
  | x :: L, h, 0 => by
    have h0 := h x (List.mem_cons_self ..)
    have h1 := (sum_up (L := L) (fun z hz => h z (List.mem_cons_of_mem _ hz)) 0).2
    simp only [List.take_zero, sumD] at h1 ⊢
    omega
  | x :: L, h, k + 1 => by
    have h0 := h x (List.mem_cons_self ..)
    have h1 := sum_up (L := L) (fun z hz => h z (List.mem_cons_of_mem _ hz)) k
    simp only [List.take_succ_cons, sumD]
    omega
set_option maxRecDepth 1000000 in
set_option maxHeartbeats 64000000 in
theorem sum_loop {c0 c1 c2 c3 c4 c5 c6 c7 c8 c9 c11 c12 c13 c14 c15 c16 c17 c18 c19 c20 c21 c22 c24 c25 c26 c28 c29 c30 c31 c32 c33 c34 c35 c36 c37 c38 c39 c40 c41 c42 c43 c44 c45 c46 c47 c48 c49 c50 c51 c52 c53 c54 c55 c56 c57 c58 c59 c60 c61 c62 c63 c64 c65 c66 c67 c68 c69 c70 c71 c72 c73 c74 c75 c76 c77 c78 c79 c80 c81 c82 c83 c84 c85 c86 c87 c88 c89 c90 c91 c92 c93 c94 c95 c96 c97 c98 c99 c100 c101 c102 c103 c104 c105 c106 c107 c108 c109 c110 c111 c112 c113 c114 c115 c116 c117 c118 c119 c120 c121 c122 c123 c124 c125 c126 c127 c128 c129 c130 c131 c132 c133 c134 c135 c136 c137 c138 c139 c140 c141 c142 c143 c144 c145 c146 c147 c148 c149 c150 c151 c152 c153 c154 c155 c156 c157 c158 c159 c160 c161 c162 c163 c164 c165 c166 c167 c168 c169 c170 c171 c172 c173 c174 c175 c176 c177 c178 c179 c180 c181 c182 c183 c184 c185 c186 c187 c188 c189 c190 c191 c192 c193 c194 c195 c196 c197 c198 c199 c200 c201 c202 c203 c204 c205 c206 c207 c208 c209 c210 c211 c212 c213 c214 c215 c216 c217 c218 c219 c220 c221 c222 c223 c224 c225 c226 c227 c228 c229 c230 c231 c232 c233 c234 c235 c236 c237 c238 c239 c240 c241 c242 c243 c244 c245 c246 c247 c248 c249 c250 c251 c252 c253 c254 c255 c256 c257 c258 c259 c260 c261 c262 c263 c264 c265 c266 c267 c268 c269 c270 c271 c272 c273 c274 c275 c276 c277 c278 c279 : Value} {iq : Option Addr} {m d : Nat} {L : List Int} {w : World} {Q0 : Exit → Act → World → Prop}
    (h1 : (numv iq m d L).On w) (hm : m = L.length) (hb : m ≤ 1000000) (hp : ∀ x ∈ L, 0 ≤ x) (hs : sumD L ≤ 1000000)
    (hexit : ∀ (i : Int) (u252 u253 u254 u255 u256 u257 u258 u259 u260 u261 u262 u263 : Value), Q0 (.exit 10) ⟨List.toArray (c0 :: c1 :: c2 :: c3 :: c4 :: c5 :: c6 :: c7 :: c8 :: c9 :: .slice iq m d :: c11 :: c12 :: c13 :: c14 :: c15 :: c16 :: c17 :: c18 :: c19 :: c20 :: c21 :: c22 :: .int .i64 (sumD L) :: c24 :: c25 :: c26 :: .int .i64 i :: c28 :: c29 :: c30 :: c31 :: c32 :: c33 :: c34 :: c35 :: c36 :: c37 :: c38 :: c39 :: c40 :: c41 :: c42 :: c43 :: c44 :: c45 :: c46 :: c47 :: c48 :: c49 :: c50 :: c51 :: c52 :: c53 :: c54 :: c55 :: c56 :: c57 :: c58 :: c59 :: c60 :: c61 :: c62 :: c63 :: c64 :: c65 :: c66 :: c67 :: c68 :: c69 :: c70 :: c71 :: c72 :: c73 :: c74 :: c75 :: c76 :: c77 :: c78 :: c79 :: c80 :: c81 :: c82 :: c83 :: c84 :: c85 :: c86 :: c87 :: c88 :: c89 :: c90 :: c91 :: c92 :: c93 :: c94 :: c95 :: c96 :: c97 :: c98 :: c99 :: c100 :: c101 :: c102 :: c103 :: c104 :: c105 :: c106 :: c107 :: c108 :: c109 :: c110 :: c111 :: c112 :: c113 :: c114 :: c115 :: c116 :: c117 :: c118 :: c119 :: c120 :: c121 :: c122 :: c123 :: c124 :: c125 :: c126 :: c127 :: c128 :: c129 :: c130 :: c131 :: c132 :: c133 :: c134 :: c135 :: c136 :: c137 :: c138 :: c139 :: c140 :: c141 :: c142 :: c143 :: c144 :: c145 :: c146 :: c147 :: c148 :: c149 :: c150 :: c151 :: c152 :: c153 :: c154 :: c155 :: c156 :: c157 :: c158 :: c159 :: c160 :: c161 :: c162 :: c163 :: c164 :: c165 :: c166 :: c167 :: c168 :: c169 :: c170 :: c171 :: c172 :: c173 :: c174 :: c175 :: c176 :: c177 :: c178 :: c179 :: c180 :: c181 :: c182 :: c183 :: c184 :: c185 :: c186 :: c187 :: c188 :: c189 :: c190 :: c191 :: c192 :: c193 :: c194 :: c195 :: c196 :: c197 :: c198 :: c199 :: c200 :: c201 :: c202 :: c203 :: c204 :: c205 :: c206 :: c207 :: c208 :: c209 :: c210 :: c211 :: c212 :: c213 :: c214 :: c215 :: c216 :: c217 :: c218 :: c219 :: c220 :: c221 :: c222 :: c223 :: c224 :: c225 :: c226 :: c227 :: c228 :: c229 :: c230 :: c231 :: c232 :: c233 :: c234 :: c235 :: c236 :: c237 :: c238 :: c239 :: c240 :: c241 :: c242 :: c243 :: c244 :: c245 :: c246 :: c247 :: c248 :: c249 :: c250 :: c251 :: u252 :: u253 :: u254 :: u255 :: u256 :: u257 :: u258 :: u259 :: u260 :: u261 :: u262 :: u263 :: c264 :: c265 :: c266 :: c267 :: c268 :: c269 :: c270 :: c271 :: c272 :: c273 :: c274 :: c275 :: c276 :: c277 :: c278 :: c279 :: []), []⟩ w) :
    (Code.loop (lp 5)).wp Try.prog Q0 ⟨List.toArray (c0 :: c1 :: c2 :: c3 :: c4 :: c5 :: c6 :: c7 :: c8 :: c9 :: .slice iq m d :: c11 :: c12 :: c13 :: c14 :: c15 :: c16 :: c17 :: c18 :: c19 :: c20 :: c21 :: c22 :: .int .i64 0 :: c24 :: c25 :: c26 :: .int .i64 0 :: c28 :: c29 :: c30 :: c31 :: c32 :: c33 :: c34 :: c35 :: c36 :: c37 :: c38 :: c39 :: c40 :: c41 :: c42 :: c43 :: c44 :: c45 :: c46 :: c47 :: c48 :: c49 :: c50 :: c51 :: c52 :: c53 :: c54 :: c55 :: c56 :: c57 :: c58 :: c59 :: c60 :: c61 :: c62 :: c63 :: c64 :: c65 :: c66 :: c67 :: c68 :: c69 :: c70 :: c71 :: c72 :: c73 :: c74 :: c75 :: c76 :: c77 :: c78 :: c79 :: c80 :: c81 :: c82 :: c83 :: c84 :: c85 :: c86 :: c87 :: c88 :: c89 :: c90 :: c91 :: c92 :: c93 :: c94 :: c95 :: c96 :: c97 :: c98 :: c99 :: c100 :: c101 :: c102 :: c103 :: c104 :: c105 :: c106 :: c107 :: c108 :: c109 :: c110 :: c111 :: c112 :: c113 :: c114 :: c115 :: c116 :: c117 :: c118 :: c119 :: c120 :: c121 :: c122 :: c123 :: c124 :: c125 :: c126 :: c127 :: c128 :: c129 :: c130 :: c131 :: c132 :: c133 :: c134 :: c135 :: c136 :: c137 :: c138 :: c139 :: c140 :: c141 :: c142 :: c143 :: c144 :: c145 :: c146 :: c147 :: c148 :: c149 :: c150 :: c151 :: c152 :: c153 :: c154 :: c155 :: c156 :: c157 :: c158 :: c159 :: c160 :: c161 :: c162 :: c163 :: c164 :: c165 :: c166 :: c167 :: c168 :: c169 :: c170 :: c171 :: c172 :: c173 :: c174 :: c175 :: c176 :: c177 :: c178 :: c179 :: c180 :: c181 :: c182 :: c183 :: c184 :: c185 :: c186 :: c187 :: c188 :: c189 :: c190 :: c191 :: c192 :: c193 :: c194 :: c195 :: c196 :: c197 :: c198 :: c199 :: c200 :: c201 :: c202 :: c203 :: c204 :: c205 :: c206 :: c207 :: c208 :: c209 :: c210 :: c211 :: c212 :: c213 :: c214 :: c215 :: c216 :: c217 :: c218 :: c219 :: c220 :: c221 :: c222 :: c223 :: c224 :: c225 :: c226 :: c227 :: c228 :: c229 :: c230 :: c231 :: c232 :: c233 :: c234 :: c235 :: c236 :: c237 :: c238 :: c239 :: c240 :: c241 :: c242 :: c243 :: c244 :: c245 :: c246 :: c247 :: c248 :: c249 :: c250 :: c251 :: c252 :: c253 :: c254 :: c255 :: c256 :: c257 :: c258 :: c259 :: c260 :: c261 :: c262 :: c263 :: c264 :: c265 :: c266 :: c267 :: c268 :: c269 :: c270 :: c271 :: c272 :: c273 :: c274 :: c275 :: c276 :: c277 :: c278 :: c279 :: []), []⟩ w := by
  have HX : Hid _ := hexit
  have H1 : Hid (Vec w 3 1 iq m d (idL L)) := h1
  have HM : Hid (m = L.length) := hm
  have HU : Hid _ := sum_up hp
  have hmI : (m : Int) ≤ 1000000 := by omega
  clear hexit h1 hm hp
  conv => arg 2; arg 1; whnf
  go_loopw [23, 27] (fun s i wx => ∃ (j : Nat), j ≤ m ∧ s = .int .i64 (sumD (L.take j)) ∧ i = .int .i64 j ∧ wx = w) (fun _ i _ => m - (intOf i).toNat)
  case atStart => exact ⟨0, by omega, rfl, rfl, rfl⟩
  case round =>
    obtain ⟨j, hj, rfl, rfl, rfl⟩ := hrel
    obtain ⟨q1, q2⟩ := HU.out j
    obtain ⟨q3, q4⟩ := HU.out (j + 1)
    obtain ⟨S, hS⟩ : ∃ S, S = sumD (L.take j) := ⟨_, rfl⟩
    by_cases hjm : j < m
    · have hd2 : decide ((j : Int) < (m : Int)) = true := by rw [decide_eq_true_eq]; omega
      obtain ⟨P, hP, _, hc1, _⟩ := H1.out.opens (by omega)
      subst hP
      obtain ⟨x, hx⟩ : ∃ x, L[j]? = some x := ⟨_, List.getElem?_eq_getElem (by rw [← HM.out]; exact hjm)⟩
      have c1 : wr.cell? ⟨P, j, none⟩ = some (.int .i64 x) := by
        rw [hc1 j (by omega)]; unfold idL; rw [List.getD_eq_getElem?_getD, hx]; rfl
      have hn : sumD (L.take (j + 1)) = S + x := by
        rw [List.take_add_one, hx, sumI_append, hS]; simp [sumD]
      rw [hn] at q3 q4
      rw [← hS] at q1 q2 ⊢
      have HN : Hid (sumD (L.take (j + 1)) = S + x) := hn
      have we : IntKind.i64.wrap (S + x) = S + x := by simp [IntKind.wrap, IntKind.signed, IntKind.bits]; omega
      clear hc1 hx hn hS
      go_wp2
      exact ⟨⟨j + 1, by omega, by rw [HN.out], by go_num, trivial⟩, by simp [intOf]; omega⟩
    · have hd2 : decide ((j : Int) < (m : Int)) = false := by rw [decide_eq_false_iff_not]; omega
      have hjl : L.take j = L := by rw [show j = L.length by have := HM.out; omega, List.take_length]
      rw [hjl]
      clear hS hjl q1 q2 q3 q4
      go_wp2
      exact HX.out _ _ _ _ _ _ _ _ _ _ _ _ _
end Go.Proofs.Ytlmcopenbeammaa.Po
