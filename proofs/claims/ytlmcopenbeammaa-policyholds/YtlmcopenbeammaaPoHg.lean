/-
  The loop of a law's function, whole: it comes to its end. Condition: those told.
-/
import Derived.Test.YtlmcopenbeammaaGrPoH
import Derived.Test.YtlmcopenbeammaaPoHc
import Derived.Deep.Cut
import Derived.Deep.CutRange
namespace Go.Proofs.Ytlmcopenbeammaa.Po
open Go.RowKit Go.Deep Cm
set_option maxRecDepth 1000000 in
set_option maxHeartbeats 64000000 in
theorem main_loop {c3 c4 c5 c6 c7 c12 c13 c14 c15 c16 c17 c18 c19 c20 c21 c22 c23 c24 c25 c26 c27 c28 c29 c30 c31 c32 c33 c34 c35 c36 c37 c38 c39 c40 c41 c42 c43 c44 c45 c46 c47 c48 c49 c50 c51 c52 c53 c54 c55 c56 c57 c58 c59 c60 c61 c62 c63 c64 c65 c66 c67 c68 c69 c70 c71 c72 c73 c74 c75 c76 c77 c78 c79 c80 c81 c82 c83 c84 c85 c86 c87 c88 c89 c90 c91 c92 c93 c94 c95 c96 c97 c98 c99 c100 c101 c102 c103 c104 c105 c106 c107 c108 c109 c110 c111 c112 c113 c114 c115 c116 c117 c118 c119 c120 c121 c122 c123 c124 c125 c126 c127 c128 c129 c130 c131 c132 c133 c134 c135 c136 c137 c138 c139 c140 c141 c142 c143 c144 c145 c146 c147 c148 c149 c150 c151 c152 c153 c154 c155 c156 c157 c158 c159 c160 c161 c162 c163 c164 c165 c166 c167 c168 c169 c170 c171 c172 c173 c174 c175 c176 c177 c178 c179 c180 c181 c182 c183 c184 c185 c186 c187 c188 c189 c190 c191 c192 c193 c194 c195 c196 c197 c198 c199 c200 c201 c202 c203 c204 c205 c206 c207 c208 c209 c210 c211 c212 c213 c214 c215 c216 c217 c218 c219 c220 c221 c222 c223 c224 c225 c226 c227 c228 c229 c230 c231 c232 c233 c234 c235 c236 c237 c238 c239 c240 c241 c242 c243 c244 c245 c246 c247 c248 c249 c250 c251 c252 c253 c254 c255 c256 c257 c258 c259 c260 c261 c262 c263 c264 c265 c266 c267 c268 c269 c270 c271 c272 c273 c274 c275 c276 c277 c278 c279 : Value} {a0 a1 : Int} {p2 : Option Addr} {len2 cap2 : Nat} {z2 : Nat → Nat → Int} {w w4 : World} {A : Nat} {Q0 : Exit → Act → World → Prop}
    (h4 : One w w4 A (wh a0) a1 (mwid a0) (Ps.zero (wh a0)) []) (hc : 0 ≤ a0) (hb : a0 ≤ 1024) (hl : len2 ≤ 200) (w2 : IsGrid .i64 4 w p2 len2 cap2 z2)
    (hexit : ∀ (wx : World) (u6 u9 u10 u11 u12 u13 u14 u15 u16 u17 u18 u19 u20 u21 u22 u23 u24 u25 u26 u27 u46 u47 u48 u49 u50 u51 u52 u53 u54 u55 u56 u57 u58 u59 u60 u61 u62 u63 u64 u65 u66 u67 u68 u69 u70 u71 u72 u73 u74 u75 u76 u77 u78 u79 u80 u81 u82 u83 u84 u85 u86 u87 u88 u89 u90 u91 u92 u93 u94 u95 u96 u97 u98 u99 u100 u101 u102 u103 u104 u105 u106 u107 u108 u109 u110 u111 u112 u113 u114 u115 u116 u117 u118 u119 u120 u121 u122 u123 u124 u125 u126 u127 u128 u129 u130 u131 u132 u133 u134 u135 u136 u137 u138 u139 u140 u141 u142 u143 u144 u145 u146 u147 u148 u149 u150 u151 u152 u153 u154 u155 u156 u157 u158 u159 u160 u161 u162 u163 u164 u165 u166 u167 u168 u169 u170 u171 u172 u173 u174 u175 u176 u177 u178 u179 u180 u181 u182 u183 u184 u185 u186 u187 u188 u189 u190 u191 u192 u193 u194 u195 u196 u197 u198 u199 u200 u201 u202 u203 u204 u205 u206 u207 u208 u209 u210 u211 u212 u213 u214 u215 u216 u217 u218 u219 u220 u221 u222 u223 u224 u225 u226 u227 u228 u229 u230 u231 u232 u233 u234 u235 u236 u237 u238 u239 u240 u241 u242 u243 u244 u245 u246 u247 u248 u249 u250 u251 u252 u253 u254 u255 u256 u257 u258 u259 u260 u261 u262 u263 u264 u265 u266 u267 u268 u269 u270 u271 u272 u273 u274 u275 u276 u277 u278 : Value), Grown w wx → Q0 (.exit 0) ⟨List.toArray (.int .i64 a0 :: .int .i64 a1 :: .slice p2 len2 cap2 :: c3 :: c4 :: c5 :: u6 :: c7 :: .pointer (some ⟨A, 0, none⟩) :: u9 :: u10 :: u11 :: u12 :: u13 :: u14 :: u15 :: u16 :: u17 :: u18 :: u19 :: u20 :: u21 :: u22 :: u23 :: u24 :: u25 :: u26 :: u27 :: c28 :: c29 :: c30 :: c31 :: c32 :: c33 :: c34 :: c35 :: c36 :: c37 :: c38 :: c39 :: c40 :: c41 :: c42 :: c43 :: c44 :: c45 :: u46 :: u47 :: u48 :: u49 :: u50 :: u51 :: u52 :: u53 :: u54 :: u55 :: u56 :: u57 :: u58 :: u59 :: u60 :: u61 :: u62 :: u63 :: u64 :: u65 :: u66 :: u67 :: u68 :: u69 :: u70 :: u71 :: u72 :: u73 :: u74 :: u75 :: u76 :: u77 :: u78 :: u79 :: u80 :: u81 :: u82 :: u83 :: u84 :: u85 :: u86 :: u87 :: u88 :: u89 :: u90 :: u91 :: u92 :: u93 :: u94 :: u95 :: u96 :: u97 :: u98 :: u99 :: u100 :: u101 :: u102 :: u103 :: u104 :: u105 :: u106 :: u107 :: u108 :: u109 :: u110 :: u111 :: u112 :: u113 :: u114 :: u115 :: u116 :: u117 :: u118 :: u119 :: u120 :: u121 :: u122 :: u123 :: u124 :: u125 :: u126 :: u127 :: u128 :: u129 :: u130 :: u131 :: u132 :: u133 :: u134 :: u135 :: u136 :: u137 :: u138 :: u139 :: u140 :: u141 :: u142 :: u143 :: u144 :: u145 :: u146 :: u147 :: u148 :: u149 :: u150 :: u151 :: u152 :: u153 :: u154 :: u155 :: u156 :: u157 :: u158 :: u159 :: u160 :: u161 :: u162 :: u163 :: u164 :: u165 :: u166 :: u167 :: u168 :: u169 :: u170 :: u171 :: u172 :: u173 :: u174 :: u175 :: u176 :: u177 :: u178 :: u179 :: u180 :: u181 :: u182 :: u183 :: u184 :: u185 :: u186 :: u187 :: u188 :: u189 :: u190 :: u191 :: u192 :: u193 :: u194 :: u195 :: u196 :: u197 :: u198 :: u199 :: u200 :: u201 :: u202 :: u203 :: u204 :: u205 :: u206 :: u207 :: u208 :: u209 :: u210 :: u211 :: u212 :: u213 :: u214 :: u215 :: u216 :: u217 :: u218 :: u219 :: u220 :: u221 :: u222 :: u223 :: u224 :: u225 :: u226 :: u227 :: u228 :: u229 :: u230 :: u231 :: u232 :: u233 :: u234 :: u235 :: u236 :: u237 :: u238 :: u239 :: u240 :: u241 :: u242 :: u243 :: u244 :: u245 :: u246 :: u247 :: u248 :: u249 :: u250 :: u251 :: u252 :: u253 :: u254 :: u255 :: u256 :: u257 :: u258 :: u259 :: u260 :: u261 :: u262 :: u263 :: u264 :: u265 :: u266 :: u267 :: u268 :: u269 :: u270 :: u271 :: u272 :: u273 :: u274 :: u275 :: u276 :: u277 :: u278 :: c279 :: []), []⟩ wx) :
    (Code.loop (lp 0)).wp Try.prog Q0 ⟨List.toArray (.int .i64 a0 :: .int .i64 a1 :: .slice p2 len2 cap2 :: c3 :: c4 :: c5 :: c6 :: c7 :: .pointer (some ⟨A, 0, none⟩) :: .slice none 0 0 :: .slice none 0 0 :: .int .i64 0 :: c12 :: c13 :: c14 :: c15 :: c16 :: c17 :: c18 :: c19 :: c20 :: c21 :: c22 :: c23 :: c24 :: c25 :: c26 :: c27 :: c28 :: c29 :: c30 :: c31 :: c32 :: c33 :: c34 :: c35 :: c36 :: c37 :: c38 :: c39 :: c40 :: c41 :: c42 :: c43 :: c44 :: c45 :: c46 :: c47 :: c48 :: c49 :: c50 :: c51 :: c52 :: c53 :: c54 :: c55 :: c56 :: c57 :: c58 :: c59 :: c60 :: c61 :: c62 :: c63 :: c64 :: c65 :: c66 :: c67 :: c68 :: c69 :: c70 :: c71 :: c72 :: c73 :: c74 :: c75 :: c76 :: c77 :: c78 :: c79 :: c80 :: c81 :: c82 :: c83 :: c84 :: c85 :: c86 :: c87 :: c88 :: c89 :: c90 :: c91 :: c92 :: c93 :: c94 :: c95 :: c96 :: c97 :: c98 :: c99 :: c100 :: c101 :: c102 :: c103 :: c104 :: c105 :: c106 :: c107 :: c108 :: c109 :: c110 :: c111 :: c112 :: c113 :: c114 :: c115 :: c116 :: c117 :: c118 :: c119 :: c120 :: c121 :: c122 :: c123 :: c124 :: c125 :: c126 :: c127 :: c128 :: c129 :: c130 :: c131 :: c132 :: c133 :: c134 :: c135 :: c136 :: c137 :: c138 :: c139 :: c140 :: c141 :: c142 :: c143 :: c144 :: c145 :: c146 :: c147 :: c148 :: c149 :: c150 :: c151 :: c152 :: c153 :: c154 :: c155 :: c156 :: c157 :: c158 :: c159 :: c160 :: c161 :: c162 :: c163 :: c164 :: c165 :: c166 :: c167 :: c168 :: c169 :: c170 :: c171 :: c172 :: c173 :: c174 :: c175 :: c176 :: c177 :: c178 :: c179 :: c180 :: c181 :: c182 :: c183 :: c184 :: c185 :: c186 :: c187 :: c188 :: c189 :: c190 :: c191 :: c192 :: c193 :: c194 :: c195 :: c196 :: c197 :: c198 :: c199 :: c200 :: c201 :: c202 :: c203 :: c204 :: c205 :: c206 :: c207 :: c208 :: c209 :: c210 :: c211 :: c212 :: c213 :: c214 :: c215 :: c216 :: c217 :: c218 :: c219 :: c220 :: c221 :: c222 :: c223 :: c224 :: c225 :: c226 :: c227 :: c228 :: c229 :: c230 :: c231 :: c232 :: c233 :: c234 :: c235 :: c236 :: c237 :: c238 :: c239 :: c240 :: c241 :: c242 :: c243 :: c244 :: c245 :: c246 :: c247 :: c248 :: c249 :: c250 :: c251 :: c252 :: c253 :: c254 :: c255 :: c256 :: c257 :: c258 :: c259 :: c260 :: c261 :: c262 :: c263 :: c264 :: c265 :: c266 :: c267 :: c268 :: c269 :: c270 :: c271 :: c272 :: c273 :: c274 :: c275 :: c276 :: c277 :: c278 :: c279 :: []), []⟩ w4 := by
  have HX : Hid _ := hexit
  clear hexit
  have hcap : wh (wh a0) = wh a0 := wh_wh a0
  obtain ⟨C, hCC⟩ : ∃ C, C = wh a0 := ⟨_, rfl⟩
  obtain ⟨mw, hmw⟩ : ∃ m, m = mwid a0 := ⟨_, rfl⟩
  rw [← hCC] at hcap
  rw [← hCC, ← hmw] at h4
  have HC : Hid (wh C = C ∧ C = wh a0 ∧ 0 ≤ a0 ∧ a0 ≤ 1024) := ⟨hcap, hCC, by omega, by omega⟩
  have HL : Hid (len2 ≤ 200) := by show len2 ≤ 200; omega
  have hlI : (len2 : Int) ≤ 200 := by omega
  have HG : Hid (IsGrid .i64 4 w p2 len2 cap2 z2) := w2
  have HZ : Hid (Fine C (Ps.zero C)) := zero_fine hcap
  have HPO : Hid (∀ k, Fine C (pl C a1 mw z2 (Ps.zero C) k).1 ∧ 0 ≤ (pl C a1 mw z2 (Ps.zero C) k).1.f.a ∧ (pl C a1 mw z2 (Ps.zero C) k).1.f.a ≤ k) := fun k => by
    obtain ⟨q1, q2, q3, q4⟩ := pl_ok (C := C) (seed := a1) (mw := mw) (z := z2) HZ.out (show (0 : Int) ≤ (Ps.zero C).f.a from Int.le_refl _) k
    exact ⟨q1, q2, by have : (Ps.zero C).f.a = 0 := rfl; omega⟩
  have HW : Hid (∀ i, i < len2 → (Lit.int .i64 (z2 i 1)).wf = true ∧ (Lit.int .i64 (z2 i 3)).wf = true) := fun i hi => by
    rcases w2 with ⟨_, h, _⟩ | ⟨x, _, _, _, hq⟩
    · omega
    · exact ⟨(hq i hi 1 (by decide)).2, (hq i hi 3 (by decide)).2⟩
  have H4 : Hid _ := h4
  clear hl hc hb w2 hcap hCC hmw h4
  conv => arg 2; arg 1; whnf
  go_loopw [9, 10, 11] (fun p q i wr => ∃ (k : Nat) (ip iq : Option Addr) (m c d : Nat) (I : List (Int × Int)), k ≤ len2 ∧ p = .slice ip m c ∧ q = .slice iq m d ∧ i = .int .i64 k ∧ Hid (One w wr A C a1 mw (pl C a1 mw z2 (Ps.zero C) k).1 [numv ip m c (I.map (·.1)), numv iq m d (I.map (·.2))] ∧ m = I.length ∧ Inv (pl C a1 mw z2 (Ps.zero C) k).1 I)) (fun _ _ i _ => len2 - (intOf i).toNat)
  case atStart => exact ⟨0, none, none, 0, 0, 0, [], by omega, rfl, rfl, rfl, (H4.out.add (Grown.refl _) (V := numv none 0 0 []) (Vec.nil _ _ _ _) (fun k hk => absurd hk In.no)).add (Grown.refl _) (V := numv none 0 0 []) (Vec.nil _ _ _ _) (fun k hk => absurd hk In.no), rfl, Inv.zero C⟩
  case round =>
    obtain ⟨k, ip, iq, m, c, d, I, hk, rfl, rfl, rfl, HT⟩ := hrel
    by_cases hlt : k < len2
    · have hd : decide ((k : Int) < (len2 : Int)) = true := by rw [decide_eq_true_eq]; omega
      obtain ⟨q1, q2, q3⟩ := HPO.out k
      obtain ⟨y, hy⟩ : ∃ y, y = (pl C a1 mw z2 (Ps.zero C) k).1 := ⟨_, rfl⟩
      rcases grid_open (by decide) HG.out with h0 | ⟨b, off, rfl, hbl, hcc⟩
      · omega
      have hid := HW.out k hlt
      obtain ⟨zd, ezd⟩ : ∃ x, x = z2 k 0 := ⟨_, rfl⟩
      obtain ⟨zn, ezn⟩ : ∃ x, x = z2 k 1 := ⟨_, rfl⟩
      obtain ⟨zk, ezk⟩ : ∃ x, x = z2 k 2 := ⟨_, rfl⟩
      obtain ⟨zv, ezv⟩ : ∃ x, x = z2 k 3 := ⟨_, rfl⟩
      have hr0 := Evs.range (w := wr) (b := b) (off := off) (k := k) (z := z2) (fun j hj => by rw [cell_same (grown_block HT.out.1.old hbl)]; exact hcc k hlt j hj)
      rw [← ezd, ← ezn, ← ezk, ← ezv] at hr0
      have HN : Hid ((pl C a1 mw z2 (Ps.zero C) (k + 1)).1 = (y.ev C a1 mw zd zn zk zv).1) := by
        rw [hy, ezd, ezn, ezk, ezv]; rfl
      rw [← hy] at q1 q2 q3 HT
      rw [← ezn, ← ezv] at hid
      have HS : Hid (Stp C y (y.ev C a1 mw zd zn zk zv).1 I (y.ev C a1 mw zd zn zk zv).2 zn zv (refE y C zd zn zv) zd) := ev_stp q1 HT.out.2.2 zd zn zk zv
      have HF : Hid (Fine C y ∧ Fine C (y.ev C a1 mw zd zn zk zv).1 ∧ (y.ev C a1 mw zd zn zk zv).2.length ≤ 196608 ∧ I.length ≤ 196608) := ⟨q1, (ev_ok (seed := a1) (mw := mw) q1 zd zn zk zv).1, gone_short q1 zd zn zk zv, by have := (HT.out.2.2.sums q1.wf q1.n).1; have := q1.wf.cnt3; omega⟩
      have DO : Hid (∀ W vs, One w W A C a1 mw y vs → Calls Try.prog 9 #[.pointer (some ⟨A, 0, none⟩), .agg #[.int .i64 zd, .int .i64 zn, .int .i64 zk, .int .i64 zv]] W fun e w' => ∃ p g c, e = .returned (.tuple #[.slice p g c, .int .i64 (refE y C zd zn zv)]) ∧ g = (y.ev C a1 mw zd zn zk zv).2.length ∧ One w w' A C a1 mw (y.ev C a1 mw zd zn zk zv).1 (numv p g c (y.ev C a1 mw zd zn zk zv).2 :: vs)) := fun W vs h => do_one h q1 ⟨q2, by have := HL.out; omega⟩ zd zn zk zv hid.1
      have HV : Hid ((Lit.int .i64 zv).wf = true) := hid.2
      obtain ⟨G, hG⟩ : ∃ E, E = (y.ev C a1 mw zd zn zk zv).2 := ⟨_, rfl⟩
      obtain ⟨ye, hye⟩ : ∃ E, E = (y.ev C a1 mw zd zn zk zv).1 := ⟨_, rfl⟩
      obtain ⟨r, hr⟩ : ∃ E, E = refE y C zd zn zv := ⟨_, rfl⟩
      rw [← hG, ← hye, ← hr] at DO HS
      rw [← hG, ← hye] at HF
      rw [← hye] at HN
      clear hy ezd ezn ezk ezv hG hye hr q1 q2 q3 hid hcc
      go_wp2_with (first | (refine wpList_load_mid rfl 28 (.tmp 54) rfl b (off + k * 4) rfl [.int .i64 zd, .int .i64 zn, .int .i64 zk, .int .i64 zv] _ hr0 Try.underlying28 rfl (infoE zd zn zk zv) ?_))
      obtain ⟨W0, hW0⟩ : ∃ W, W = wr.alloc (.cells #[.int .i64 zd, .int .i64 zn, .int .i64 zk, .int .i64 zv] 28) := ⟨_, rfl⟩
      have H0 : Hid (One w W0 A C a1 mw y [box wr.heap.size zd zn zk zv, numv ip m c (I.map (·.1)), numv iq m d (I.map (·.2))]) := by
        have := HT.out.1.add (V := box wr.heap.size zd zn zk zv) (w' := W0) (by rw [hW0]; exact (Grown.refl _).alloc _ _) (box_new (by rw [hW0]; exact EvB.new _ _ _ _ _)) (fun k hk => by have : k = wr.heap.size := In.eq hk; omega)
        exact this
      have HM : Hid (m = I.length ∧ Inv y I) := HT.out.2
      obtain ⟨eb, heb⟩ : ∃ e, e = wr.heap.size := ⟨_, rfl⟩
      rw [← hW0]
      rw [← heb] at H0 ⊢
      clear hW0 heb HT hr0
      have hmb : m ≤ 1000000 := by have := HF.out.2.2.2; have := HM.out.1; omega
      refine was_loop (H0.out.on List.mem_cons_self) (H0.out.on (List.mem_cons_of_mem _ List.mem_cons_self)) (H0.out.on (List.mem_cons_of_mem _ (List.mem_cons_of_mem _ List.mem_cons_self))) HM.out.1 hmb HM.out.2.nodup ?_
      intro n sv i x56 x57 x58 x59 x60 x61 x62 x63 x64 x65 x66 x67 x68 x69 x70 x71 x72 hsv
      have HSV : Hid (∀ w0, (zn, w0) ∈ I → sv = w0) := hsv
      clear hsv
      have H1 : Hid (One w (W0.drewN n) A C a1 mw y [box eb zd zn zk zv, numv ip m c (I.map (·.1)), numv iq m d (I.map (·.2))]) := H0.out.grown (grownDrewN (Grown.refl _) n)
      obtain ⟨W1, hW1⟩ : ∃ W, W = W0.drewN n := ⟨_, rfl⟩
      rw [← hW1] at H1 ⊢
      clear hW1 H0
      obtain ⟨th, hth⟩ : ∃ th, th = decide (zn ∈ I.map (·.1)) := ⟨_, rfl⟩
      have HTH : Hid (th = decide (zn ∈ I.map (·.1))) := hth
      have HA := has_q (H1.out.vec (List.mem_cons_of_mem _ List.mem_cons_self)) (HM.out.1.trans (List.length_map ..).symm) hmb zn
      rw [← hth] at HA
      have DW := DO.out _ _ H1.out
      obtain ⟨-, e1, -, e3⟩ := box_cells (H1.out.on List.mem_cons_self)
      clear hth DO
      go_upto_region 21 with (first | (go_at_call 8; refine HA.mono ?_; clear HA; rintro e w6 ⟨rfl, hw6⟩; subst hw6) | (refine wpList_load_mid rfl 28 (.tmp 12) rfl eb 0 rfl [.int .i64 zd, .int .i64 zn, .int .i64 zk, .int .i64 zv] _ e3 Try.underlying28 rfl (infoE zd zn zk zv) ?_) | (go_at_call 9; refine DW.mono ?_; clear DW; rintro e w7 ⟨gp, g, gc, rfl, hg, H7⟩; have HGL : Hid (g = G.length) := hg; have H7 : Hid _ := H7; clear hg))
      have hgb : g ≤ 1000000 := by have := HF.out.2.2.1; have := HGL.out; omega
      replace H7 : Hid (One w w7 A C a1 mw ye [numv gp g gc G, box eb zd zn zk zv, numv ip m c (I.map (·.1)), numv iq m d (I.map (·.2))]) := H7
      clear e1 e3
      refine reg21 (H7.out.on (List.mem_cons_of_mem _ List.mem_cons_self)) ?_
      iterate 6 intro _
      go_upto_if 89 with fail
      refine if89 H7.out HM.out.1 (by have := HF.out.2.2.2; have := HM.out.1; omega) ?_
      intro ip2 iq2 m2 kc2 d2 w8
      iterate 10 intro _
      intro H3 hm2
      have HM2 : Hid (m2 = (inS I zn zv r zd).length) := hm2
      have H3 : Hid (One w w8 A C a1 mw ye [numv gp g gc G, box eb zd zn zk zv, numv ip2 m2 kc2 ((inS I zn zv r zd).map (·.1)), numv iq2 m2 d2 ((inS I zn zv r zd).map (·.2))]) := H3
      have hm2b : m2 ≤ 1000000 := by
        have h1 := HM2.out
        have h2 := HF.out.2.2.2
        have h3 : (inS I zn zv r zd).length ≤ I.length + 1 := by
          unfold inS
          split
          · rw [List.length_append]; exact Nat.le_refl _
          · omega
        omega
      clear H7 hmb hm2
      go_upto_region 24 with fail
      refine reg24 (H3.out.on (List.mem_cons_of_mem _ List.mem_cons_self)) (fun q => ?_) (fun q1 q2 => ?_) ?_
      · have hg0 : G ≠ [] := fun e => by rw [HGL.out, e] at q; exact absurd q (by decide)
        obtain ⟨k0, k1⟩ := HS.out.gone hg0
        refine ⟨k0, k1.imp id fun ⟨k3, kw⟩ => ⟨k3, ?_⟩⟩
        obtain ⟨p, hp, e⟩ := List.mem_map.1 (HS.out.there k0 (by omega))
        have hp2 : (zn, p.2) ∈ I := by rw [← e]; exact hp
        have q1 := HSV.out _ hp2
        have q2 := kw _ hp2
        omega
      · rw [HTH.out, decide_eq_true (HS.out.there q1 q2)]
      iterate 35 intro _
      clear HTH HSV
      go_wp2_with fail
      refine left_loop H3.out HM2.out hm2b HGL.out hgb ?_
      intro a b nn lc ld i2 w9
      iterate 65 intro _
      intro H9 hn9
      obtain ⟨J, hJ⟩ : ∃ J, J = leftS (inS I zn zv r zd) G zn zv r zd := ⟨_, rfl⟩
      have HJ : Hid (Inv ye J ∧ (J.length + G.length = m2 ∨ (r = 0 ∧ zd = 4 ∧ J.length + 1 = m2 ∧ G.length = 0))) := by
        show Inv ye J ∧ (J.length + G.length = m2 ∨ (r = 0 ∧ zd = 4 ∧ J.length + 1 = m2 ∧ G.length = 0))
        rw [hJ, HM2.out]
        refine ⟨HS.out.inv, HS.out.len.imp id fun ⟨l1, l2, l3⟩ => ⟨l1, l2, l3, ?_⟩⟩
        refine Nat.eq_zero_of_not_pos fun hp => ?_
        have hg0 : G ≠ [] := fun e => by rw [e] at hp; exact absurd hp (by decide)
        rcases (HS.out.gone hg0).2 with q | q
        · omega
        · have := q.1; omega
      rw [← hJ] at H9 hn9
      have H9 : Hid (One w w9 A C a1 mw ye [numv a nn lc (J.map (·.1)), numv b nn ld (J.map (·.2)), numv gp g gc G, box eb zd zn zk zv, numv ip2 m2 kc2 ((inS I zn zv r zd).map (·.1)), numv iq2 m2 d2 ((inS I zn zv r zd).map (·.2))]) := H9
      have HN9 : Hid (nn = J.length) := hn9
      have hnn : nn ≤ 1000000 := by have h1 := HJ.out.2; have h2 := HN9.out; omega
      clear hJ hn9 H3
      go_upto_region 37 with fail
      refine reg37 (H9.out.on (List.mem_cons_of_mem _ (List.mem_cons_of_mem _ (List.mem_cons_of_mem _ List.mem_cons_self)))) hm2b (by have h1 := HJ.out.2; have h2 := HN9.out; have h3 := HGL.out; omega) ?_
      iterate 25 intro _
      go_wp2_with fail
      refine rows_loop (H9.out.less (.cons_cons _ (.cons_cons _ (List.nil_sublist _)))) HN9.out hnn HJ.out.1 HF.out.2.1 ?_
      intro i3 w10
      iterate 27 intro _
      intro H10
      have H10 : Hid (One w w10 A C a1 mw ye [numv a nn lc (J.map (·.1)), numv b nn ld (J.map (·.2))]) := H10
      clear H9
      go_wp2_with fail
      have HSU : Hid (J.length = ye.t.cnt 3 ∧ sumD (J.map (·.2)) = ye.t.tot 3 ∧ ye.t.tot 3 ≤ a0 ∧ a0 ≤ 1024) := by
        obtain ⟨s1, s2⟩ := HJ.out.1.sums HF.out.2.1.wf HF.out.2.1.n
        refine ⟨s1, s2, ?_, HC.out.2.2.2⟩
        have h1 := HF.out.2.1.tot
        have h2 := HC.out.2.1
        have h3 := HC.out.2.2
        have h4 : wh a0 ≤ a0 := by unfold wh mid; omega
        omega
      refine sum_loop (H10.out.on (List.mem_cons_of_mem _ List.mem_cons_self)) (HN9.out.trans (List.length_map ..).symm) hnn ?_ (by have := HSU.out; omega) ?_
      · intro x hx
        obtain ⟨p, hp, e⟩ := List.mem_map.1 hx
        obtain ⟨j, hj⟩ := (HJ.out.1.mem p).1 hp
        rw [← e]
        exact (HF.out.2.1.wf.els j p hj).2.2.1
      intro i4
      iterate 12 intro _
      have hs1 : sumD (J.map (·.2)) = ye.t.tot 3 := HSU.out.2.1
      have hs2 : (ye.t.cnt 3 : Nat) = nn := by have := HSU.out.1; have := HN9.out; omega
      rw [hs1, hs2]
      clear hs1 hs2
      go_upto_region 57 with fail
      refine reg57 H10.out rfl HSU.out.2.2.1 HSU.out.2.2.2 ?_
      intro w11
      iterate 14 intro _
      intro H11
      have H11 : Hid _ := H11
      go_wp2
      refine ⟨⟨k + 1, a, b, nn, lc, ld, J, by omega, rfl, rfl, by go_num, ?_, HN9.out, ?_⟩, by simp [intOf]; omega⟩
      · rw [HN.out]; exact H11.out
      · rw [HN.out]; exact HJ.out.1
    · obtain rfl : k = len2 := by omega
      have hd : decide ((k : Int) < (k : Int)) = false := by simp
      go_wp2
      exact HX.out _ _ _ _ _ _ _ _ _ _ _ _ _ _ _ _ _ _ _ _ _ _ _ _ _ _ _ _ _ _ _ _ _ _ _ _ _ _ _ _ _ _ _ _ _ _ _ _ _ _ _ _ _ _ _ _ _ _ _ _ _ _ _ _ _ _ _ _ _ _ _ _ _ _ _ _ _ _ _ _ _ _ _ _ _ _ _ _ _ _ _ _ _ _ _ _ _ _ _ _ _ _ _ _ _ _ _ _ _ _ _ _ _ _ _ _ _ _ _ _ _ _ _ _ _ _ _ _ _ _ _ _ _ _ _ _ _ _ _ _ _ _ _ _ _ _ _ _ _ _ _ _ _ _ _ _ _ _ _ _ _ _ _ _ _ _ _ _ _ _ _ _ _ _ _ _ _ _ _ _ _ _ _ _ _ _ _ _ _ _ _ _ _ _ _ _ _ _ _ _ _ _ _ _ _ _ _ _ _ _ _ _ _ _ _ _ _ _ _ _ _ _ _ _ _ _ _ _ _ _ _ _ _ _ _ _ _ _ _ _ _ _ _ _ _ _ _ _ _ _ _ _ _ _ HT.out.1.old
end Go.Proofs.Ytlmcopenbeammaa.Po
