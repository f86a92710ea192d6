/-
  The first loop of a block in exchequerref02.Sum: sixteen words of the block's bytes.
-/
import Derived.Test.YtemiphbblaikjaaDoorRefA
import Derived.Test.YtemiphbblaikjaaDoorCut
namespace Go.Proofs.YtemiphbblaikjaaDoor
open Go.RowKit
set_option maxRecDepth 1000000 in
set_option maxHeartbeats 4000000 in
theorem first_loop {c0 c1 c2 c4 c5 c9 c10 c11 c12 c13 c14 c15 c16 c17 c18 c19 c20 c21 c22 c23 c24 c25 c26 c27 c28 c29 c30 c31 c32 c33 c34 c35 c36 c37 c38 c39 c40 c41 c42 c43 c44 c45 c46 c47 c48 c49 c50 c51 c52 c53 c54 c55 c56 c57 c58 c59 c60 c61 c62 c63 c64 c65 c66 c67 c68 c69 c70 c71 c72 c73 c74 c75 c76 c77 c78 c79 c80 c81 c82 c83 c84 c85 c86 c87 c88 c89 c90 c91 c92 c93 c94 c95 c96 c97 c98 c99 c100 c101 c102 c103 c104 c105 c106 c107 c108 c109 c110 c111 c112 c113 c114 c115 c116 c117 c118 c119 c120 c121 c122 c123 c124 c125 c126 c127 c128 c129 c130 c131 c132 c133 c134 c135 c136 c137 c138 c139 c140 c141 c142 c143 c144 c145 c146 c147 c148 c149 c150 c151 c152 c153 c154 c155 c156 c157 c158 c159 c160 c161 c162 c163 c164 c165 c166 c167 c168 c169 c170 c171 c172 c173 c174 c175 c176 c177 c178 c179 c180 c181 c182 c183 c184 c185 c186 c187 c188 c189 c190 c191 c192 c193 c194 c195 c196 c197 c198 c199 c200 c201 c202 c203 c204 c205 c206 c207 c208 c209 c210 c211 c212 c213 c214 c215 c216 c217 c218 c219 c220 c221 c222 c223 c224 c225 c226 c227 c228 c229 c230 c231 c232 c233 c234 c235 c236 c237 c238 c239 c240 c241 c242 c243 c244 c245 c246 c247 c248 c249 c250 c251 c252 c253 c254 c255 c256 c257 c258 c259 c260 c261 c262 c263 c264 c265 c266 c267 c268 c269 c270 c271 c272 c273 c274 c275 c276 c277 c278 c279 c280 c281 c282 c283 c284 c285 v7 : Value} {M blk : List UInt8} {j L g4 cap4 : Nat} {W2 W1 : World} {R : Act → World → Prop}
    (HL : Hid (M.length = L)) (hfit : 64 * j + 64 ≤ L) (hLb : L ≤ 3000000) (Hby : Hid (∀ i, i < 64 → M.getD (64 * j + i) 0 = blk.getD i 0))
    (Hm : Hid (OwnM W2 g4 cap4 M)) (Hown : Hid (W1.ownsRow W2.heap.size 41 1 v7 0 (woC (firstW blk 0)))) (Hbw : Hid (Below W2.heap.size W2 W1))
    (Hexit : Hid (∀ (u7 u8 u9 u10 u54 u55 u56 u57 u58 u59 u60 u61 u62 u63 u64 u65 u66 u67 u68 u69 u70 u71 u72 u73 u74 u75 u76 u77 u78 : Value) (w' : World), w'.ownsRow W2.heap.size 41 1 u7 16 (woC (sched blk 0)) → Below W2.heap.size W2 w' → R ⟨List.toArray (c0 :: c1 :: c2 :: .slice (some ⟨g4, 0, none⟩) L cap4 :: c4 :: c5 :: .int .i64 (64 * (j : Int)) :: u7 :: u8 :: u9 :: u10 :: c11 :: c12 :: c13 :: c14 :: c15 :: c16 :: c17 :: c18 :: c19 :: c20 :: c21 :: c22 :: c23 :: c24 :: c25 :: c26 :: c27 :: c28 :: c29 :: c30 :: c31 :: c32 :: c33 :: c34 :: c35 :: c36 :: c37 :: c38 :: c39 :: c40 :: c41 :: c42 :: c43 :: c44 :: c45 :: c46 :: c47 :: c48 :: c49 :: c50 :: c51 :: c52 :: c53 :: u54 :: u55 :: u56 :: u57 :: u58 :: u59 :: u60 :: u61 :: u62 :: u63 :: u64 :: u65 :: u66 :: u67 :: u68 :: u69 :: u70 :: u71 :: u72 :: u73 :: u74 :: u75 :: u76 :: u77 :: u78 :: c79 :: c80 :: c81 :: c82 :: c83 :: c84 :: c85 :: c86 :: c87 :: c88 :: c89 :: c90 :: c91 :: c92 :: c93 :: c94 :: c95 :: c96 :: c97 :: c98 :: c99 :: c100 :: c101 :: c102 :: c103 :: c104 :: c105 :: c106 :: c107 :: c108 :: c109 :: c110 :: c111 :: c112 :: c113 :: c114 :: c115 :: c116 :: c117 :: c118 :: c119 :: c120 :: c121 :: c122 :: c123 :: c124 :: c125 :: c126 :: c127 :: c128 :: c129 :: c130 :: c131 :: c132 :: c133 :: c134 :: c135 :: c136 :: c137 :: c138 :: c139 :: c140 :: c141 :: c142 :: c143 :: c144 :: c145 :: c146 :: c147 :: c148 :: c149 :: c150 :: c151 :: c152 :: c153 :: c154 :: c155 :: c156 :: c157 :: c158 :: c159 :: c160 :: c161 :: c162 :: c163 :: c164 :: c165 :: c166 :: c167 :: c168 :: c169 :: c170 :: c171 :: c172 :: c173 :: c174 :: c175 :: c176 :: c177 :: c178 :: c179 :: c180 :: c181 :: c182 :: c183 :: c184 :: c185 :: c186 :: c187 :: c188 :: c189 :: c190 :: c191 :: c192 :: c193 :: c194 :: c195 :: c196 :: c197 :: c198 :: c199 :: c200 :: c201 :: c202 :: c203 :: c204 :: c205 :: c206 :: c207 :: c208 :: c209 :: c210 :: c211 :: c212 :: c213 :: c214 :: c215 :: c216 :: c217 :: c218 :: c219 :: c220 :: c221 :: c222 :: c223 :: c224 :: c225 :: c226 :: c227 :: c228 :: c229 :: c230 :: c231 :: c232 :: c233 :: c234 :: c235 :: c236 :: c237 :: c238 :: c239 :: c240 :: c241 :: c242 :: c243 :: c244 :: c245 :: c246 :: c247 :: c248 :: c249 :: c250 :: c251 :: c252 :: c253 :: c254 :: c255 :: c256 :: c257 :: c258 :: c259 :: c260 :: c261 :: c262 :: c263 :: c264 :: c265 :: c266 :: c267 :: c268 :: c269 :: c270 :: c271 :: c272 :: c273 :: c274 :: c275 :: c276 :: c277 :: c278 :: c279 :: c280 :: c281 :: c282 :: c283 :: c284 :: c285 :: []), []⟩ w')) :
    Code.wp Tryd.prog (Code.loop firstBody) (onlyExit 4 R) ⟨List.toArray (c0 :: c1 :: c2 :: .slice (some ⟨g4, 0, none⟩) L cap4 :: c4 :: c5 :: .int .i64 (64 * (j : Int)) :: v7 :: .int .i64 0 :: c9 :: c10 :: c11 :: c12 :: c13 :: c14 :: c15 :: c16 :: c17 :: c18 :: c19 :: c20 :: c21 :: c22 :: c23 :: c24 :: c25 :: c26 :: c27 :: c28 :: c29 :: c30 :: c31 :: c32 :: c33 :: c34 :: c35 :: c36 :: c37 :: c38 :: c39 :: c40 :: c41 :: c42 :: c43 :: c44 :: c45 :: c46 :: c47 :: c48 :: c49 :: c50 :: c51 :: c52 :: c53 :: c54 :: c55 :: c56 :: c57 :: c58 :: c59 :: c60 :: c61 :: c62 :: c63 :: c64 :: c65 :: c66 :: c67 :: c68 :: c69 :: c70 :: c71 :: c72 :: c73 :: c74 :: c75 :: c76 :: c77 :: c78 :: c79 :: c80 :: c81 :: c82 :: c83 :: c84 :: c85 :: c86 :: c87 :: c88 :: c89 :: c90 :: c91 :: c92 :: c93 :: c94 :: c95 :: c96 :: c97 :: c98 :: c99 :: c100 :: c101 :: c102 :: c103 :: c104 :: c105 :: c106 :: c107 :: c108 :: c109 :: c110 :: c111 :: c112 :: c113 :: c114 :: c115 :: c116 :: c117 :: c118 :: c119 :: c120 :: c121 :: c122 :: c123 :: c124 :: c125 :: c126 :: c127 :: c128 :: c129 :: c130 :: c131 :: c132 :: c133 :: c134 :: c135 :: c136 :: c137 :: c138 :: c139 :: c140 :: c141 :: c142 :: c143 :: c144 :: c145 :: c146 :: c147 :: c148 :: c149 :: c150 :: c151 :: c152 :: c153 :: c154 :: c155 :: c156 :: c157 :: c158 :: c159 :: c160 :: c161 :: c162 :: c163 :: c164 :: c165 :: c166 :: c167 :: c168 :: c169 :: c170 :: c171 :: c172 :: c173 :: c174 :: c175 :: c176 :: c177 :: c178 :: c179 :: c180 :: c181 :: c182 :: c183 :: c184 :: c185 :: c186 :: c187 :: c188 :: c189 :: c190 :: c191 :: c192 :: c193 :: c194 :: c195 :: c196 :: c197 :: c198 :: c199 :: c200 :: c201 :: c202 :: c203 :: c204 :: c205 :: c206 :: c207 :: c208 :: c209 :: c210 :: c211 :: c212 :: c213 :: c214 :: c215 :: c216 :: c217 :: c218 :: c219 :: c220 :: c221 :: c222 :: c223 :: c224 :: c225 :: c226 :: c227 :: c228 :: c229 :: c230 :: c231 :: c232 :: c233 :: c234 :: c235 :: c236 :: c237 :: c238 :: c239 :: c240 :: c241 :: c242 :: c243 :: c244 :: c245 :: c246 :: c247 :: c248 :: c249 :: c250 :: c251 :: c252 :: c253 :: c254 :: c255 :: c256 :: c257 :: c258 :: c259 :: c260 :: c261 :: c262 :: c263 :: c264 :: c265 :: c266 :: c267 :: c268 :: c269 :: c270 :: c271 :: c272 :: c273 :: c274 :: c275 :: c276 :: c277 :: c278 :: c279 :: c280 :: c281 :: c282 :: c283 :: c284 :: c285 :: []), []⟩ W1 := by
  obtain ⟨i1, hi1, hy0, hy1, hy2⟩ := info_parts info41
  conv => arg 2; arg 1; whnf
  go_loopw [7, 8] (fun wv tv w2 => ∃ k : Nat, k ≤ 16 ∧ tv = .int .i64 k ∧ w2.ownsRow W2.heap.size 41 1 wv k (woC (firstW blk k)) ∧ Below W2.heap.size W2 w2) (fun _ tv _ => 16 - (intOf tv).toNat)
  case atStart => exact ⟨0, by omega, rfl, Hown.out, Hbw.out⟩
  case round =>
    clear Hown Hbw
    obtain ⟨k, hk, rfl, hown, hb⟩ := hrel
    obtain ⟨W3, rfl⟩ : ∃ W3, W3 = wr := ⟨_, rfl⟩
    have Hk := Lib.hid hown
    have Hb := Lib.hid hb
    clear hown hb
    by_cases hltk : k < 16
    · have Hmw := Lib.hid (Hm.out.below Hb.out Hm.out.lt)
      clear Hexit
      go_wp2
      go_loop [9, 10] (fun xv iv => ∃ i : Nat, i ≤ 4 ∧ iv = .int .i64 i ∧ xv = .int .u32 (partN blk k i : Nat)) (fun _ iv => 4 - (intOf iv).toNat)
      case atStart => exact ⟨0, by omega, rfl, rfl⟩
      case round =>
        obtain ⟨i, hi, rfl, rfl⟩ := hrel
        by_cases hlti : i < 4
        · have hpl := partN_lt blk k i hlti
          have hcell := Hmw.out.cell (i := 64 * j + 4 * k + i) (by rw [HL.out]; omega)
          rw [Nat.add_assoc, Hby.out (4 * k + i) (by omega)] at hcell
          rw [← Nat.add_assoc] at hcell
          have Hp1 : Hid (partN blk k (i + 1) = partN blk k i * 256 + (blk.getD (4 * k + i) 0).toNat) := Lib.hid rfl
          have hxl := (blk.getD (4 * k + i) 0).toNat_lt
          generalize blk.getD (4 * k + i) 0 = x at *
          generalize partN blk k i = p at *
          go_wp2
          go_round
          case rel => exact ⟨i + 1, by omega, by go_num, by rw [Hp1.out]; rfl⟩
          case measure => simp [intOf]; omega
        · have hi4 : i = 4 := by omega
          have Hx : Hid (((partN blk k i : Nat) : Int) = wI (wordAt blk k)) := Lib.hid (by rw [hi4]; exact partN_four blk k)
          have Hf := Lib.hid (firstW_succ blk k)
          clear hi4
          rw [Hx.out]
          generalize wordAt blk k = x at *
          have Hnew := Lib.hid (word_new x)
          have Hone1 := Lib.hid (word_one x)
          have Hm1 : Hid (k + 1 ≤ maxLen) := Lib.hid (by unfold maxLen; omega)
          have Hm2 : Hid ((k + 1) * 4 ≤ 140737488355328) := Lib.hid (by omega)
          have Hsz : Hid (W2.heap.size ≤ W3.heap.size) := Lib.hid Hb.out.size
          go_wp2_with (at_builtin; go_loud (refine wpList_append_lies _ rfl (.tmp 75) (.tmp 77) 42 rfl W2.heap.size 41 i1 _ 1 4 Tryd.underlying42 hi1 hy0 hy1 hy2 rfl (by omega) _ k _ rfl (own_alloc Hk.out _) ⟨W3.heap.size, 0, none⟩ 1 _ [.int .u32 (wI x)] rfl rfl (Hnew.out _) Hone1.out (by omega) Hm1.out Hm2.out (Nat.le_trans Hsz.out (by simp)) _ rfl ?_); intro g5 cap5 w5 hown5 hgrow5 hor5 hg5)
          have Hb5 : Hid (Below W2.heap.size W2 w5) := Lib.hid ((Hb.out.alloc Hsz.out _).grown hgrow5 (Nat.le_trans Hsz.out (by simp)) (fun q hq => (Hk.out.lt q hq).1))
          have Hown5 : Hid (w5.ownsRow W2.heap.size 41 1 (.slice (some ⟨g5, 0, none⟩) (k + 1) cap5) (k + 1) (woC (firstW blk (k + 1)))) := Lib.hid (by rw [Hf.out, woC_append, woC_one]; exact hown5)
          clear hown5 hgrow5 hor5 hg5
          go_wp2
          go_roundw
          case rel => exact ⟨k + 1, by omega, by go_num, Hown5.out, Hb5.out⟩
          case measure => simp [intOf]; omega
    · have hk16 : k = 16 := by omega
      subst hk16
      go_wp2
      exact onlyExit_mk (Hexit.out _ _ _ _ _ _ _ _ _ _ _ _ _ _ _ _ _ _ _ _ _ _ _ _ _ _ _ _ _ _ Hk.out Hb.out)
end Go.Proofs.YtemiphbblaikjaaDoor
