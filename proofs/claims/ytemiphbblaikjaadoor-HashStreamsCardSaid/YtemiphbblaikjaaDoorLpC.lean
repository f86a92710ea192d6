/-
  The rounds of a block in exchequerref02.Sum.
-/
import Derived.Test.YtemiphbblaikjaaDoorRefA
import Derived.Test.YtemiphbblaikjaaDoorCut
namespace Go.Proofs.YtemiphbblaikjaaDoor
open Go.RowKit
set_option maxRecDepth 1000000 in
set_option maxHeartbeats 4000000 in
theorem round_loop {c0 c1 c2 c3 c4 c6 c8 c9 c10 c11 c12 c13 c23 c24 c25 c26 c27 c28 c29 c30 c31 c32 c33 c34 c35 c36 c37 c38 c39 c40 c41 c42 c43 c44 c45 c46 c47 c48 c49 c50 c51 c52 c53 c54 c55 c56 c57 c58 c59 c60 c61 c62 c63 c64 c65 c66 c67 c68 c69 c70 c71 c72 c73 c74 c75 c76 c77 c78 c79 c80 c81 c82 c83 c84 c85 c86 c87 c88 c89 c90 c91 c92 c93 c94 c95 c96 c97 c98 c99 c100 c101 c102 c103 c104 c105 c106 c107 c108 c109 c110 c111 c112 c113 c114 c115 c116 c117 c118 c119 c120 c121 c122 c123 c124 c125 c126 c127 c128 c129 c130 c131 c132 c133 c134 c135 c136 c137 c138 c139 c140 c141 c142 c143 c144 c145 c146 c147 c148 c149 c150 c151 c152 c153 c154 c155 c156 c157 c158 c159 c160 c161 c162 c163 c164 c165 c166 c167 c168 c169 c170 c171 c172 c173 c174 c175 c176 c177 c178 c179 c180 c181 c182 c183 c184 c185 c186 c187 c188 c189 c190 c191 c192 c193 c194 c195 c196 c197 c198 c199 c200 c201 c202 c203 c204 c205 c206 c207 c208 c209 c210 c211 c212 c213 c214 c215 c216 c217 c218 c219 c220 c221 c222 c223 c224 c225 c226 c227 c228 c229 c230 c231 c232 c233 c234 c235 c236 c237 c238 c239 c240 c241 c242 c243 c244 c245 c246 c247 c248 c249 c250 c251 c252 c253 c254 c255 c256 c257 c258 c259 c260 c261 c262 c263 c264 c265 c266 c267 c268 c269 c270 c271 c272 c273 c274 c275 c276 c277 c278 c279 c280 c281 c282 c283 c284 c285 : Value} {blk : List UInt8} {h0 : St} {gk g6 cap6 : Nat} {W2 W1 : World} {R : Act → World → Prop}
    (Hgk : Hid (Holds W2 gk 41 (woC kks))) (Hw : Hid (WAt W2 g6 64 cap6 (sched blk 48) W1))
    (Hexit : Hid (∀ (u22 u23 u24 u165 u166 u167 u168 u169 u170 u171 u172 u173 u174 u175 u176 u177 u178 u179 u180 u181 u182 u183 u184 u185 u186 u187 u188 u189 u190 u191 u192 u193 u194 u195 u196 u197 u198 u199 u200 u201 u202 u203 u204 u205 u206 u207 u208 u209 u210 u211 u212 u213 u214 u215 u216 u217 u218 u219 u220 u221 u222 u223 u224 u225 u226 u227 u228 u229 : Value) (w' : World), Below W2.heap.size W2 w' → R ⟨List.toArray (c0 :: c1 :: c2 :: c3 :: c4 :: .slice (some ⟨gk, 0, none⟩) 64 64 :: c6 :: .slice (some ⟨g6, 0, none⟩) 64 cap6 :: c8 :: c9 :: c10 :: c11 :: c12 :: c13 :: (.int .u32 (wI (rds (sched blk 48) h0 64).a)) :: (.int .u32 (wI (rds (sched blk 48) h0 64).b)) :: (.int .u32 (wI (rds (sched blk 48) h0 64).c)) :: (.int .u32 (wI (rds (sched blk 48) h0 64).d)) :: (.int .u32 (wI (rds (sched blk 48) h0 64).e)) :: (.int .u32 (wI (rds (sched blk 48) h0 64).f)) :: (.int .u32 (wI (rds (sched blk 48) h0 64).g)) :: (.int .u32 (wI (rds (sched blk 48) h0 64).h)) :: u22 :: u23 :: u24 :: c25 :: c26 :: c27 :: c28 :: c29 :: c30 :: c31 :: c32 :: c33 :: c34 :: c35 :: c36 :: c37 :: c38 :: c39 :: c40 :: c41 :: c42 :: c43 :: c44 :: c45 :: c46 :: c47 :: c48 :: c49 :: c50 :: c51 :: c52 :: c53 :: c54 :: c55 :: c56 :: c57 :: c58 :: c59 :: c60 :: c61 :: c62 :: c63 :: c64 :: c65 :: c66 :: c67 :: c68 :: c69 :: c70 :: c71 :: c72 :: c73 :: c74 :: c75 :: c76 :: c77 :: c78 :: c79 :: c80 :: c81 :: c82 :: c83 :: c84 :: c85 :: c86 :: c87 :: c88 :: c89 :: c90 :: c91 :: c92 :: c93 :: c94 :: c95 :: c96 :: c97 :: c98 :: c99 :: c100 :: c101 :: c102 :: c103 :: c104 :: c105 :: c106 :: c107 :: c108 :: c109 :: c110 :: c111 :: c112 :: c113 :: c114 :: c115 :: c116 :: c117 :: c118 :: c119 :: c120 :: c121 :: c122 :: c123 :: c124 :: c125 :: c126 :: c127 :: c128 :: c129 :: c130 :: c131 :: c132 :: c133 :: c134 :: c135 :: c136 :: c137 :: c138 :: c139 :: c140 :: c141 :: c142 :: c143 :: c144 :: c145 :: c146 :: c147 :: c148 :: c149 :: c150 :: c151 :: c152 :: c153 :: c154 :: c155 :: c156 :: c157 :: c158 :: c159 :: c160 :: c161 :: c162 :: c163 :: c164 :: u165 :: u166 :: u167 :: u168 :: u169 :: u170 :: u171 :: u172 :: u173 :: u174 :: u175 :: u176 :: u177 :: u178 :: u179 :: u180 :: u181 :: u182 :: u183 :: u184 :: u185 :: u186 :: u187 :: u188 :: u189 :: u190 :: u191 :: u192 :: u193 :: u194 :: u195 :: u196 :: u197 :: u198 :: u199 :: u200 :: u201 :: u202 :: u203 :: u204 :: u205 :: u206 :: u207 :: u208 :: u209 :: u210 :: u211 :: u212 :: u213 :: u214 :: u215 :: u216 :: u217 :: u218 :: u219 :: u220 :: u221 :: u222 :: u223 :: u224 :: u225 :: u226 :: u227 :: u228 :: u229 :: c230 :: c231 :: c232 :: c233 :: c234 :: c235 :: c236 :: c237 :: c238 :: c239 :: c240 :: c241 :: c242 :: c243 :: c244 :: c245 :: c246 :: c247 :: c248 :: c249 :: c250 :: c251 :: c252 :: c253 :: c254 :: c255 :: c256 :: c257 :: c258 :: c259 :: c260 :: c261 :: c262 :: c263 :: c264 :: c265 :: c266 :: c267 :: c268 :: c269 :: c270 :: c271 :: c272 :: c273 :: c274 :: c275 :: c276 :: c277 :: c278 :: c279 :: c280 :: c281 :: c282 :: c283 :: c284 :: c285 :: []), []⟩ w')) :
    Code.wp Tryd.prog (Code.loop roundBody) (onlyExit 10 R) ⟨List.toArray (c0 :: c1 :: c2 :: c3 :: c4 :: .slice (some ⟨gk, 0, none⟩) 64 64 :: c6 :: .slice (some ⟨g6, 0, none⟩) 64 cap6 :: c8 :: c9 :: c10 :: c11 :: c12 :: c13 :: .int .u32 (wI h0.a) :: .int .u32 (wI h0.b) :: .int .u32 (wI h0.c) :: .int .u32 (wI h0.d) :: .int .u32 (wI h0.e) :: .int .u32 (wI h0.f) :: .int .u32 (wI h0.g) :: .int .u32 (wI h0.h) :: .int .i64 0 :: c23 :: c24 :: c25 :: c26 :: c27 :: c28 :: c29 :: c30 :: c31 :: c32 :: c33 :: c34 :: c35 :: c36 :: c37 :: c38 :: c39 :: c40 :: c41 :: c42 :: c43 :: c44 :: c45 :: c46 :: c47 :: c48 :: c49 :: c50 :: c51 :: c52 :: c53 :: c54 :: c55 :: c56 :: c57 :: c58 :: c59 :: c60 :: c61 :: c62 :: c63 :: c64 :: c65 :: c66 :: c67 :: c68 :: c69 :: c70 :: c71 :: c72 :: c73 :: c74 :: c75 :: c76 :: c77 :: c78 :: c79 :: c80 :: c81 :: c82 :: c83 :: c84 :: c85 :: c86 :: c87 :: c88 :: c89 :: c90 :: c91 :: c92 :: c93 :: c94 :: c95 :: c96 :: c97 :: c98 :: c99 :: c100 :: c101 :: c102 :: c103 :: c104 :: c105 :: c106 :: c107 :: c108 :: c109 :: c110 :: c111 :: c112 :: c113 :: c114 :: c115 :: c116 :: c117 :: c118 :: c119 :: c120 :: c121 :: c122 :: c123 :: c124 :: c125 :: c126 :: c127 :: c128 :: c129 :: c130 :: c131 :: c132 :: c133 :: c134 :: c135 :: c136 :: c137 :: c138 :: c139 :: c140 :: c141 :: c142 :: c143 :: c144 :: c145 :: c146 :: c147 :: c148 :: c149 :: c150 :: c151 :: c152 :: c153 :: c154 :: c155 :: c156 :: c157 :: c158 :: c159 :: c160 :: c161 :: c162 :: c163 :: c164 :: c165 :: c166 :: c167 :: c168 :: c169 :: c170 :: c171 :: c172 :: c173 :: c174 :: c175 :: c176 :: c177 :: c178 :: c179 :: c180 :: c181 :: c182 :: c183 :: c184 :: c185 :: c186 :: c187 :: c188 :: c189 :: c190 :: c191 :: c192 :: c193 :: c194 :: c195 :: c196 :: c197 :: c198 :: c199 :: c200 :: c201 :: c202 :: c203 :: c204 :: c205 :: c206 :: c207 :: c208 :: c209 :: c210 :: c211 :: c212 :: c213 :: c214 :: c215 :: c216 :: c217 :: c218 :: c219 :: c220 :: c221 :: c222 :: c223 :: c224 :: c225 :: c226 :: c227 :: c228 :: c229 :: c230 :: c231 :: c232 :: c233 :: c234 :: c235 :: c236 :: c237 :: c238 :: c239 :: c240 :: c241 :: c242 :: c243 :: c244 :: c245 :: c246 :: c247 :: c248 :: c249 :: c250 :: c251 :: c252 :: c253 :: c254 :: c255 :: c256 :: c257 :: c258 :: c259 :: c260 :: c261 :: c262 :: c263 :: c264 :: c265 :: c266 :: c267 :: c268 :: c269 :: c270 :: c271 :: c272 :: c273 :: c274 :: c275 :: c276 :: c277 :: c278 :: c279 :: c280 :: c281 :: c282 :: c283 :: c284 :: c285 :: []), []⟩ W1 := by
  conv => arg 2; arg 1; whnf
  go_loopw [14, 15, 16, 17, 18, 19, 20, 21, 22] (fun va vb vc vd ve vf vg vh tv w2 => ∃ k : Nat, k ≤ 64 ∧ tv = .int .i64 k ∧ va = .int .u32 (wI (rds (sched blk 48) h0 k).a) ∧ vb = .int .u32 (wI (rds (sched blk 48) h0 k).b) ∧ vc = .int .u32 (wI (rds (sched blk 48) h0 k).c) ∧ vd = .int .u32 (wI (rds (sched blk 48) h0 k).d) ∧ ve = .int .u32 (wI (rds (sched blk 48) h0 k).e) ∧ vf = .int .u32 (wI (rds (sched blk 48) h0 k).f) ∧ vg = .int .u32 (wI (rds (sched blk 48) h0 k).g) ∧ vh = .int .u32 (wI (rds (sched blk 48) h0 k).h) ∧ WAt W2 g6 64 cap6 (sched blk 48) w2) (fun _ _ _ _ _ _ _ _ tv _ => 64 - (intOf tv).toNat)
  case atStart => exact ⟨0, by omega, rfl, rfl, rfl, rfl, rfl, rfl, rfl, rfl, rfl, Hw.out⟩
  case round =>
    clear Hw
    obtain ⟨k6, hk6, rfl, rfl, rfl, rfl, rfl, rfl, rfl, rfl, rfl, hwat⟩ := hrel
    obtain ⟨W6, rfl⟩ : ∃ W6, W6 = wr := ⟨_, rfl⟩
    have Hw := Lib.hid hwat
    clear hwat
    by_cases hlt6 : k6 < 64
    · clear Hexit
      have c0 := own_word Hw.out.1 (i := k6) (by rw [sched_length]; omega) (by rw [sched_length])
      have c1 := wo_at (Holds.below Hgk.out Hw.out.2 (Holds.lt Hgk.out)) (i := k6) (by simp [kks]; exact hlt6)
      rw [kks_get k6 hlt6] at c1
      have Hnx : Hid (rds (sched blk 48) h0 (k6 + 1) = rnd (rds (sched blk 48) h0 k6) (kk k6) ((sched blk 48).getD k6 0)) := Lib.hid rfl
      generalize (sched blk 48).getD k6 0 = x at *
      generalize kk k6 = y at *
      generalize rds (sched blk 48) h0 k6 = r at *
      obtain ⟨ra, rb, rc, rd, re, rf, rg, rh⟩ := r
      dsimp only
      have hlo := wI_lo
      have hhi := wI_hi
      have hxor := wI_xor
      have hand := wI_and
      have hnot := wI_not
      have hnot2 : ∀ x : BitVec 32, bits BinOp.xor IntKind.u32 (if IntKind.u32.signed = true then -1 else IntKind.u32.max) (wI x) = wI (~~~ x) := wI_not
      have hadd := wI_add
      go_wp2_with fail
      go_quiet ((go_at_call 26; exact Calls.quiet_of_same (turn_k _ _ _ (by omega) (by omega))))
      go_wp2_with (go_at_call 26; refine (turn_k _ _ _ (by omega) (by omega)).mono ?_; rintro e w9 ⟨rfl, rfl⟩)
      go_roundw
      case rel =>
        refine ⟨k6 + 1, by omega, by go_num, ?_⟩
        rw [Hnx.out]
        exact ⟨by first | rfl | exact u32_eq (by rw [rnd_a]; first | rfl | exact wI_add _ _), rfl, rfl, rfl, by first | rfl | exact u32_eq (wI_add _ _), rfl, rfl, rfl, Hw.out.1, below_drewN Hw.out.2 _⟩
      case measure => simp [intOf]; omega
    · have hk64 : k6 = 64 := by omega
      subst hk64
      have Hb := Lib.hid Hw.out.2
      clear Hw
      generalize rds (sched blk 48) h0 64 = r at *
      go_wp2
      exact onlyExit_mk (Hexit.out _ _ _ _ _ _ _ _ _ _ _ _ _ _ _ _ _ _ _ _ _ _ _ _ _ _ _ _ _ _ _ _ _ _ _ _ _ _ _ _ _ _ _ _ _ _ _ _ _ _ _ _ _ _ _ _ _ _ _ _ _ _ _ _ _ _ _ _ _ Hb.out)
end Go.Proofs.YtemiphbblaikjaaDoor
