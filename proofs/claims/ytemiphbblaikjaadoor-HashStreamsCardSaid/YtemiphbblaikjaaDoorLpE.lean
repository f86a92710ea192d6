/-
  The loop over the blocks in exchequerref02.Sum.
-/
import Derived.Test.YtemiphbblaikjaaDoorLpA
import Derived.Test.YtemiphbblaikjaaDoorLpB
import Derived.Test.YtemiphbblaikjaaDoorLpC
import Derived.StillTail
import Derived.StillTactics
namespace Go.Proofs.YtemiphbblaikjaaDoor
open Go.RowKit
theorem addS_L (s t : St) : woC (addS s t).toL = [.int .u32 (wI (s.a + t.a)), .int .u32 (wI (s.b + t.b)), .int .u32 (wI (s.c + t.c)), .int .u32 (wI (s.d + t.d)), .int .u32 (wI (s.e + t.e)), .int .u32 (wI (s.f + t.f)), .int .u32 (wI (s.g + t.g)), .int .u32 (wI (s.h + t.h))] := by
  rw [woC_eq]; rfl
set_option maxRecDepth 1000000 in
set_option maxHeartbeats 4000000 in
theorem block_loop {c0 c1 c2 c7 c8 c9 c10 c11 c12 c13 c14 c15 c16 c17 c18 c19 c20 c21 c22 c23 c24 c25 c26 c27 c28 c29 c30 c31 c32 c33 c34 c35 c36 c37 c38 c39 c40 c41 c42 c43 c44 c45 c46 c47 c48 c49 c50 c51 c52 c53 c54 c55 c56 c57 c58 c59 c60 c61 c62 c63 c64 c65 c66 c67 c68 c69 c70 c71 c72 c73 c74 c75 c76 c77 c78 c79 c80 c81 c82 c83 c84 c85 c86 c87 c88 c89 c90 c91 c92 c93 c94 c95 c96 c97 c98 c99 c100 c101 c102 c103 c104 c105 c106 c107 c108 c109 c110 c111 c112 c113 c114 c115 c116 c117 c118 c119 c120 c121 c122 c123 c124 c125 c126 c127 c128 c129 c130 c131 c132 c133 c134 c135 c136 c137 c138 c139 c140 c141 c142 c143 c144 c145 c146 c147 c148 c149 c150 c151 c152 c153 c154 c155 c156 c157 c158 c159 c160 c161 c162 c163 c164 c165 c166 c167 c168 c169 c170 c171 c172 c173 c174 c175 c176 c177 c178 c179 c180 c181 c182 c183 c184 c185 c186 c187 c188 c189 c190 c191 c192 c193 c194 c195 c196 c197 c198 c199 c200 c201 c202 c203 c204 c205 c206 c207 c208 c209 c210 c211 c212 c213 c214 c215 c216 c217 c218 c219 c220 c221 c222 c223 c224 c225 c226 c227 c228 c229 c230 c231 c232 c233 c234 c235 c236 c237 c238 c239 c240 c241 c242 c243 c244 c245 c246 c247 c248 c249 c250 c251 c252 c253 c254 c255 c256 c257 c258 c259 c260 c261 c262 c263 c264 c265 c266 c267 c268 c269 c270 c271 c272 c273 c274 c275 c276 c277 c278 c279 c280 c281 c282 c283 c284 c285 : Value} {M : List UInt8} {L g4 cap4 gh0 gk : Nat} {w0 W1 : World} {R : Act → World → Prop}
    (HL : Hid (M.length = L)) (hL64 : L % 64 = 0) (hLb : L ≤ 3000000) (Hat : Hid (RefAt w0 g4 cap4 M gh0 gk start W1))
    (Hexit : Hid (∀ (gh : Nat) (u6 u7 u8 u9 u10 u11 u12 u13 u14 u15 u16 u17 u18 u19 u20 u21 u22 u23 u24 u47 u48 u49 u50 u51 u52 u53 u54 u55 u56 u57 u58 u59 u60 u61 u62 u63 u64 u65 u66 u67 u68 u69 u70 u71 u72 u73 u74 u75 u76 u77 u78 u79 u80 u81 u82 u83 u84 u85 u86 u87 u88 u89 u90 u91 u92 u93 u94 u95 u96 u97 u98 u99 u100 u101 u102 u103 u104 u105 u106 u107 u108 u109 u110 u111 u112 u113 u114 u115 u116 u117 u118 u119 u120 u121 u122 u123 u124 u125 u126 u127 u128 u129 u130 u131 u132 u133 u134 u135 u136 u137 u138 u139 u140 u141 u142 u143 u144 u145 u146 u147 u148 u149 u150 u151 u152 u153 u154 u155 u156 u157 u158 u159 u160 u161 u162 u163 u164 u165 u166 u167 u168 u169 u170 u171 u172 u173 u174 u175 u176 u177 u178 u179 u180 u181 u182 u183 u184 u185 u186 u187 u188 u189 u190 u191 u192 u193 u194 u195 u196 u197 u198 u199 u200 u201 u202 u203 u204 u205 u206 u207 u208 u209 u210 u211 u212 u213 u214 u215 u216 u217 u218 u219 u220 u221 u222 u223 u224 u225 u226 u227 u228 u229 u230 u231 u232 u233 u234 u235 u236 u237 u238 u239 u240 u241 u242 u243 u244 u245 u246 u247 u248 u249 u250 u251 u252 u253 u254 u255 u256 u257 u258 u259 u260 u261 u262 u263 u264 u265 u266 u267 u268 u269 u270 : Value) (w' : World), RefAt w0 g4 cap4 M gh gk (hst M (L / 64)) w' → R ⟨List.toArray (c0 :: c1 :: c2 :: .slice (some ⟨g4, 0, none⟩) L cap4 :: (.slice (some ⟨gh, 0, none⟩) 8 8) :: .slice (some ⟨gk, 0, none⟩) 64 64 :: u6 :: u7 :: u8 :: u9 :: u10 :: u11 :: u12 :: u13 :: u14 :: u15 :: u16 :: u17 :: u18 :: u19 :: u20 :: u21 :: u22 :: u23 :: u24 :: c25 :: c26 :: c27 :: c28 :: c29 :: c30 :: c31 :: c32 :: c33 :: c34 :: c35 :: c36 :: c37 :: c38 :: c39 :: c40 :: c41 :: c42 :: c43 :: c44 :: c45 :: c46 :: u47 :: u48 :: u49 :: u50 :: u51 :: u52 :: u53 :: u54 :: u55 :: u56 :: u57 :: u58 :: u59 :: u60 :: u61 :: u62 :: u63 :: u64 :: u65 :: u66 :: u67 :: u68 :: u69 :: u70 :: u71 :: u72 :: u73 :: u74 :: u75 :: u76 :: u77 :: u78 :: u79 :: u80 :: u81 :: u82 :: u83 :: u84 :: u85 :: u86 :: u87 :: u88 :: u89 :: u90 :: u91 :: u92 :: u93 :: u94 :: u95 :: u96 :: u97 :: u98 :: u99 :: u100 :: u101 :: u102 :: u103 :: u104 :: u105 :: u106 :: u107 :: u108 :: u109 :: u110 :: u111 :: u112 :: u113 :: u114 :: u115 :: u116 :: u117 :: u118 :: u119 :: u120 :: u121 :: u122 :: u123 :: u124 :: u125 :: u126 :: u127 :: u128 :: u129 :: u130 :: u131 :: u132 :: u133 :: u134 :: u135 :: u136 :: u137 :: u138 :: u139 :: u140 :: u141 :: u142 :: u143 :: u144 :: u145 :: u146 :: u147 :: u148 :: u149 :: u150 :: u151 :: u152 :: u153 :: u154 :: u155 :: u156 :: u157 :: u158 :: u159 :: u160 :: u161 :: u162 :: u163 :: u164 :: u165 :: u166 :: u167 :: u168 :: u169 :: u170 :: u171 :: u172 :: u173 :: u174 :: u175 :: u176 :: u177 :: u178 :: u179 :: u180 :: u181 :: u182 :: u183 :: u184 :: u185 :: u186 :: u187 :: u188 :: u189 :: u190 :: u191 :: u192 :: u193 :: u194 :: u195 :: u196 :: u197 :: u198 :: u199 :: u200 :: u201 :: u202 :: u203 :: u204 :: u205 :: u206 :: u207 :: u208 :: u209 :: u210 :: u211 :: u212 :: u213 :: u214 :: u215 :: u216 :: u217 :: u218 :: u219 :: u220 :: u221 :: u222 :: u223 :: u224 :: u225 :: u226 :: u227 :: u228 :: u229 :: u230 :: u231 :: u232 :: u233 :: u234 :: u235 :: u236 :: u237 :: u238 :: u239 :: u240 :: u241 :: u242 :: u243 :: u244 :: u245 :: u246 :: u247 :: u248 :: u249 :: u250 :: u251 :: u252 :: u253 :: u254 :: u255 :: u256 :: u257 :: u258 :: u259 :: u260 :: u261 :: u262 :: u263 :: u264 :: u265 :: u266 :: u267 :: u268 :: u269 :: u270 :: c271 :: c272 :: c273 :: c274 :: c275 :: c276 :: c277 :: c278 :: c279 :: c280 :: c281 :: c282 :: c283 :: c284 :: c285 :: []), []⟩ w')) :
    Code.wp Tryd.prog (Code.loop blockBody) (onlyExit 2 R) ⟨List.toArray (c0 :: c1 :: c2 :: .slice (some ⟨g4, 0, none⟩) L cap4 :: .slice (some ⟨gh0, 0, none⟩) 8 8 :: .slice (some ⟨gk, 0, none⟩) 64 64 :: .int .i64 0 :: c7 :: c8 :: c9 :: c10 :: c11 :: c12 :: c13 :: c14 :: c15 :: c16 :: c17 :: c18 :: c19 :: c20 :: c21 :: c22 :: c23 :: c24 :: c25 :: c26 :: c27 :: c28 :: c29 :: c30 :: c31 :: c32 :: c33 :: c34 :: c35 :: c36 :: c37 :: c38 :: c39 :: c40 :: c41 :: c42 :: c43 :: c44 :: c45 :: c46 :: c47 :: c48 :: c49 :: c50 :: c51 :: c52 :: c53 :: c54 :: c55 :: c56 :: c57 :: c58 :: c59 :: c60 :: c61 :: c62 :: c63 :: c64 :: c65 :: c66 :: c67 :: c68 :: c69 :: c70 :: c71 :: c72 :: c73 :: c74 :: c75 :: c76 :: c77 :: c78 :: c79 :: c80 :: c81 :: c82 :: c83 :: c84 :: c85 :: c86 :: c87 :: c88 :: c89 :: c90 :: c91 :: c92 :: c93 :: c94 :: c95 :: c96 :: c97 :: c98 :: c99 :: c100 :: c101 :: c102 :: c103 :: c104 :: c105 :: c106 :: c107 :: c108 :: c109 :: c110 :: c111 :: c112 :: c113 :: c114 :: c115 :: c116 :: c117 :: c118 :: c119 :: c120 :: c121 :: c122 :: c123 :: c124 :: c125 :: c126 :: c127 :: c128 :: c129 :: c130 :: c131 :: c132 :: c133 :: c134 :: c135 :: c136 :: c137 :: c138 :: c139 :: c140 :: c141 :: c142 :: c143 :: c144 :: c145 :: c146 :: c147 :: c148 :: c149 :: c150 :: c151 :: c152 :: c153 :: c154 :: c155 :: c156 :: c157 :: c158 :: c159 :: c160 :: c161 :: c162 :: c163 :: c164 :: c165 :: c166 :: c167 :: c168 :: c169 :: c170 :: c171 :: c172 :: c173 :: c174 :: c175 :: c176 :: c177 :: c178 :: c179 :: c180 :: c181 :: c182 :: c183 :: c184 :: c185 :: c186 :: c187 :: c188 :: c189 :: c190 :: c191 :: c192 :: c193 :: c194 :: c195 :: c196 :: c197 :: c198 :: c199 :: c200 :: c201 :: c202 :: c203 :: c204 :: c205 :: c206 :: c207 :: c208 :: c209 :: c210 :: c211 :: c212 :: c213 :: c214 :: c215 :: c216 :: c217 :: c218 :: c219 :: c220 :: c221 :: c222 :: c223 :: c224 :: c225 :: c226 :: c227 :: c228 :: c229 :: c230 :: c231 :: c232 :: c233 :: c234 :: c235 :: c236 :: c237 :: c238 :: c239 :: c240 :: c241 :: c242 :: c243 :: c244 :: c245 :: c246 :: c247 :: c248 :: c249 :: c250 :: c251 :: c252 :: c253 :: c254 :: c255 :: c256 :: c257 :: c258 :: c259 :: c260 :: c261 :: c262 :: c263 :: c264 :: c265 :: c266 :: c267 :: c268 :: c269 :: c270 :: c271 :: c272 :: c273 :: c274 :: c275 :: c276 :: c277 :: c278 :: c279 :: c280 :: c281 :: c282 :: c283 :: c284 :: c285 :: []), []⟩ W1 := by
  conv => arg 2; arg 1; whnf
  go_loopw [4, 6] (fun hv atv wr => ∃ j gh : Nat, 64 * j ≤ L ∧ atv = .int .i64 (64 * (j : Int)) ∧ hv = .slice (some ⟨gh, 0, none⟩) 8 8 ∧ RefAt w0 g4 cap4 M gh gk (hst M j) wr) (fun _ atv _ => L - (intOf atv).toNat)
  case atStart => exact ⟨0, gh0, by omega, by simp, rfl, Hat.out⟩
  case round =>
    clear Hat
    obtain ⟨j, gh, hj, rfl, rfl, hat⟩ := hrel
    obtain ⟨W2, rfl⟩ : ∃ W2, W2 = wr := ⟨_, rfl⟩
    have Hat := Lib.hid hat
    clear hat
    by_cases hlt : 64 * j < L
    · clear Hexit
      have hlti : (64 : Int) * j < L := by omega
      have hfit : 64 * j + 64 ≤ L := by omega
      obtain ⟨blk, hblk⟩ : ∃ blk, blk = (M.drop (64 * j)).take 64 := ⟨_, rfl⟩
      have Hby : Hid (∀ i, i < 64 → M.getD (64 * j + i) 0 = blk.getD i 0) := Lib.hid (fun i hi => by rw [hblk]; exact blk_get M (64 * j) i hi)
      have Hnext : Hid (hst M (j + 1) = compr (hst M j) blk) := Lib.hid (by rw [hblk]; rfl)
      clear hblk
      have Hw0 : Hid ((W2.alloc (.cells #[] 41)).ownsRow W2.heap.size 41 1 (.slice (some ⟨W2.heap.size, 0, none⟩) 0 0) 0 (woC (firstW blk 0))) := Lib.hid (by rw [woC_eq]; exact World.ownsRow_lit W2 #[] 0 (Nat.le_refl _) (by unfold maxLen; omega) rfl)
      have Hbw : Hid (Below W2.heap.size W2 (W2.alloc (.cells #[] 41))) := Lib.hid ((Below.refl _ _).alloc (Nat.le_refl _) _)
      have Hgh : Hid (gh < W2.heap.size) := Lib.hid (Holds.lt Hat.out.2.1)
      go_wp2
      refine wp_only 4 (first_loop (M := M) (blk := blk) (j := j) (W2 := W2) HL hfit hLb Hby (Lib.hid Hat.out.1) Hw0 Hbw (Lib.hid ?_))
      intro y7 y8 y9 y10 y54 y55 y56 y57 y58 y59 y60 y61 y62 y63 y64 y65 y66 y67 y68 y69 y70 y71 y72 y73 y74 y75 y76 y77 y78 W3 hown3 hb3
      have Hown3 := Lib.hid hown3
      have Hb3 := Lib.hid hb3
      clear hown3 hb3 Hw0 Hbw
      go_wp2
      refine wp_only 8 (rest_loop (blk := blk) (W2 := W2) Hown3 Hb3 (Lib.hid ?_))
      intro g6 cap6 z11 z12 z13 z79 z80 z81 z82 z83 z84 z85 z86 z87 z88 z89 z90 z91 z92 z93 z94 z95 z96 z97 z98 z99 z100 z101 z102 z103 z104 z105 z106 z107 z108 z109 z110 z111 z112 z113 z114 z115 z116 z117 z118 z119 z120 z121 z122 z123 z124 z125 z126 z127 z128 z129 z130 z131 z132 z133 z134 z135 z136 z137 z138 z139 z140 W5 hown5 hb5
      have Hown5 := Lib.hid hown5
      have Hb5 := Lib.hid hb5
      clear hown5 hb5 Hown3 Hb3
      have Hh5 := Lib.hid (Holds.below Hat.out.2.1 Hb5.out Hgh.out)
      have e0 := wo_at Hh5.out (i := 0) (by simp [St.toL])
      have e1 := wo_at Hh5.out (i := 1) (by simp [St.toL])
      have e2 := wo_at Hh5.out (i := 2) (by simp [St.toL])
      have e3 := wo_at Hh5.out (i := 3) (by simp [St.toL])
      have e4 := wo_at Hh5.out (i := 4) (by simp [St.toL])
      have e5 := wo_at Hh5.out (i := 5) (by simp [St.toL])
      have e6 := wo_at Hh5.out (i := 6) (by simp [St.toL])
      have e7 := wo_at Hh5.out (i := 7) (by simp [St.toL])
      obtain ⟨h0, hh0⟩ : ∃ h0, h0 = hst M j := ⟨_, rfl⟩
      rw [← hh0] at e0 e1 e2 e3 e4 e5 e6 e7
      rw [← hh0] at Hnext
      have Hh0 := Lib.hid hh0
      clear hh0
      change W5.cell? ⟨gh, 0, none⟩ = some (.int .u32 (wI h0.a)) at e0
      change W5.cell? ⟨gh, 1, none⟩ = some (.int .u32 (wI h0.b)) at e1
      change W5.cell? ⟨gh, 2, none⟩ = some (.int .u32 (wI h0.c)) at e2
      change W5.cell? ⟨gh, 3, none⟩ = some (.int .u32 (wI h0.d)) at e3
      change W5.cell? ⟨gh, 4, none⟩ = some (.int .u32 (wI h0.e)) at e4
      change W5.cell? ⟨gh, 5, none⟩ = some (.int .u32 (wI h0.f)) at e5
      change W5.cell? ⟨gh, 6, none⟩ = some (.int .u32 (wI h0.g)) at e6
      change W5.cell? ⟨gh, 7, none⟩ = some (.int .u32 (wI h0.h)) at e7
      clear Hh5
      go_wp2_with fail
      go_quiet (fail)
      go_wp2_with fail
      clear e0 e1 e2 e3 e4 e5 e6 e7
      refine wp_only 10 (round_loop (h0 := h0) (gk := gk) (W2 := W2) (Lib.hid Hat.out.2.2.1) (Lib.hid ⟨Hown5.out, below_drewN Hb5.out _⟩) (Lib.hid ?_))
      intro x22 x23 x24 x165 x166 x167 x168 x169 x170 x171 x172 x173 x174 x175 x176 x177 x178 x179 x180 x181 x182 x183 x184 x185 x186 x187 x188 x189 x190 x191 x192 x193 x194 x195 x196 x197 x198 x199 x200 x201 x202 x203 x204 x205 x206 x207 x208 x209 x210 x211 x212 x213 x214 x215 x216 x217 x218 x219 x220 x221 x222 x223 x224 x225 x226 x227 x228 x229 W6 hb6
      have Hb6 := Lib.hid hb6
      clear hb6 Hown5 Hb5
      have Hnext2 : Hid (hst M (j + 1) = addS h0 (rds (sched blk 48) h0 64)) := Lib.hid Hnext.out
      clear Hnext
      generalize rds (sched blk 48) h0 64 = r at *
      have Hh5 := Lib.hid (Holds.below Hat.out.2.1 Hb6.out Hgh.out)
      have Hg4 := Lib.hid (Hat.out.1.below Hb6.out Hat.out.1.lt)
      have Hgk := Lib.hid (Holds.below Hat.out.2.2.1 Hb6.out (Holds.lt Hat.out.2.2.1))
      have Hsz : Hid (w0.heap.size ≤ W6.heap.size) := Lib.hid (Nat.le_trans Hat.out.2.2.2.size Hb6.out.size)
      have Hb0 : Hid (Below w0.heap.size w0 W6) := Lib.hid (Hat.out.2.2.2.trans (Hb6.out.mono Hat.out.2.2.2.size))
      rw [← Hh0.out] at Hh5
      have e0 := wo_at Hh5.out (i := 0) (by simp [St.toL])
      have e1 := wo_at Hh5.out (i := 1) (by simp [St.toL])
      have e2 := wo_at Hh5.out (i := 2) (by simp [St.toL])
      have e3 := wo_at Hh5.out (i := 3) (by simp [St.toL])
      have e4 := wo_at Hh5.out (i := 4) (by simp [St.toL])
      have e5 := wo_at Hh5.out (i := 5) (by simp [St.toL])
      have e6 := wo_at Hh5.out (i := 6) (by simp [St.toL])
      have e7 := wo_at Hh5.out (i := 7) (by simp [St.toL])
      change W6.cell? ⟨gh, 0, none⟩ = some (.int .u32 (wI h0.a)) at e0
      change W6.cell? ⟨gh, 1, none⟩ = some (.int .u32 (wI h0.b)) at e1
      change W6.cell? ⟨gh, 2, none⟩ = some (.int .u32 (wI h0.c)) at e2
      change W6.cell? ⟨gh, 3, none⟩ = some (.int .u32 (wI h0.d)) at e3
      change W6.cell? ⟨gh, 4, none⟩ = some (.int .u32 (wI h0.e)) at e4
      change W6.cell? ⟨gh, 5, none⟩ = some (.int .u32 (wI h0.f)) at e5
      change W6.cell? ⟨gh, 6, none⟩ = some (.int .u32 (wI h0.g)) at e6
      change W6.cell? ⟨gh, 7, none⟩ = some (.int .u32 (wI h0.h)) at e7
      have hlo := wI_lo
      have hhi := wI_hi
      have hadd := wI_add
      have hwr := wrap_add
      clear Hat
      go_wp2_with fail
      refine wp_region_still_tail 40 (by kernel_rfl) (by kernel_rfl) ?_
      simp only [List.take_succ_cons, List.take_zero, List.drop_succ_cons, List.drop_zero]
      repeat still_step
      refine wpStill_nil ?_
      change wpList _ _ _ _ _ W6.drew
      have Hnew : Hid (Holds (W6.drew.alloc (.cells #[.int .u32 (wI (h0.a + r.a)), .int .u32 (wI (h0.b + r.b)), .int .u32 (wI (h0.c + r.c)), .int .u32 (wI (h0.d + r.d)), .int .u32 (wI (h0.e + r.e)), .int .u32 (wI (h0.f + r.f)), .int .u32 (wI (h0.g + r.g)), .int .u32 (wI (h0.h + r.h))] 41)) W6.drew.heap.size 41 (woC (addS h0 r).toL)) := Lib.hid (by rw [addS_L]; exact Holds.new _ 41 _)
      have Hat2 : Hid (RefAt w0 g4 cap4 M W6.heap.size gk (hst M (j + 1)) (W6.drew.alloc (.cells #[.int .u32 (wI (h0.a + r.a)), .int .u32 (wI (h0.b + r.b)), .int .u32 (wI (h0.c + r.c)), .int .u32 (wI (h0.d + r.d)), .int .u32 (wI (h0.e + r.e)), .int .u32 (wI (h0.f + r.f)), .int .u32 (wI (h0.g + r.g)), .int .u32 (wI (h0.h + r.h))] 41))) := Lib.hid ⟨OwnM.alloc (w := W6.drew) Hg4.out _, by rw [Hnext2.out]; exact Hnew.out, Holds.alloc (w := W6.drew) Hgk.out _, (Hb0.out.drew).alloc Hsz.out _⟩
      clear Hnew Hg4 Hgk Hb0 Hh5 Hnext2
      go_wp2
      go_roundw
      case rel => exact ⟨j + 1, W6.heap.size, by omega, by go_num, rfl, Hat2.out⟩
      case measure => simp [intOf]; omega
    · have hj' : j = L / 64 := by omega
      have hlti : ¬ (64 : Int) * j < L := by omega
      subst hj'
      go_wp2
      exact onlyExit_mk (Hexit.out gh _ _ _ _ _ _ _ _ _ _ _ _ _ _ _ _ _ _ _ _ _ _ _ _ _ _ _ _ _ _ _ _ _ _ _ _ _ _ _ _ _ _ _ _ _ _ _ _ _ _ _ _ _ _ _ _ _ _ _ _ _ _ _ _ _ _ _ _ _ _ _ _ _ _ _ _ _ _ _ _ _ _ _ _ _ _ _ _ _ _ _ _ _ _ _ _ _ _ _ _ _ _ _ _ _ _ _ _ _ _ _ _ _ _ _ _ _ _ _ _ _ _ _ _ _ _ _ _ _ _ _ _ _ _ _ _ _ _ _ _ _ _ _ _ _ _ _ _ _ _ _ _ _ _ _ _ _ _ _ _ _ _ _ _ _ _ _ _ _ _ _ _ _ _ _ _ _ _ _ _ _ _ _ _ _ _ _ _ _ _ _ _ _ _ _ _ _ _ _ _ _ _ _ _ _ _ _ _ _ _ _ _ _ _ _ _ _ _ _ _ _ _ _ _ _ _ _ _ _ _ _ _ _ _ _ _ _ _ _ _ _ _ _ _ Hat.out)
end Go.Proofs.YtemiphbblaikjaaDoor
