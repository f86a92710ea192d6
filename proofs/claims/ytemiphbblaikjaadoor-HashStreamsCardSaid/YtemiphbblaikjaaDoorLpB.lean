/-
  The second loop of a block in exchequerref02.Sum: the schedule's other words.
-/
import Derived.Test.YtemiphbblaikjaaDoorRefA
import Derived.Test.YtemiphbblaikjaaDoorCut
import Derived.IntWalk
namespace Go.Proofs.YtemiphbblaikjaaDoor
open Go.RowKit
set_option maxRecDepth 1000000 in
set_option maxHeartbeats 4000000 in
theorem rest_loop {c0 c1 c2 c3 c4 c5 c6 c8 c9 c10 c12 c13 c14 c15 c16 c17 c18 c19 c20 c21 c22 c23 c24 c25 c26 c27 c28 c29 c30 c31 c32 c33 c34 c35 c36 c37 c38 c39 c40 c41 c42 c43 c44 c45 c46 c47 c48 c49 c50 c51 c52 c53 c54 c55 c56 c57 c58 c59 c60 c61 c62 c63 c64 c65 c66 c67 c68 c69 c70 c71 c72 c73 c74 c75 c76 c77 c78 c79 c80 c81 c82 c83 c84 c85 c86 c87 c88 c89 c90 c91 c92 c93 c94 c95 c96 c97 c98 c99 c100 c101 c102 c103 c104 c105 c106 c107 c108 c109 c110 c111 c112 c113 c114 c115 c116 c117 c118 c119 c120 c121 c122 c123 c124 c125 c126 c127 c128 c129 c130 c131 c132 c133 c134 c135 c136 c137 c138 c139 c140 c141 c142 c143 c144 c145 c146 c147 c148 c149 c150 c151 c152 c153 c154 c155 c156 c157 c158 c159 c160 c161 c162 c163 c164 c165 c166 c167 c168 c169 c170 c171 c172 c173 c174 c175 c176 c177 c178 c179 c180 c181 c182 c183 c184 c185 c186 c187 c188 c189 c190 c191 c192 c193 c194 c195 c196 c197 c198 c199 c200 c201 c202 c203 c204 c205 c206 c207 c208 c209 c210 c211 c212 c213 c214 c215 c216 c217 c218 c219 c220 c221 c222 c223 c224 c225 c226 c227 c228 c229 c230 c231 c232 c233 c234 c235 c236 c237 c238 c239 c240 c241 c242 c243 c244 c245 c246 c247 c248 c249 c250 c251 c252 c253 c254 c255 c256 c257 c258 c259 c260 c261 c262 c263 c264 c265 c266 c267 c268 c269 c270 c271 c272 c273 c274 c275 c276 c277 c278 c279 c280 c281 c282 c283 c284 c285 v7 : Value} {blk : List UInt8} {W2 W1 : World} {R : Act → World → Prop}
    (Hown : Hid (W1.ownsRow W2.heap.size 41 1 v7 16 (woC (sched blk 0)))) (Hbw : Hid (Below W2.heap.size W2 W1))
    (Hexit : Hid (∀ (g6 cap6 : Nat) (u11 u12 u13 u79 u80 u81 u82 u83 u84 u85 u86 u87 u88 u89 u90 u91 u92 u93 u94 u95 u96 u97 u98 u99 u100 u101 u102 u103 u104 u105 u106 u107 u108 u109 u110 u111 u112 u113 u114 u115 u116 u117 u118 u119 u120 u121 u122 u123 u124 u125 u126 u127 u128 u129 u130 u131 u132 u133 u134 u135 u136 u137 u138 u139 u140 : Value) (w' : World), w'.ownsRow W2.heap.size 41 1 (.slice (some ⟨g6, 0, none⟩) 64 cap6) 64 (woC (sched blk 48)) → Below W2.heap.size W2 w' → R ⟨List.toArray (c0 :: c1 :: c2 :: c3 :: c4 :: c5 :: c6 :: (.slice (some ⟨g6, 0, none⟩) 64 cap6) :: c8 :: c9 :: c10 :: u11 :: u12 :: u13 :: c14 :: c15 :: c16 :: c17 :: c18 :: c19 :: c20 :: c21 :: c22 :: c23 :: c24 :: c25 :: c26 :: c27 :: c28 :: c29 :: c30 :: c31 :: c32 :: c33 :: c34 :: c35 :: c36 :: c37 :: c38 :: c39 :: c40 :: c41 :: c42 :: c43 :: c44 :: c45 :: c46 :: c47 :: c48 :: c49 :: c50 :: c51 :: c52 :: c53 :: c54 :: c55 :: c56 :: c57 :: c58 :: c59 :: c60 :: c61 :: c62 :: c63 :: c64 :: c65 :: c66 :: c67 :: c68 :: c69 :: c70 :: c71 :: c72 :: c73 :: c74 :: c75 :: c76 :: c77 :: c78 :: u79 :: u80 :: u81 :: u82 :: u83 :: u84 :: u85 :: u86 :: u87 :: u88 :: u89 :: u90 :: u91 :: u92 :: u93 :: u94 :: u95 :: u96 :: u97 :: u98 :: u99 :: u100 :: u101 :: u102 :: u103 :: u104 :: u105 :: u106 :: u107 :: u108 :: u109 :: u110 :: u111 :: u112 :: u113 :: u114 :: u115 :: u116 :: u117 :: u118 :: u119 :: u120 :: u121 :: u122 :: u123 :: u124 :: u125 :: u126 :: u127 :: u128 :: u129 :: u130 :: u131 :: u132 :: u133 :: u134 :: u135 :: u136 :: u137 :: u138 :: u139 :: u140 :: c141 :: c142 :: c143 :: c144 :: c145 :: c146 :: c147 :: c148 :: c149 :: c150 :: c151 :: c152 :: c153 :: c154 :: c155 :: c156 :: c157 :: c158 :: c159 :: c160 :: c161 :: c162 :: c163 :: c164 :: c165 :: c166 :: c167 :: c168 :: c169 :: c170 :: c171 :: c172 :: c173 :: c174 :: c175 :: c176 :: c177 :: c178 :: c179 :: c180 :: c181 :: c182 :: c183 :: c184 :: c185 :: c186 :: c187 :: c188 :: c189 :: c190 :: c191 :: c192 :: c193 :: c194 :: c195 :: c196 :: c197 :: c198 :: c199 :: c200 :: c201 :: c202 :: c203 :: c204 :: c205 :: c206 :: c207 :: c208 :: c209 :: c210 :: c211 :: c212 :: c213 :: c214 :: c215 :: c216 :: c217 :: c218 :: c219 :: c220 :: c221 :: c222 :: c223 :: c224 :: c225 :: c226 :: c227 :: c228 :: c229 :: c230 :: c231 :: c232 :: c233 :: c234 :: c235 :: c236 :: c237 :: c238 :: c239 :: c240 :: c241 :: c242 :: c243 :: c244 :: c245 :: c246 :: c247 :: c248 :: c249 :: c250 :: c251 :: c252 :: c253 :: c254 :: c255 :: c256 :: c257 :: c258 :: c259 :: c260 :: c261 :: c262 :: c263 :: c264 :: c265 :: c266 :: c267 :: c268 :: c269 :: c270 :: c271 :: c272 :: c273 :: c274 :: c275 :: c276 :: c277 :: c278 :: c279 :: c280 :: c281 :: c282 :: c283 :: c284 :: c285 :: []), []⟩ w')) :
    Code.wp Tryd.prog (Code.loop restBody) (onlyExit 8 R) ⟨List.toArray (c0 :: c1 :: c2 :: c3 :: c4 :: c5 :: c6 :: v7 :: c8 :: c9 :: c10 :: .int .i64 16 :: c12 :: c13 :: c14 :: c15 :: c16 :: c17 :: c18 :: c19 :: c20 :: c21 :: c22 :: c23 :: c24 :: c25 :: c26 :: c27 :: c28 :: c29 :: c30 :: c31 :: c32 :: c33 :: c34 :: c35 :: c36 :: c37 :: c38 :: c39 :: c40 :: c41 :: c42 :: c43 :: c44 :: c45 :: c46 :: c47 :: c48 :: c49 :: c50 :: c51 :: c52 :: c53 :: c54 :: c55 :: c56 :: c57 :: c58 :: c59 :: c60 :: c61 :: c62 :: c63 :: c64 :: c65 :: c66 :: c67 :: c68 :: c69 :: c70 :: c71 :: c72 :: c73 :: c74 :: c75 :: c76 :: c77 :: c78 :: c79 :: c80 :: c81 :: c82 :: c83 :: c84 :: c85 :: c86 :: c87 :: c88 :: c89 :: c90 :: c91 :: c92 :: c93 :: c94 :: c95 :: c96 :: c97 :: c98 :: c99 :: c100 :: c101 :: c102 :: c103 :: c104 :: c105 :: c106 :: c107 :: c108 :: c109 :: c110 :: c111 :: c112 :: c113 :: c114 :: c115 :: c116 :: c117 :: c118 :: c119 :: c120 :: c121 :: c122 :: c123 :: c124 :: c125 :: c126 :: c127 :: c128 :: c129 :: c130 :: c131 :: c132 :: c133 :: c134 :: c135 :: c136 :: c137 :: c138 :: c139 :: c140 :: c141 :: c142 :: c143 :: c144 :: c145 :: c146 :: c147 :: c148 :: c149 :: c150 :: c151 :: c152 :: c153 :: c154 :: c155 :: c156 :: c157 :: c158 :: c159 :: c160 :: c161 :: c162 :: c163 :: c164 :: c165 :: c166 :: c167 :: c168 :: c169 :: c170 :: c171 :: c172 :: c173 :: c174 :: c175 :: c176 :: c177 :: c178 :: c179 :: c180 :: c181 :: c182 :: c183 :: c184 :: c185 :: c186 :: c187 :: c188 :: c189 :: c190 :: c191 :: c192 :: c193 :: c194 :: c195 :: c196 :: c197 :: c198 :: c199 :: c200 :: c201 :: c202 :: c203 :: c204 :: c205 :: c206 :: c207 :: c208 :: c209 :: c210 :: c211 :: c212 :: c213 :: c214 :: c215 :: c216 :: c217 :: c218 :: c219 :: c220 :: c221 :: c222 :: c223 :: c224 :: c225 :: c226 :: c227 :: c228 :: c229 :: c230 :: c231 :: c232 :: c233 :: c234 :: c235 :: c236 :: c237 :: c238 :: c239 :: c240 :: c241 :: c242 :: c243 :: c244 :: c245 :: c246 :: c247 :: c248 :: c249 :: c250 :: c251 :: c252 :: c253 :: c254 :: c255 :: c256 :: c257 :: c258 :: c259 :: c260 :: c261 :: c262 :: c263 :: c264 :: c265 :: c266 :: c267 :: c268 :: c269 :: c270 :: c271 :: c272 :: c273 :: c274 :: c275 :: c276 :: c277 :: c278 :: c279 :: c280 :: c281 :: c282 :: c283 :: c284 :: c285 :: []), []⟩ W1 := by
  obtain ⟨i1, hi1, hy0, hy1, hy2⟩ := info_parts info41
  conv => arg 2; arg 1; whnf
  go_loopw [7, 11] (fun wv tv w2 => ∃ k : Nat, 16 ≤ k ∧ k ≤ 64 ∧ tv = .int .i64 k ∧ w2.ownsRow W2.heap.size 41 1 wv k (woC (sched blk (k - 16))) ∧ Below W2.heap.size W2 w2) (fun _ tv _ => 64 - (intOf tv).toNat)
  case atStart => exact ⟨16, by omega, by omega, rfl, Hown.out, Hbw.out⟩
  case round =>
    clear Hown Hbw
    obtain ⟨t, ht0, ht, rfl, hown, hb⟩ := hrel
    obtain ⟨W5, rfl⟩ : ∃ W5, W5 = wr := ⟨_, rfl⟩
    have Hk := Lib.hid hown
    have Hb := Lib.hid hb
    clear hown hb
    obtain ⟨g6, cap6, rfl, hg6, hg6'⟩ := Hk.out.form (by omega)
    by_cases hltt : t < 64
    · clear Hexit
      have hlen : (sched blk (t - 16)).length = t := by rw [sched_length]; omega
      have Hlen := Lib.hid hlen
      have c0 := own_word Hk.out (i := t - 16) (by omega) hlen
      have c1 := own_word Hk.out (i := t - 15) (by omega) hlen
      have c2 := own_word Hk.out (i := t - 7) (by omega) hlen
      have c3 := own_word Hk.out (i := t - 2) (by omega) hlen
      clear hlen
      have Hmix := Lib.hid (sched_mix blk t ht0)
      generalize (sched blk (t - 16)).getD (t - 16) 0 = x0 at *
      generalize (sched blk (t - 16)).getD (t - 15) 0 = x1 at *
      generalize (sched blk (t - 16)).getD (t - 7) 0 = x2 at *
      generalize (sched blk (t - 16)).getD (t - 2) 0 = x3 at *
      have hlo := wI_lo
      have hhi := wI_hi
      have hxor := wI_xor
      have hadd := wI_add
      have hs3 := wI_shr3
      have hs10 := wI_shr10
      have hm2 : (t : Int) - 2 < t := by omega
      have hm7 : (t : Int) - 7 < t := by omega
      have hm15 : (t : Int) - 15 < t := by omega
      have hm16 : (t : Int) - 16 < t := by omega
      go_wp2_with fail
      go_quiet ((go_at_call 26; exact Calls.quiet_of_same (turn_k _ _ _ (by omega) (by omega))))
      go_wp2_with fail
      go_quiet ((go_at_call 26; exact quiet_more (turn_k _ _ _ (by omega) (by omega))))
      have hw7 : IntKind.i64.wrap ((t : Int) - 7) = (t : Int) - 7 := IntWalk.i64_in _ (by omega)
      have hw16 : IntKind.i64.wrap ((t : Int) - 16) = (t : Int) - 16 := IntWalk.i64_in _ (by omega)
      have hg7 : (7 : Int) ≤ (t : Int) := by omega
      have hg16 : (16 : Int) ≤ (t : Int) := by omega
      have ht7 : ((t : Int) - 7).toNat = t - 7 := by omega
      have ht16 : ((t : Int) - 16).toNat = t - 16 := by omega
      have hwr := wrap_add
      have Hnew := Lib.hid (word_new (mixR x0 x1 x2 x3))
      have Hone1 := Lib.hid (word_one (mixR x0 x1 x2 x3))
      have Hm1 : Hid (t + 1 ≤ maxLen) := Lib.hid (by unfold maxLen; omega)
      have Hm2 : Hid ((t + 1) * 4 ≤ 140737488355328) := Lib.hid (by omega)
      have Hsz : Hid (W2.heap.size ≤ W5.heap.size) := Lib.hid Hb.out.size
      go_wp2_with fail
      go_region_law (go_loud (refine step_append_lies _ rfl (.tmp 123) (.tmp 139) 42 rfl W2.heap.size 41 i1 _ 1 4 Tryd.underlying42 hi1 hy0 hy1 hy2 rfl (by omega) (.slice (some ⟨g6, 0, none⟩) t cap6) t _ rfl (own_alloc Hk.out _) ⟨W5.heap.size, 0, none⟩ 1 _ [.int .u32 (wI (mixR x0 x1 x2 x3))] rfl rfl (Hnew.out _) Hone1.out (by omega) Hm1.out Hm2.out (Nat.le_trans Hsz.out (by simp)) _ rfl ?_); intro g7 cap7 w7 hown7 hgrow7 hor7 hg7)
      all_goals
        have Hb7 : Hid (Below W2.heap.size W2 w7) := Lib.hid (((below_drewN Hb.out _).alloc Hsz.out _).grown hgrow7 (Nat.le_trans Hsz.out (by simp)) (fun q hq => (Hk.out.lt q hq).1))
        have Hown7 : Hid (w7.ownsRow W2.heap.size 41 1 (.slice (some ⟨g7, 0, none⟩) (t + 1) cap7) (t + 1) (woC (sched blk (t + 1 - 16)))) := Lib.hid (by rw [Hmix.out, ← mix_ref, woC_append, woC_one]; exact hown7)
        clear hown7 hgrow7 hor7 hg7
        go_wp2
        go_roundw
        case rel => exact ⟨t + 1, by omega, by omega, by go_num, Hown7.out, Hb7.out⟩
        case measure => simp [intOf]; omega
    · have ht64 : t = 64 := by omega
      subst ht64
      have Hk' : Hid (W5.ownsRow W2.heap.size 41 1 (.slice (some ⟨g6, 0, none⟩) 64 cap6) 64 (woC (sched blk 48))) := Lib.hid Hk.out
      go_wp2
      exact onlyExit_mk (Hexit.out g6 cap6 _ _ _ _ _ _ _ _ _ _ _ _ _ _ _ _ _ _ _ _ _ _ _ _ _ _ _ _ _ _ _ _ _ _ _ _ _ _ _ _ _ _ _ _ _ _ _ _ _ _ _ _ _ _ _ _ _ _ _ _ _ _ _ _ _ _ Hk'.out Hb.out)
end Go.Proofs.YtemiphbblaikjaaDoor
