/-
  The last loop of exchequerref02.Sum: the bytes of the eight words.
-/
import Derived.Test.YtemiphbblaikjaaDoorRefA
import Derived.Test.YtemiphbblaikjaaDoorCut
namespace Go.Proofs.YtemiphbblaikjaaDoor
open Go.RowKit
/-- The bytes of the first t words of a state. -/
def outL (s : List (BitVec 32)) (t : Nat) : List UInt8 := (s.take t).flatMap fun x => numL x.toNat 4
theorem outL_succ (s : List (BitVec 32)) (t : Nat) (h : t < s.length) : outL s (t + 1) = outL s t ++ numL (s.getD t 0).toNat 4 := by
  unfold outL
  rw [List.take_succ_eq_append_getElem h, List.flatMap_append, List.getD_eq_getElem?_getD, List.getElem?_eq_getElem h]
  simp
theorem own_below {w w' : World} {base e size n : Nat} {v : Value} {xs : List Value} (h : w.ownsRow base e size v n xs) {B : Nat} (hb : Below B w w') (hB : w.heap.size ≤ B) : w'.ownsRow base e size v n xs := by
  rcases h.2 with ⟨hv, h0⟩ | ⟨g, cap, cur, hv, hb', hh, r⟩
  · exact ⟨h.1, .inl ⟨hv, h0⟩⟩
  · exact ⟨h.1, .inr ⟨g, cap, cur, hv, hb', (hb.block g (by have := (Array.getElem?_eq_some_iff.1 hh).1; omega)).trans hh, r⟩⟩
theorem outL_length (s : List (BitVec 32)) (t : Nat) (h : t ≤ s.length) : (outL s t).length = 4 * t := by
  induction t with
  | zero => simp [outL]
  | succ t ih => rw [outL_succ s t (by omega), List.length_append, ih (by omega), numL_length]; omega
set_option maxRecDepth 1000000 in
set_option maxHeartbeats 4000000 in
theorem out_loop {c0 c1 c2 c3 c5 c6 c7 c8 c9 c10 c11 c12 c13 c14 c15 c16 c17 c18 c19 c20 c21 c22 c23 c24 c27 c28 c29 c30 c31 c32 c33 c34 c35 c36 c37 c38 c39 c40 c41 c42 c43 c44 c45 c46 c47 c48 c49 c50 c51 c52 c53 c54 c55 c56 c57 c58 c59 c60 c61 c62 c63 c64 c65 c66 c67 c68 c69 c70 c71 c72 c73 c74 c75 c76 c77 c78 c79 c80 c81 c82 c83 c84 c85 c86 c87 c88 c89 c90 c91 c92 c93 c94 c95 c96 c97 c98 c99 c100 c101 c102 c103 c104 c105 c106 c107 c108 c109 c110 c111 c112 c113 c114 c115 c116 c117 c118 c119 c120 c121 c122 c123 c124 c125 c126 c127 c128 c129 c130 c131 c132 c133 c134 c135 c136 c137 c138 c139 c140 c141 c142 c143 c144 c145 c146 c147 c148 c149 c150 c151 c152 c153 c154 c155 c156 c157 c158 c159 c160 c161 c162 c163 c164 c165 c166 c167 c168 c169 c170 c171 c172 c173 c174 c175 c176 c177 c178 c179 c180 c181 c182 c183 c184 c185 c186 c187 c188 c189 c190 c191 c192 c193 c194 c195 c196 c197 c198 c199 c200 c201 c202 c203 c204 c205 c206 c207 c208 c209 c210 c211 c212 c213 c214 c215 c216 c217 c218 c219 c220 c221 c222 c223 c224 c225 c226 c227 c228 c229 c230 c231 c232 c233 c234 c235 c236 c237 c238 c239 c240 c241 c242 c243 c244 c245 c246 c247 c248 c249 c250 c251 c252 c253 c254 c255 c256 c257 c258 c259 c260 c261 c262 c263 c264 c265 c266 c267 c268 c269 c270 c271 c272 c273 c274 c275 c276 c277 c278 c279 c280 c281 c282 c283 c284 c285 v25 : Value} {h : List (BitVec 32)} {gh B : Nat} {W2 W1 : World} {R : Act → World → Prop}
    (Hh : Hid (Holds W2 gh 41 (woC h))) (Hlen : Hid (h.length = 8)) (HW : Hid (W2.heap.size = B)) (Hown : Hid (W1.ownsRow B 5 1 v25 0 (byC (outL h 0)))) (Hbw : Hid (Below B W2 W1))
    (Hexit : Hid (∀ (u25 u26 u272 u273 u274 u275 u276 u277 u278 u279 u280 u281 u282 u283 : Value) (w' : World), w'.ownsRow B 5 1 u25 32 (byC (outL h 8)) → Below B W2 w' → R ⟨List.toArray (c0 :: c1 :: c2 :: c3 :: .slice (some ⟨gh, 0, none⟩) 8 8 :: c5 :: c6 :: c7 :: c8 :: c9 :: c10 :: c11 :: c12 :: c13 :: c14 :: c15 :: c16 :: c17 :: c18 :: c19 :: c20 :: c21 :: c22 :: c23 :: c24 :: u25 :: u26 :: c27 :: c28 :: c29 :: c30 :: c31 :: c32 :: c33 :: c34 :: c35 :: c36 :: c37 :: c38 :: c39 :: c40 :: c41 :: c42 :: c43 :: c44 :: c45 :: c46 :: c47 :: c48 :: c49 :: c50 :: c51 :: c52 :: c53 :: c54 :: c55 :: c56 :: c57 :: c58 :: c59 :: c60 :: c61 :: c62 :: c63 :: c64 :: c65 :: c66 :: c67 :: c68 :: c69 :: c70 :: c71 :: c72 :: c73 :: c74 :: c75 :: c76 :: c77 :: c78 :: c79 :: c80 :: c81 :: c82 :: c83 :: c84 :: c85 :: c86 :: c87 :: c88 :: c89 :: c90 :: c91 :: c92 :: c93 :: c94 :: c95 :: c96 :: c97 :: c98 :: c99 :: c100 :: c101 :: c102 :: c103 :: c104 :: c105 :: c106 :: c107 :: c108 :: c109 :: c110 :: c111 :: c112 :: c113 :: c114 :: c115 :: c116 :: c117 :: c118 :: c119 :: c120 :: c121 :: c122 :: c123 :: c124 :: c125 :: c126 :: c127 :: c128 :: c129 :: c130 :: c131 :: c132 :: c133 :: c134 :: c135 :: c136 :: c137 :: c138 :: c139 :: c140 :: c141 :: c142 :: c143 :: c144 :: c145 :: c146 :: c147 :: c148 :: c149 :: c150 :: c151 :: c152 :: c153 :: c154 :: c155 :: c156 :: c157 :: c158 :: c159 :: c160 :: c161 :: c162 :: c163 :: c164 :: c165 :: c166 :: c167 :: c168 :: c169 :: c170 :: c171 :: c172 :: c173 :: c174 :: c175 :: c176 :: c177 :: c178 :: c179 :: c180 :: c181 :: c182 :: c183 :: c184 :: c185 :: c186 :: c187 :: c188 :: c189 :: c190 :: c191 :: c192 :: c193 :: c194 :: c195 :: c196 :: c197 :: c198 :: c199 :: c200 :: c201 :: c202 :: c203 :: c204 :: c205 :: c206 :: c207 :: c208 :: c209 :: c210 :: c211 :: c212 :: c213 :: c214 :: c215 :: c216 :: c217 :: c218 :: c219 :: c220 :: c221 :: c222 :: c223 :: c224 :: c225 :: c226 :: c227 :: c228 :: c229 :: c230 :: c231 :: c232 :: c233 :: c234 :: c235 :: c236 :: c237 :: c238 :: c239 :: c240 :: c241 :: c242 :: c243 :: c244 :: c245 :: c246 :: c247 :: c248 :: c249 :: c250 :: c251 :: c252 :: c253 :: c254 :: c255 :: c256 :: c257 :: c258 :: c259 :: c260 :: c261 :: c262 :: c263 :: c264 :: c265 :: c266 :: c267 :: c268 :: c269 :: c270 :: c271 :: u272 :: u273 :: u274 :: u275 :: u276 :: u277 :: u278 :: u279 :: u280 :: u281 :: u282 :: u283 :: c284 :: c285 :: []), []⟩ w')) :
    Code.wp Tryd.prog (Code.loop outBody) (onlyExit 12 R) ⟨List.toArray (c0 :: c1 :: c2 :: c3 :: .slice (some ⟨gh, 0, none⟩) 8 8 :: c5 :: c6 :: c7 :: c8 :: c9 :: c10 :: c11 :: c12 :: c13 :: c14 :: c15 :: c16 :: c17 :: c18 :: c19 :: c20 :: c21 :: c22 :: c23 :: c24 :: v25 :: .int .i64 0 :: c27 :: c28 :: c29 :: c30 :: c31 :: c32 :: c33 :: c34 :: c35 :: c36 :: c37 :: c38 :: c39 :: c40 :: c41 :: c42 :: c43 :: c44 :: c45 :: c46 :: c47 :: c48 :: c49 :: c50 :: c51 :: c52 :: c53 :: c54 :: c55 :: c56 :: c57 :: c58 :: c59 :: c60 :: c61 :: c62 :: c63 :: c64 :: c65 :: c66 :: c67 :: c68 :: c69 :: c70 :: c71 :: c72 :: c73 :: c74 :: c75 :: c76 :: c77 :: c78 :: c79 :: c80 :: c81 :: c82 :: c83 :: c84 :: c85 :: c86 :: c87 :: c88 :: c89 :: c90 :: c91 :: c92 :: c93 :: c94 :: c95 :: c96 :: c97 :: c98 :: c99 :: c100 :: c101 :: c102 :: c103 :: c104 :: c105 :: c106 :: c107 :: c108 :: c109 :: c110 :: c111 :: c112 :: c113 :: c114 :: c115 :: c116 :: c117 :: c118 :: c119 :: c120 :: c121 :: c122 :: c123 :: c124 :: c125 :: c126 :: c127 :: c128 :: c129 :: c130 :: c131 :: c132 :: c133 :: c134 :: c135 :: c136 :: c137 :: c138 :: c139 :: c140 :: c141 :: c142 :: c143 :: c144 :: c145 :: c146 :: c147 :: c148 :: c149 :: c150 :: c151 :: c152 :: c153 :: c154 :: c155 :: c156 :: c157 :: c158 :: c159 :: c160 :: c161 :: c162 :: c163 :: c164 :: c165 :: c166 :: c167 :: c168 :: c169 :: c170 :: c171 :: c172 :: c173 :: c174 :: c175 :: c176 :: c177 :: c178 :: c179 :: c180 :: c181 :: c182 :: c183 :: c184 :: c185 :: c186 :: c187 :: c188 :: c189 :: c190 :: c191 :: c192 :: c193 :: c194 :: c195 :: c196 :: c197 :: c198 :: c199 :: c200 :: c201 :: c202 :: c203 :: c204 :: c205 :: c206 :: c207 :: c208 :: c209 :: c210 :: c211 :: c212 :: c213 :: c214 :: c215 :: c216 :: c217 :: c218 :: c219 :: c220 :: c221 :: c222 :: c223 :: c224 :: c225 :: c226 :: c227 :: c228 :: c229 :: c230 :: c231 :: c232 :: c233 :: c234 :: c235 :: c236 :: c237 :: c238 :: c239 :: c240 :: c241 :: c242 :: c243 :: c244 :: c245 :: c246 :: c247 :: c248 :: c249 :: c250 :: c251 :: c252 :: c253 :: c254 :: c255 :: c256 :: c257 :: c258 :: c259 :: c260 :: c261 :: c262 :: c263 :: c264 :: c265 :: c266 :: c267 :: c268 :: c269 :: c270 :: c271 :: c272 :: c273 :: c274 :: c275 :: c276 :: c277 :: c278 :: c279 :: c280 :: c281 :: c282 :: c283 :: c284 :: c285 :: []), []⟩ W1 := by
  obtain ⟨i0, hi0, hz0, hz1, hz2⟩ := info_parts info5
  conv => arg 2; arg 1; whnf
  go_loopw [25, 26] (fun ov tv w2 => ∃ k : Nat, k ≤ 8 ∧ tv = .int .i64 k ∧ w2.ownsRow B 5 1 ov (4 * k) (byC (outL h k)) ∧ Below B W2 w2) (fun _ tv _ => 8 - (intOf tv).toNat)
  case atStart => exact ⟨0, by omega, rfl, Hown.out, Hbw.out⟩
  case round =>
    clear Hown Hbw
    obtain ⟨k, hk, rfl, hown, hb⟩ := hrel
    obtain ⟨W3, rfl⟩ : ∃ W3, W3 = wr := ⟨_, rfl⟩
    have Hk := Lib.hid hown
    have Hb := Lib.hid hb
    clear hown hb
    by_cases hltk : k < 8
    · clear Hexit
      have Hgh : Hid (gh < B) := Lib.hid (by rw [← HW.out]; exact Holds.lt Hh.out)
      have c0 := wo_at (Holds.below Hh.out Hb.out Hgh.out) (i := k) (by rw [Hlen.out]; omega)
      have Hs := Lib.hid (outL_succ h k (by rw [Hlen.out]; omega))
      generalize h.getD k 0 = x at *
      have Hsz : Hid (B ≤ W3.heap.size) := Lib.hid (by have := Hb.out.size; rw [HW.out] at this; exact this)
      have hlo := wI_lo
      have hhi := wI_hi
      go_wp2_with fail
      refine (number_at _ _ x.toNat 4 W3 (by rw [wI_eq]; have := x.isLt; simp [IntKind.wrap, IntKind.bits, IntKind.signed]; omega) rfl (by omega) (by omega) (by have := x.isLt; omega)).mono ?_
      rintro e w3 ⟨rfl, hown3, hb3⟩
      have Hk3 : Hid (w3.ownsRow B 5 1 u25 (4 * k) (byC (outL h k))) := Lib.hid (own_below Hk.out hb3 (Nat.le_refl _))
      have Hb3 := Lib.hid (Hb.out.trans (hb3.mono Hsz.out))
      have Hnew : Hid (∀ j u, (byC (numL x.toNat 4))[j]? = some u → w3.cell? ((⟨W3.heap.size, 0, none⟩ : Addr).add j) = some u) := Lib.hid (own_cells hown3)
      have Hsz3 : Hid (B ≤ w3.heap.size) := Lib.hid (Nat.le_trans Hsz.out hb3.size)
      have Hone : Hid (∀ u ∈ byC (numL x.toNat 4), u.oneCell' = true) := Lib.hid (byC_one _)
      have Hn4 : Hid ((byC (numL x.toNat 4)).length = 4 * 1) := Lib.hid (by rw [byC_length, numL_length])
      have Hm1 : Hid (4 * k + 4 ≤ maxLen) := Lib.hid (by unfold maxLen; omega)
      have Hm2 : Hid ((4 * k + 4) * 1 ≤ 140737488355328) := Lib.hid (by omega)
      clear hown3 hb3 c0
      go_wp2_with (at_builtin; go_loud (refine wpList_append_lies _ rfl (.tmp 276) (.tmp 282) 37 rfl B 5 i0 _ 1 1 Tryd.underlying37 hi0 hz0 hz1 hz2 rfl (by omega) u25 (4 * k) _ rfl Hk3.out ⟨W3.heap.size, 0, none⟩ 4 _ (byC (numL x.toNat 4)) rfl Hn4.out Hnew.out Hone.out (by omega) Hm1.out Hm2.out Hsz3.out _ rfl ?_); intro g5 cap5 w5 hown5 hgrow5 hor5 hg5)
      have Hb5 : Hid (Below B W2 w5) := Lib.hid (Hb3.out.grown hgrow5 Hsz3.out (fun q hq => (Hk3.out.lt q hq).1))
      have Hown5 : Hid (w5.ownsRow B 5 1 (.slice (some ⟨g5, 0, none⟩) (4 * k + 4) cap5) (4 * (k + 1)) (byC (outL h (k + 1)))) := Lib.hid (by rw [Hs.out, byC_append]; exact hown5)
      clear hown5 hgrow5 hor5 hg5
      go_wp2
      go_roundw
      case rel => exact ⟨k + 1, by omega, by go_num, Hown5.out, Hb5.out⟩
      case measure => simp [intOf]; omega
    · have hk8 : k = 8 := by omega
      subst hk8
      go_wp2
      exact onlyExit_mk (Hexit.out _ _ _ _ _ _ _ _ _ _ _ _ _ _ _ Hk.out Hb.out)
end Go.Proofs.YtemiphbblaikjaaDoor
