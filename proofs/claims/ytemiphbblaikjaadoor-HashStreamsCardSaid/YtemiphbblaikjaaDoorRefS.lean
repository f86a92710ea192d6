/-
  The contract of exchequerref02.Sum: the standard's equations, block by block, come to the digest.
-/
import Derived.Test.YtemiphbblaikjaaDoorLpE
import Derived.Test.YtemiphbblaikjaaDoorLpD
namespace Go.Proofs.YtemiphbblaikjaaDoor
open Go.RowKit
theorem flat_take_succ (l : List (BitVec 32)) : outL l 0 = [] := by simp [outL]
theorem numL_four (n : Nat) : numL n 4 = [UInt8.ofNat (n / 2 ^ 24), UInt8.ofNat (n / 2 ^ 16), UInt8.ofNat (n / 2 ^ 8), UInt8.ofNat n] := by
  have h : numL n 4 = [UInt8.ofNat (n / 2 ^ 24), UInt8.ofNat (n / 2 ^ 16), UInt8.ofNat (n / 2 ^ 8), UInt8.ofNat (n / 2 ^ 0)] := rfl
  rw [h, Nat.pow_zero, Nat.div_one]
theorem out_dig (s : St) : outL s.toL 8 = dig s.toL := by
  unfold outL dig St.toL
  simp only [List.take_succ_cons, List.take_zero, List.flatMap_cons, List.flatMap_nil, numL_four]
  simp [List.range, List.range.loop]
set_option maxRecDepth 1000000 in
set_option maxHeartbeats 4000000 in
theorem refsum_any (s : ByteArray) (w : World) (hs : s.size ≤ 1000000) :
    Calls Tryd.prog 11 #[.string s] w fun e w' => e = .returned (.string (bs (sha (bl s)))) ∧ Below w.heap.size w w' := by
  obtain ⟨i0, hi0, hz0, hz1, hz2⟩ := info_parts info5
  obtain ⟨i1, hi1, hy0, hy1, hy2⟩ := info_parts info41
  have hcv := Lib.run_convert_string_bytes (P := Tryd.prog) w 9 37 5 s Tryd.underlying9 Tryd.underlying37 Tryd.underlying5
  have Hl := Lib.hid (bl_length s)
  obtain ⟨N, hN⟩ : ∃ N, N = s.size := ⟨_, rfl⟩
  have HN : Hid ((bl s).length = N) := Lib.hid (by rw [hN]; exact bl_length s)
  have HM0 : Hid (OwnM (Lib.bytesWorld w 5 s) w.heap.size (grownCap w s.size 0 5) (bl s)) := Lib.hid (ownM_text w s (by omega))
  have HB0 : Hid (Below w.heap.size w (Lib.bytesWorld w 5 s)) := Lib.hid (below_bytes (Below.refl _ _) (Nat.le_refl _) 5 s)
  have hsz0 : (Lib.bytesWorld w 5 s).heap.size = w.heap.size + 1 := Lib.bytesWorld_size w 5 s
  have Hsz0 := Lib.hid hsz0
  clear hsz0
  generalize Lib.bytesWorld w 5 s = w1 at *
  generalize grownCap w s.size 0 5 = cap0 at *
  have hone : ∀ W : World, ∀ j u, (byC [128])[j]? = some u → (W.alloc (.cells #[.int .u8 128] 5)).cell? ((⟨W.heap.size, 0, none⟩ : Addr).add j) = some u := fun W => news_of (Holds.new W 5 _) (by rw [byC_eq]; rfl)
  have Hone := Lib.hid hone
  have hzero : ∀ W : World, ∀ j u, (byC [0])[j]? = some u → (W.alloc (.cells #[.int .u8 0] 5)).cell? ((⟨W.heap.size, 0, none⟩ : Addr).add j) = some u := fun W => news_of (Holds.new W 5 _) (by rw [byC_eq]; rfl)
  have Hzero := Lib.hid hzero
  clear hone hzero
  go_enter Tryd.func11, Tryd.ntmps11
  go_wp2_with (at_builtin; go_loud (refine wpList_append_mark rfl (.tmp 28) (.tmp 29) 37 rfl i0 Tryd.underlying37 hi0 hz0 hz1 hz2 w.heap.size cap0 (bl s) [128] s.size 1 rfl Hl.out rfl (HM0.out.alloc _) ⟨w1.heap.size, 0, none⟩ _ rfl (Hone.out _) (by omega) ?_); intro g1 cap1 w2 hown2 hgrow2 hor2)
  have Hm2 : Hid (OwnM w2 g1 cap1 (msgL (bl s) 0)) := Lib.hid (by unfold msgL; rw [List.replicate_zero, List.append_nil]; exact hown2)
  have Hb2 : Hid (Below w.heap.size w w2) := Lib.hid ((HB0.out.alloc HB0.out.size _).grown hgrow2 (by rw [World.size_alloc, Hsz0.out]; omega) (by intro k hk; cases hk; exact Nat.le_refl _))
  have Hg2 : Hid (w.heap.size ≤ g1) := Lib.hid (by rcases hor2 with h | h <;> rw [h] <;> simp [Hsz0.out]; omega)
  clear hown2 hgrow2 hor2 HM0 HB0 Hone hcv
  go_loopw [3] (fun v wr => ∃ z g cap : Nat, z ≤ zerosN s.size ∧ v = .slice (some ⟨g, 0, none⟩) (s.size + 1 + z) cap ∧ OwnM wr g cap (msgL (bl s) z) ∧ w.heap.size ≤ g ∧ Below w.heap.size w wr) (fun v _ => s.size + 64 - lenV v)
  case atStart => exact ⟨0, g1, cap1, by omega, rfl, Hm2.out, Hg2.out, Hb2.out⟩
  case round =>
    clear Hm2 Hb2 Hg2
    obtain ⟨z, g, cap, hz, rfl, hm, hg, hb⟩ := hrel
    have Hm := Lib.hid hm
    have Hb := Lib.hid hb
    clear hm hb
    have Hlm : Hid ((msgL (bl s) z).length = s.size + 1 + z) := Lib.hid (by rw [msgL_length, Hl.out])
    by_cases hlt : z < zerosN s.size
    · have hne : (((s.size : Int) + 1 + z) % 64 != 56) = true := by
        unfold zerosN at hlt
        simp; omega
      have Hsz : Hid (w.heap.size ≤ wr.heap.size) := Lib.hid Hb.out.size
      go_wp2_with (at_builtin; go_loud (refine wpList_append_mark rfl (.tmp 35) (.tmp 36) 37 rfl i0 Tryd.underlying37 hi0 hz0 hz1 hz2 g cap (msgL (bl s) z) [0] (s.size + 1 + z) 1 rfl Hlm.out rfl (Hm.out.alloc _) ⟨wr.heap.size, 0, none⟩ _ rfl (Hzero.out _) (by unfold zerosN at hz; omega) ?_); intro g3 cap3 w3 hown3 hgrow3 hor3)
      have Hm3 : Hid (OwnM w3 g3 cap3 (msgL (bl s) (z + 1))) := Lib.hid (by rw [← msgL_succ]; exact hown3)
      have Hb3 : Hid (Below w.heap.size w w3) := Lib.hid ((Hb.out.alloc Hsz.out _).grown hgrow3 (Nat.le_trans Hsz.out (by simp)) (by intro k hk; cases hk; exact hg))
      have hg3 : w.heap.size ≤ g3 := by
        rcases hor3 with h | h
        · rw [h]; exact hg
        · rw [h, World.size_alloc]; have := Hsz.out; omega
      clear hown3 hgrow3 hor3
      go_roundw
      case rel => exact ⟨z + 1, g3, cap3, by omega, rfl, Hm3.out, hg3, Hb3.out⟩
      case measure => simp [lenV]; unfold zerosN at hlt; omega
    · have hne : (((s.size : Int) + 1 + z) % 64 != 56) = false := by
        have : z = zerosN s.size := by omega
        unfold zerosN at this
        simp; omega
      have Hend := Lib.hid (msgL_end (bl s) z (by rw [Hl.out]; omega))
      have hn8 : s.size + 1 + z ≤ 2000000 := by unfold zerosN at hz; omega
      go_wp2_with fail
      refine (number_at _ _ (8 * s.size) 8 wr (by omega) rfl (by omega) (by omega) (by omega)).mono ?_
      rintro e w3 ⟨rfl, hown3, hb3⟩
      have Hm3 := Lib.hid (Hm.out.below hb3 Hm.out.lt)
      have Hb3 := Lib.hid (Hb.out.trans (hb3.mono Hb.out.size))
      have Hnew : Hid (∀ j u, (byC (numL (8 * s.size) 8))[j]? = some u → w3.cell? ((⟨wr.heap.size, 0, none⟩ : Addr).add j) = some u) := Lib.hid (own_cells hown3)
      have Hg := Lib.hid hg
      clear hown3 hb3 hlt
      go_wp2_with (at_builtin; go_loud (refine wpList_append_mark rfl (.tmp 38) (.tmp 43) 37 rfl i0 Tryd.underlying37 hi0 hz0 hz1 hz2 g cap (msgL (bl s) z) (numL (8 * s.size) 8) (s.size + 1 + z) 8 rfl Hlm.out (numL_length _ _) Hm3.out ⟨wr.heap.size, 0, none⟩ _ rfl Hnew.out (by omega) ?_); intro g4 cap4 w4 hown4 hgrow4 hor4)
      have Hp : Hid (OwnM w4 g4 cap4 (padded (bl s))) := Lib.hid (by rw [← Hend.out, Hl.out]; exact hown4)
      have Hb4 : Hid (Below w.heap.size w w4) := Lib.hid (Hb3.out.grown hgrow4 Hb3.out.size (by intro k hk; cases hk; exact Hg.out))
      obtain ⟨L, hL⟩ : ∃ L, L = s.size + 1 + z + 8 := ⟨_, rfl⟩
      have HL : Hid ((padded (bl s)).length = L) := Lib.hid (by rw [← Hend.out, List.length_append, Hlm.out, numL_length, hL])
      have hL64 : L % 64 = 0 := by rw [← HL.out]; exact padded_mod _
      have hLb : L ≤ 3000000 := by omega
      rw [← hL]
      have hLi : (s.size : Int) + 1 + z + 8 = (L : Int) := by omega
      have Hst0 : Hid (Holds (w4.alloc (.cells #[.int .u32 1779033703, .int .u32 3144134277, .int .u32 1013904242, .int .u32 2773480762, .int .u32 1359893119, .int .u32 2600822924, .int .u32 528734635, .int .u32 1541459225] 41)) w4.heap.size 41 (woC start.toL)) := Lib.hid (by rw [startC]; exact Holds.new w4 41 _)
      have Hp1 := Lib.hid (Hp.out.alloc (.cells #[.int .u32 1779033703, .int .u32 3144134277, .int .u32 1013904242, .int .u32 2773480762, .int .u32 1359893119, .int .u32 2600822924, .int .u32 528734635, .int .u32 1541459225] 41))
      have Hbx := Lib.hid (Hb4.out.alloc Hb4.out.size (.cells #[.int .u32 1779033703, .int .u32 3144134277, .int .u32 1013904242, .int .u32 2773480762, .int .u32 1359893119, .int .u32 2600822924, .int .u32 528734635, .int .u32 1541459225] 41))
      clear hown4 hgrow4 hor4 Hp Hb4 hL Hm Hb Hlm hne Hend Hm3 Hb3 Hnew Hg hz
      refine (consts_any _).mono ?_
      rintro e w5 ⟨rfl, hk5, hsz5, hb5⟩
      have Hk5 := Lib.hid hk5
      have Hat : Hid (RefAt w g4 cap4 (padded (bl s)) w4.heap.size (w4.heap.size + 1) start w5) := Lib.hid ⟨Hp1.out.below hb5 Hp1.out.lt, Holds.below Hst0.out hb5 (Holds.lt Hst0.out), by rw [World.size_alloc] at hk5; exact hk5, Hbx.out.trans (hb5.mono Hbx.out.size)⟩
      clear hk5 hsz5 hb5 Hk5 Hst0 Hp1 Hbx
      go_wp2
      refine wp_only 2 (block_loop (w0 := w) HL hL64 hLb Hat (Lib.hid ?_))
      intro gh y6 y7 y8 y9 y10 y11 y12 y13 y14 y15 y16 y17 y18 y19 y20 y21 y22 y23 y24 y47 y48 y49 y50 y51 y52 y53 y54 y55 y56 y57 y58 y59 y60 y61 y62 y63 y64 y65 y66 y67 y68 y69 y70 y71 y72 y73 y74 y75 y76 y77 y78 y79 y80 y81 y82 y83 y84 y85 y86 y87 y88 y89 y90 y91 y92 y93 y94 y95 y96 y97 y98 y99 y100 y101 y102 y103 y104 y105 y106 y107 y108 y109 y110 y111 y112 y113 y114 y115 y116 y117 y118 y119 y120 y121 y122 y123 y124 y125 y126 y127 y128 y129 y130 y131 y132 y133 y134 y135 y136 y137 y138 y139 y140 y141 y142 y143 y144 y145 y146 y147 y148 y149 y150 y151 y152 y153 y154 y155 y156 y157 y158 y159 y160 y161 y162 y163 y164 y165 y166 y167 y168 y169 y170 y171 y172 y173 y174 y175 y176 y177 y178 y179 y180 y181 y182 y183 y184 y185 y186 y187 y188 y189 y190 y191 y192 y193 y194 y195 y196 y197 y198 y199 y200 y201 y202 y203 y204 y205 y206 y207 y208 y209 y210 y211 y212 y213 y214 y215 y216 y217 y218 y219 y220 y221 y222 y223 y224 y225 y226 y227 y228 y229 y230 y231 y232 y233 y234 y235 y236 y237 y238 y239 y240 y241 y242 y243 y244 y245 y246 y247 y248 y249 y250 y251 y252 y253 y254 y255 y256 y257 y258 y259 y260 y261 y262 y263 y264 y265 y266 y267 y268 y269 y270 W8 hat8
      have Hat8 := Lib.hid hat8
      clear hat8 Hat
      have Hw0 : Hid ((W8.alloc (.cells #[] 5)).ownsRow W8.heap.size 5 1 (.slice (some ⟨W8.heap.size, 0, none⟩) 0 0) 0 (byC (outL (hst (padded (bl s)) (L / 64)).toL 0))) := Lib.hid (by rw [flat_take_succ, byC_eq]; exact World.ownsRow_lit W8 #[] 0 (Nat.le_refl _) (by unfold maxLen; omega) rfl)
      have Hbw : Hid (Below W8.heap.size W8 (W8.alloc (.cells #[] 5))) := Lib.hid ((Below.refl _ _).alloc (Nat.le_refl _) _)
      have Hlen8 : Hid ((hst (padded (bl s)) (L / 64)).toL.length = 8) := Lib.hid rfl
      go_wp2
      refine wp_only 12 (out_loop (h := (hst (padded (bl s)) (L / 64)).toL) (W2 := W8) (B := W8.heap.size) (Lib.hid Hat8.out.2.1) Hlen8 (Lib.hid rfl) Hw0 Hbw (Lib.hid ?_))
      intro z25 z26 z272 z273 z274 z275 z276 z277 z278 z279 z280 z281 z282 z283 W9 hown9 hb9
      have Hb9 : Hid (Below w.heap.size w W9) := Lib.hid (Hat8.out.2.2.2.trans (hb9.mono Hat8.out.2.2.2.size))
      have hcv := conv_own (l := sha (bl s)) (w := W9) (base := W8.heap.size) (v := z25) (by
        unfold OwnB
        rw [sha_length]
        unfold sha
        rw [HL.out, ← out_dig]
        exact hown9)
      clear hown9 hb9 Hat8 Hw0 Hbw Hlen8
      go_wp2
      go_ret
      exact ⟨rfl, Hb9.out⟩
end Go.Proofs.YtemiphbblaikjaaDoor
