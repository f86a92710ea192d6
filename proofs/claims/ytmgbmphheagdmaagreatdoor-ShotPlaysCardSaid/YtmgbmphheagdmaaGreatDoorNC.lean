/-
  ShotTorn.
-/
import Derived.Test.YtmgbmphheagdmaaGreatDoorNB
import Derived.Test.YtmgbmphheagdmaaGreatDoorOF
import Derived.Lib.ConvBytes
namespace Go.Proofs.YtmgbmphheagdmaaGreatDoor
open Go.RowKit Lib
set_option linter.unusedVariables false
set_option linter.unusedSimpArgs false

/-- Bytes of a text, the first of them turned, and back. -/
theorem turn_first (q : List UInt8) (x y : UInt8) (w : World) (s : ByteArray) (hs : bl s = x :: q) : ∃ cap W,
    (convert 9 66 (.string s)).run Tryz.prog w = .ok (.slice (some ⟨w.heap.size, 0, none⟩) (q.length + 1) cap) W ∧ q.length + 1 ≤ cap ∧
    W.cell? ⟨w.heap.size, 0, none⟩ = some (.int .u8 (x.toNat : Int)) ∧ W.frozen? ⟨w.heap.size, 0, none⟩ = false ∧ Below w.heap.size w W ∧
    (convert 66 9 (.slice (some ⟨w.heap.size, 0, none⟩) (q.length + 1) cap)).run Tryz.prog (W.setCell ⟨w.heap.size, 0, none⟩ (.int .u8 (y.toNat : Int))) = .ok (.string (bs (y :: q))) (W.setCell ⟨w.heap.size, 0, none⟩ (.int .u8 (y.toNat : Int))) := by
  have hsize : s.size = q.length + 1 := by rw [← bl_length, hs]; simp
  have hdata : s.data.toList = x :: q := by rw [← hs, bl_eq]
  have hcell : ∀ j, j < q.length + 1 → (bytesWorld w 5 s).cell? ⟨w.heap.size, j, none⟩ = some (.int .u8 (((x :: q).getD j 0).toNat : Int)) := fun j hj => by
    rw [bytesWorld_cell w 5 s j (by omega), hdata]
  have hcl := hcell 0 (by omega)
  refine ⟨grownCap w s.size 0 5, bytesWorld w 5 s, ?_, ?_, hcl, ?_, ?_, ?_⟩
  · rw [← hsize]; exact Lib.run_convert_string_bytes w 9 66 5 s Tryz.underlying9 Tryz.underlying66 Tryz.underlying5
  · rw [← hsize]; exact grownCap_ge w _ _ _
  · have : 0 < (bytesCells w 5 s).size := by
      simp only [bytesCells, Array.size_append, Array.size_map, Array.size_replicate]
      have : s.data.size = s.size := rfl
      omega
    have hne : bytesCells w 5 s ≠ #[] := by intro h; rw [h] at this; simp at this
    simp only [World.frozen?, bytesWorld_at_new]
    simp [hne]
  · refine ⟨rfl, rfl, rfl, by rw [bytesWorld_size]; omega, fun k hk => bytesWorld_at_old w 5 s k hk⟩
  · rw [bs_eq, show q.length + 1 = (y :: q).length by simp]
    refine run_convert_bytes_back _ 66 9 5 ⟨w.heap.size, 0, none⟩ _ (y :: q) Tryz.underlying66 Tryz.underlying5 Tryz.underlying9 fun j hj => ?_
    rw [add_off]
    simp only [List.length_cons] at hj
    by_cases e : j = 0
    · subst e
      rw [World.cell?_setCell_same' _ _ _ (by rw [hcl]; rfl)]
      simp
    · rw [World.cell?_setCell_other _ _ _ _ (by intro h; cases h; exact e rfl), hcell j (by omega)]
      obtain ⟨i, rfl⟩ : ∃ i, j = i + 1 := ⟨j - 1, by omega⟩
      simp [List.getD, show i < q.length by omega]
/-- One bit of a byte turned. -/
theorem flip_all : ∀ c : Fin 256, ∀ k : Fin 8, 0 ≤ bits BinOp.xor IntKind.u8 (c.1 : Int) (2 ^ k.1 % 256) ∧ bits BinOp.xor IntKind.u8 (c.1 : Int) (2 ^ k.1 % 256) ≤ 255 ∧ bits BinOp.xor IntKind.u8 (c.1 : Int) (2 ^ k.1 % 256) ≠ (c.1 : Int) := by decide +kernel
theorem flip_byte (x : UInt8) (bit : Int) (h0 : 0 ≤ bit) : ∃ y : UInt8, y ≠ x ∧ bits BinOp.xor IntKind.u8 (x.toNat : Int) (2 ^ (bit % 8).toNat % 256) = (y.toNat : Int) := by
  have hx := x.toNat_lt
  obtain ⟨a, b, c⟩ := flip_all ⟨x.toNat, hx⟩ ⟨(bit % 8).toNat, by omega⟩
  simp only at a b c
  generalize bits BinOp.xor IntKind.u8 (x.toNat : Int) (2 ^ (bit % 8).toNat % 256) = z at *
  refine ⟨UInt8.ofNat z.toNat, fun h => c ?_, ?_⟩
  · have := congrArg UInt8.toNat h
    rw [UInt8.toNat_ofNat'] at this
    omega
  · rw [UInt8.toNat_ofNat']
    omega

set_option maxRecDepth 100000 in
set_option maxHeartbeats 8000000 in
theorem torn_law (s : Sh) (at_ : Int) (bit : Int) (w : World) (hs : s.d.length ≤ 9223372036854775807) (hat : I64 at_) (hbit : 0 ≤ bit ∧ bit ≤ 255) (ht : Tab w) : Calls Tryz.prog 6 #[snapV s, .int .i64 at_, .int .u8 bit] w fun e w' => e = .returned (.bool true) ∧ Below w.heap.size w w' := by
  have HT := Lib.hid (TabB.of ht)
  have HA := Lib.hid (fun (W : World) (hb : Below w.heap.size w W) => awake_any W (HT.out.on hb).here)
  have HR := Lib.hid (fun (W : World) => refRight_any s W (by omega))
  have HN := Lib.hid (fun (W : World) (hb : Below w.heap.size w W) => Lon.start (w := W) (room := 8388608) (by decide) (by decide) (HT.out.on hb).here)
  have hsz : (bs s.d).size = s.d.length := bs_size _
  have Hsz := Lib.hid hsz
  unfold snapV at HR ⊢
  clear ht hsz
  obtain ⟨wa, hwa⟩ : ∃ wa, wa = w.alloc (.cells #[.int .i64 s.i, .int .i64 s.t, .string (bs s.d)] 33) := ⟨_, rfl⟩
  have Ba : Hid (Below w.heap.size w wa) := Lib.hid (by rw [hwa]; exact (Below.refl _ _).alloc (Nat.le_refl _) _)
  have Ha : Hid (Holds wa w.heap.size 33 [.int .i64 s.i, .int .i64 s.t, .string (bs s.d)]) := Lib.hid (by rw [hwa]; exact Holds.new w 33 _)
  have Hwa := Lib.hid hwa
  clear hwa
  obtain ⟨dv, hdv⟩ : ∃ dv, dv = bs s.d := ⟨_, rfl⟩
  rw [← hdv] at Hsz Ha Hwa HR
  have Hdv := Lib.hid hdv
  have hsz := Hsz.out
  rw [← hdv]
  clear hdv
  obtain ⟨n0, hn0⟩ : ∃ n, n = s.d.length := ⟨_, rfl⟩
  rw [← hn0] at hsz
  have Hn0 := Lib.hid hn0
  rw [← hn0] at hs
  clear hn0
  go_enter Tryz.func6, Tryz.ntmps6
  go_wp2_with fail
  rw [← Hwa.out]
  refine (HA.out _ Ba.out).mono ?_
  rintro e w1 ⟨rfl, hb1⟩
  have B1 := Lib.hid (Ba.out.trans (below_mono' hb1 Ba.out.size))
  have H1 := Lib.hid (Ha.out.below hb1 Ha.out.lt)
  obtain ⟨z0, z1, z2⟩ := holds3 H1.out
  clear hb1
  by_cases hgt : 5000 < n0
  · have hgtz : (5000 : Int) < (n0 : Int) := by omega
    go_wp2
    go_ret
    exact ⟨rfl, B1.out⟩
  · have hgtz : ¬ (5000 : Int) < (n0 : Int) := by omega
    by_cases hok : okS s
    · rw [decide_eq_true hok] at HR
      go_wp2_with fail
      refine (HR.out _).mono ?_
      rintro e w2 ⟨rfl, hb2⟩
      have B2 := Lib.hid (B1.out.trans (below_mono' hb2 B1.out.size))
      have H2 := Lib.hid (H1.out.below hb2 H1.out.lt)
      clear hb2 z0 z1 z2
      have Hok := Lib.hid hok
      have Htl : Hid ((textS s).length ≤ 5031) := Lib.hid (by have := text_le hok; have := Hn0.out; omega)
      clear hok
      go_wp2_with fail
      refine (HN.out _ B2.out).mono ?_
      rintro e w3 ⟨a, F, rfl, l3, b3⟩
      have L3 := Lib.hid l3
      have B3 := Lib.hid (B2.out.trans (below_mono' b3 B2.out.size))
      have X3 : Hid (Box w3 F w.heap.size 33 [.int .i64 s.i, .int .i64 s.t, .string dv]) := Lib.hid ⟨H2.out.below b3 H2.out.lt, fun hf => by have := l3.base _ hf; have := H2.out.lt; omega⟩
      clear l3 b3
      have HS := Lib.hid (L3.out.save s 0 0 (most_new 8388608 (by decide) (by decide)) (by decide) (by decide) (by have := Hn0.out; omega))
      rw [save_first Hok.out (by have := Htl.out; omega)] at HS
      unfold snapV at HS
      rw [← Hdv.out] at HS
      obtain ⟨z0, z1, z2⟩ := holds3 X3.out.1
      go_wp2_with fail
      refine HS.out.mono ?_
      rintro e w4 ⟨rfl, F4, l4, o4, g4, b4⟩
      have L4 := Lib.hid l4
      have B4 := Lib.hid (B3.out.trans (below_mono' b4 B2.out.size))
      have X4 := Lib.hid (X3.out.step o4 g4)
      clear l4 o4 g4 b4 HS X3 z0 z1 z2
      have HM := Lib.hid (L4.out.names (fit_room1 Hok.out (by decide) (by decide)) rfl)
      unfold roomOne at HM
      simp only [List.length_singleton, List.map_cons, List.map_nil] at HM
      obtain ⟨nmv, hnm⟩ : ∃ v, v = bs (shotL s.i.toNat) := ⟨_, rfl⟩
      obtain ⟨txv, htx⟩ : ∃ v, v = bs (textS s) := ⟨_, rfl⟩
      have Hnm := Lib.hid hnm
      have Htx := Lib.hid htx
      have htxs : txv.size = (textS s).length := by rw [htx]; exact bs_size _
      clear hnm htx
      go_wp2_with fail
      refine HM.out.mono ?_
      rintro e w5 ⟨A5, cap5, rfl, r5, l5, b5⟩
      have L5 := Lib.hid l5
      have B5 := Lib.hid (B4.out.trans (below_mono' b5 (Nat.le_trans B2.out.size L4.out.lt)))
      have X5 := Lib.hid (X4.out.below b5)
      obtain ⟨b, off, rfl, _, c5⟩ := row_str r5 0 (shotL s.i.toNat) rfl
      rw [← Hnm.out, Nat.add_zero] at c5
      clear l5 b5 r5 HM
      have HRd := Lib.hid (read_good (shotL s.i.toNat) a F4 _ w5 (by rw [shotL_len]; decide) L5.out.d)
      rw [show readS (shotL s.i.toNat) (⟨[doneF s], 8388608, -1, false⟩ : St) = (textS s, 0) from by
        have := readS_at (s := ⟨[doneF s], 8388608, -1, false⟩) (i := 0) (f := doneF s) rfl (List.pairwise_singleton _ _) rfl
        unfold doneF at this ⊢
        simpa using this, ← Hnm.out, ← Htx.out] at HRd
      go_wp2_with fail
      refine HRd.out.mono ?_
      rintro e w6 ⟨rfl, hw6⟩
      replace hw6 := hw6.symm
      subst hw6
      clear HRd c5
      obtain ⟨m, hm⟩ : ∃ m, m = (textS s).length := ⟨_, rfl⟩
      rw [← hm] at htxs
      have Hm := Lib.hid hm
      have hml : m ≤ 5031 := by rw [hm]; exact Htl.out
      clear hm
      by_cases hneg : at_ < 0
      · go_wp2
        go_ret
        exact ⟨rfl, B5.out⟩
      · obtain ⟨p, rfl⟩ : ∃ p : Nat, at_ = (p : Int) := ⟨at_.toNat, by omega⟩
        by_cases hge : m ≤ p
        · have hgez : (m : Int) ≤ (p : Int) := by omega
          go_wp2
          go_ret
          exact ⟨rfl, B5.out⟩
        · have hgez : ¬ (m : Int) ≤ (p : Int) := by omega
          have HC := Lib.hid (L5.out.ret (s' := leftS s p []) (x := .int .i64 0) (f := 22) (args := #[.pointer (some a), .string nmv, .int .i64 (p : Int)]) (by
            have h1 := good.cut (shotL s.i.toNat) (p : Int) a F4 _ w5 (by rw [shotL_len]; decide) L5.out.d (fit_room1 Hok.out (by decide) (by decide)) hat
            rw [show (⟨[doneF s], 8388608, -1, false⟩ : St) = oneS s (-1) false from rfl, cut_one p (by have := Hm.out; omega), ← Hnm.out] at h1
            exact h1))
          go_wp2_with fail
          refine HC.out.mono ?_
          rintro e w7 ⟨rfl, F7, l7, o7, g7, b7⟩
          have L7 := Lib.hid l7
          have B7 := Lib.hid (B5.out.trans (below_mono' b7 B2.out.size))
          have X7 := Lib.hid (X5.out.step o7 g7)
          clear l7 o7 g7 b7 HC
          have Hf7 : Hid (Fit (leftS s p [])) := Lib.hid ⟨by show (0 : Int) ≤ 8388608; decide, by show (8388608 : Int) ≤ _; decide, by show (-1 : Int) ≤ -1; decide, by show (-1 : Int) ≤ _; decide, by
            show usedL [leftF s p []] ≤ _
            unfold leftF
            simp only [usedL, sizeF, List.length_take, List.length_nil]
            have := Htl.out
            omega, by show (1 : Nat) ≤ 1000000; decide⟩
          have HL := Lib.hid (L7.out.load none Hf7.out rfl (cut_not Hok.out (by have := Hm.out; omega)))
          unfold loadV at HL
          go_wp2_with fail
          refine HL.out.mono ?_
          rintro e w8 ⟨rfl, l8, b8⟩
          have L8 := Lib.hid l8
          have B8 := Lib.hid (B7.out.trans (below_mono' b8 (Nat.le_trans B2.out.size L7.out.lt)))
          have X8 := Lib.hid (X7.out.below b8)
          clear l8 b8 HL
          have Hpm : Hid (p < (textS s).length) := Lib.hid (by have := Hm.out; omega)
          obtain ⟨x, q, Hx, Hxq⟩ : ∃ x q, Hid ((textS s)[p]'Hpm.out = x) ∧ Hid ((textS s).drop (p + 1) = q) := ⟨_, _, Lib.hid rfl, Lib.hid rfl⟩
          have Hdr : Hid ((textS s).drop p = x :: q) := Lib.hid (by rw [← Hx.out, ← Hxq.out, ← List.drop_eq_getElem_cons Hpm.out])
          have hql : q.length + 1 = m - p := by have := congrArg List.length Hdr.out; rw [List.length_drop, List.length_cons] at this; have := Hm.out; omega
          have hex : bl (txv.extract p m) = x :: q := by
            rw [Htx.out, bl_extract, bl_bs, Hdr.out, List.take_of_length_le (by rw [List.length_cons]; omega)]
          obtain ⟨y, hyx, hyv⟩ := flip_byte x bit hbit.1
          have Hyx := Lib.hid hyx
          obtain ⟨cap, W, hcv, hcap, hcell, hfr, hbel, hcb⟩ := turn_first q x y (w8.alloc (.cells #[.int .i64 0, .int .i64 0, .string { data := #[] }] 33)) (txv.extract p m) hex
          simp only [World.size_alloc] at hcv hcell hfr hbel hcb
          rw [← hyv] at hcb
          have B9 : Hid (Below w8.heap.size w8 (W.setCell ⟨w8.heap.size + 1, 0, none⟩ (.int .u8 (bits BinOp.xor IntKind.u8 (x.toNat : Int) (2 ^ (bit % 8).toNat % 256))))) := Lib.hid (((((Below.refl _ w8).alloc (Nat.le_refl _) (.cells #[.int .i64 0, .int .i64 0, .string { data := #[] }] 33))).trans (below_mono' hbel (Nat.le_succ _))).setCell (p := ⟨w8.heap.size + 1, 0, none⟩) (Nat.le_succ _) _)
          have L9 := Lib.hid (L8.out.below B9.out)
          have X9 := Lib.hid (X8.out.below B9.out)
          have HAp := Lib.hid (L9.out.ret (s' := leftS s p (y :: q)) (x := .int .i64 0) (f := 20) (args := #[.pointer (some a), .string nmv, .string (bs (y :: q))]) (by
            have h1 := good.append (shotL s.i.toNat) (y :: q) a F7 _ _ L9.out.d Hf7.out (by rw [shotL_len]; decide) (by rw [List.length_cons]; omega)
            rw [append_left p (y :: q) (right_shot _) (by rw [List.length_cons]; omega), ← Hnm.out] at h1
            exact h1))
          have Hbel : Hid (Below w.heap.size w (W.setCell ⟨w8.heap.size + 1, 0, none⟩ (.int .u8 (bits BinOp.xor IntKind.u8 (x.toNat : Int) (2 ^ (bit % 8).toNat % 256))))) := Lib.hid (B8.out.trans (below_mono' B9.out B8.out.size))
          have h0q : (0 : Int) < ((q.length + 1 : Nat) : Int) := by omega
          obtain ⟨N, hN⟩ : ∃ N, N = q.length + 1 := ⟨_, rfl⟩
          rw [← hN] at hcv hcap hcb h0q hql
          have HN9 := Lib.hid hN
          clear hex hyx hyv hN hbel
          generalize bs (y :: q) = tv at *
          clear hql
          go_wp2_with fail
          refine HAp.out.mono ?_
          rintro e w10 ⟨rfl, F10, l10, o10, g10, b10⟩
          have L10 := Lib.hid l10
          have B10 := Lib.hid (Hbel.out.trans (below_mono' b10 B2.out.size))
          have X10 := Lib.hid (X9.out.step o10 g10)
          clear l10 o10 g10 b10 HAp hcv hcap hcell hfr hcb
          have Hst : Hid (Most (leftS s p (y :: q)) 1048607 1) := Lib.hid ⟨by
            show usedL [leftF s p (y :: q)] ≤ _
            unfold leftF
            have h1 := congrArg List.length Hdr.out
            rw [List.length_drop, List.length_cons] at h1
            simp only [usedL, sizeF, List.length_take, List.length_cons]
            have := Htl.out
            omega, Nat.le_refl _, by show (0 : Int) ≤ 8388608; decide, by show (8388608 : Int) ≤ _; decide, by show (-1 : Int) ≤ -1; decide, by show (-1 : Int) ≤ _; decide⟩
          have HLt := Lib.hid (L10.out.load none (Hst.out.fit (by decide) (by decide)) rfl (by
            rw [← Hxq.out]
            exact load_turned Hok.out Hpm.out (by rw [Hx.out]; exact Hyx.out.symm)))
          unfold loadV at HLt
          go_wp2_with fail
          refine HLt.out.mono ?_
          rintro e w11 ⟨rfl, l11, b11⟩
          have L11 := Lib.hid l11
          have B11 := Lib.hid (B10.out.trans (below_mono' b11 (Nat.le_trans B2.out.size L10.out.lt)))
          have X11 := Lib.hid (X10.out.below b11)
          clear l11 b11 HLt
          obtain ⟨wb, hwb⟩ : ∃ wb, wb = w11.alloc (.cells #[.int .i64 0, .int .i64 0, .string { data := #[] }] 33) := ⟨_, rfl⟩
          have Bb : Hid (Below w11.heap.size w11 wb) := Lib.hid (by rw [hwb]; exact (Below.refl _ _).alloc (Nat.le_refl _) _)
          have Lb := Lib.hid (L11.out.below Bb.out)
          have Xb := Lib.hid (X11.out.below Bb.out)
          have Hwb := Lib.hid hwb
          clear hwb
          have HS2 := Lib.hid (Lb.out.save s 1048607 1 Hst.out (by decide) (by decide) (by have := Hn0.out; omega))
          rw [save_left (right_shot _) Hok.out p (y :: q) (by
            have h1 := load_turned Hok.out Hpm.out (y := y) (by rw [Hx.out]; exact Hyx.out.symm)
            rw [Hxq.out] at h1
            intro hc
            exact h1 _ (List.mem_singleton.2 rfl) s ⟨Hok.out, rfl, hc⟩)] at HS2
          unfold snapV at HS2
          rw [← Hdv.out] at HS2
          have k0 := fun o => (holds3 (X11.out.1.alloc o)).1
          have k1 := fun o => (holds3 (X11.out.1.alloc o)).2.1
          have k2 := fun o => (holds3 (X11.out.1.alloc o)).2.2
          go_wp2_with fail
          rw [← Hwb.out]
          refine HS2.out.mono ?_
          rintro e w12 ⟨rfl, F12, l12, o12, g12, b12⟩
          have L12 := Lib.hid l12
          have B12 := Lib.hid ((B11.out.trans (below_mono' Bb.out B11.out.size)).trans (below_mono' b12 B2.out.size))
          have X12 := Lib.hid (Xb.out.step o12 g12)
          clear l12 o12 g12 b12 HS2 k0 k1 k2
          have HL3 := Lib.hid (L12.out.load (some s) (fit_room1 Hok.out (by decide) (by decide)) rfl (load_one Hok.out))
          unfold loadV snapV at HL3
          simp only at HL3
          rw [← Hdv.out] at HL3
          go_wp2_with fail
          refine HL3.out.mono ?_
          rintro e w13 ⟨rfl, l13, b13⟩
          have B13 := Lib.hid (B12.out.trans (below_mono' b13 (Nat.le_trans B2.out.size L12.out.lt)))
          have X13 := Lib.hid (X12.out.below b13)
          clear l13 b13 HL3
          have k0 := fun o => (holds3 (X13.out.1.alloc o)).1
          have k1 := fun o => (holds3 (X13.out.1.alloc o)).2.1
          have k2 := fun o => (holds3 (X13.out.1.alloc o)).2.2
          have heq := fun W => eql_snap s s W
          rw [show sameS s s = true from sameS_iff.2 rfl] at heq
          unfold snapV at heq
          rw [← Hdv.out] at heq
          go_wp2
          go_ret
          exact ⟨rfl, B13.out.alloc (by have := B13.out.size; omega) _⟩
    · rw [decide_eq_false hok] at HR
      go_wp2_with fail
      refine (HR.out _).mono ?_
      rintro e w2 ⟨rfl, hb2⟩
      go_wp2
      go_ret
      exact ⟨rfl, B1.out.trans (below_mono' hb2 B1.out.size)⟩
end Go.Proofs.YtmgbmphheagdmaaGreatDoor
