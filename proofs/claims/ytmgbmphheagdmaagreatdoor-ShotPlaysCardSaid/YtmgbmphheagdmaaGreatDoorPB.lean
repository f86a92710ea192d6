/-
  ShotPlays.
-/
import Derived.Test.YtmgbmphheagdmaaGreatDoorPA
import Derived.Deep.RegionHeld3
import Derived.BigRegion
namespace Go.Proofs.YtmgbmphheagdmaaGreatDoor
open Go.RowKit
set_option linter.unusedVariables false
set_option linter.unusedSimpArgs false

theorem holds123 {w : World} {g : Nat} {t : TypeId} {a b c d e f h i : Value} (h1 : Holds w g t [a, b, c, d, e, f, h, i]) : w.cell? ⟨g, 1, none⟩ = some b ∧ w.cell? ⟨g, 2, none⟩ = some c ∧ w.cell? ⟨g, 3, none⟩ = some d :=
  ⟨h1.cell rfl, h1.cell rfl, h1.cell rfl⟩
/-- What Load tells, of both. -/
theorem load_shape (o : Option Sh) : ∃ (i t : Int) (d : ByteArray) (b : Bool), loadV 0 o = .tuple #[.agg #[.int .i64 i, .int .i64 t, .string d], .bool b, .int .i64 0] ∧ optV o = .tuple #[.agg #[.int .i64 i, .int .i64 t, .string d], .bool b] ∧
    ∀ W, (binOp .neq 33 (.agg #[.int .i64 i, .int .i64 t, .string d]) (.agg #[.int .i64 i, .int .i64 t, .string d])).run Tryz.prog W = .ok (.bool false) W := by
  cases o with
  | none =>
    refine ⟨0, 0, _, false, rfl, rfl, fun W => ?_⟩
    have h := neq_snap zS zS W
    rw [show sameS zS zS = true from sameS_iff.2 rfl] at h
    unfold snapV zS at h
    rw [zS_data] at h
    exact h
  | some p =>
    refine ⟨p.i, p.t, bs p.d, true, rfl, rfl, fun W => ?_⟩
    have h := neq_snap p p W
    rw [show sameS p p = true from sameS_iff.2 rfl] at h
    exact h
/-- What the loop knows. -/
structure PlayI (w : World) (wr : World) (a : Addr) (F : Nat → Prop) (r : Nat) (v : Value) (s : St) (i : Nat) : Prop where
  b : Both w.heap.size wr a F r v s
  since : Below w.heap.size w wr
  most : Most s (150000 * i) (3 * i)

set_option maxRecDepth 100000 in
set_option maxHeartbeats 40000000 in
theorem plays_law (l : List Pl) (A : Option Addr) (n cap : Nat) (w : World) (hn : l.length = n) (hrow : RowAt w A (l.flatMap plC)) (hmax : n ≤ 9223372036854775807) (hall : ∀ o ∈ l, PlOk w o) (ht : Tab w) :
    Calls Tryz.prog 3 #[.slice A n cap] w fun e w' => e = .returned (.bool true) ∧ Below w.heap.size w w' := by
  have HT := Lib.hid (TabB.of ht)
  have HA := Lib.hid (awake_any w ht)
  have HN := Lib.hid (fun (W : World) => good.new 300000 W (by decide) (by decide))
  have HR := Lib.hid (fun (W : World) => refnew_any 300000 W)
  have Hrow := Lib.hid hrow
  have Hn := Lib.hid hn
  have Hall := Lib.hid hall
  clear ht hrow hn hall
  go_enter Tryz.func3, Tryz.ntmps3
  go_wp2_with fail
  refine HA.out.mono ?_
  rintro e w1 ⟨rfl, hb1⟩
  have B1 := Lib.hid hb1
  have HG := Lib.hid (great_any l A n cap w1 Hn.out (Hrow.out.below hb1 (Nat.le_refl _)) hmax)
  clear hb1 HA
  go_wp2_with fail
  refine HG.out.mono ?_
  rintro e w2 ⟨hg, hb2⟩
  have B2 := Lib.hid (B1.out.trans (below_mono' hb2 B1.out.size))
  clear hb2 HG
  rcases hg with rfl | ⟨rfl, hsm⟩
  · go_wp2
    go_ret
    exact ⟨rfl, B2.out⟩
  · have Hsm := Lib.hid hsm
    have hn40 : n ≤ 40 := by rw [← Hn.out]; exact hsm.1
    clear hsm
    go_wp2_with fail
    refine (HN.out w2).mono ?_
    rintro e w3 ⟨a, F, rfl, hd3, hF3, hb3⟩
    have B3 := Lib.hid (B2.out.trans (below_mono' hb3 B2.out.size))
    have L3 : Hid (Lon w.heap.size w3 a F (newS 300000)) := Lib.hid ⟨hd3, fun k hk => Nat.le_trans B2.out.size (hF3 k hk), HT.out.on B3.out, B3.out.size⟩
    clear hd3 hF3 hb3 HN
    go_wp2_with fail
    refine (HR.out w3).mono ?_
    rintro e w4 ⟨rfl, hr4, hb4⟩
    have B4 := Lib.hid (B3.out.trans (below_mono' hb4 B3.out.size))
    have I4 : Hid (PlayI w w4 a F w3.heap.size (.slice none 0 0) (newS 300000) 0) := Lib.hid
      ⟨⟨L3.out.below hb4, hr4, fun k hk => ⟨fun e => by have := good.foot L3.out.d k hk; omega, fun e => by cases e⟩, B3.out.size⟩, B4.out, most_new 300000 (by decide) (by decide)⟩
    clear hr4 hb4 HR L3
    obtain ⟨r, hrr⟩ : ∃ r, r = w3.heap.size := ⟨_, rfl⟩
    have Hrr := Lib.hid hrr
    rw [← hrr] at I4
    clear hrr
    have hmax0 := fun (N : Int) (W : World) => run_max_of N 0 W
    have hmaxm := fun (N : Int) (W : World) => run_max_of N (-1) W
    go_wp2_with fail
    rw [← Hrr.out]
    go_loopw [29] (fun iv wr => ∃ (i : Nat) (F' : Nat → Prop) (v' : Value) (s : St), i ≤ n ∧ iv = .int .i64 i ∧ Hid (PlayI w wr a F' r v' s i)) (fun iv _ => n - (intOf iv).toNat)
    case atStart => exact ⟨0, F, .slice none 0 0, newS 300000, Nat.zero_le _, rfl, I4⟩
    case round =>
      clear I4 B4
      obtain ⟨i, F', v', s, hi, rfl, Hi⟩ := hrel
      by_cases hlt : i < n
      · have hltz : (i : Int) < (n : Int) := by omega
        obtain ⟨o, ho⟩ : ∃ o, l[i]? = some o := ⟨_, List.getElem?_eq_getElem (by rw [Hn.out]; exact hlt)⟩
        obtain ⟨b, off, rfl, hbl, e0, e1, e2, e3, e4, e5, e6, e7⟩ := row_pl Hrow.out ho
        have Ok := Lib.hid (Hall.out o (List.mem_of_getElem? ho))
        have Sm := Lib.hid (Hsm.out.2 o (List.mem_of_getElem? ho))
        have g0 := (Hi.out.since.cell (p := ⟨b, off + i * 8, none⟩) hbl).trans e0
        have g1 := (Hi.out.since.cell (p := ⟨b, off + i * 8 + 1, none⟩) hbl).trans e1
        have g2 := (Hi.out.since.cell (p := ⟨b, off + i * 8 + 2, none⟩) hbl).trans e2
        have g3 := (Hi.out.since.cell (p := ⟨b, off + i * 8 + 3, none⟩) hbl).trans e3
        have g4 := (Hi.out.since.cell (p := ⟨b, off + i * 8 + 4, none⟩) hbl).trans e4
        have g5 := (Hi.out.since.cell (p := ⟨b, off + i * 8 + 5, none⟩) hbl).trans e5
        have g6 := (Hi.out.since.cell (p := ⟨b, off + i * 8 + 6, none⟩) hbl).trans e6
        have g7 := (Hi.out.since.cell (p := ⟨b, off + i * 8 + 7, none⟩) hbl).trans e7
        clear ho hbl e0 e1 e2 e3 e4 e5 e6 e7
        obtain ⟨wo, hwo⟩ : ∃ wo, wo = wr.alloc (.cells #[.int .i64 o.k, .int .i64 o.q.i, .int .i64 o.q.t, .string (bs o.q.d), .string (bs o.nm), .string (bs o.b), .int .i64 o.n, .slice o.A o.kl o.kc] 36) := ⟨_, rfl⟩
        have Bo : Hid (Below wr.heap.size wr wo) := Lib.hid (by rw [hwo]; exact (Below.refl _ _).alloc (Nat.le_refl _) _)
        have Xo : Hid (Box2 wo F' r v' wr.heap.size 36 [.int .i64 o.k, .int .i64 o.q.i, .int .i64 o.q.t, .string (bs o.q.d), .string (bs o.nm), .string (bs o.b), .int .i64 o.n, .slice o.A o.kl o.kc]) := Lib.hid (by rw [hwo]; exact Hi.out.b.new _ _)
        have To := Lib.hid (Hi.out.b.below Bo.out)
        have BW := Lib.hid (Hi.out.since.trans (below_mono' Bo.out Hi.out.since.size))
        have Hwo := Lib.hid hwo
        obtain ⟨X, hX⟩ : ∃ X, X = wr.heap.size := ⟨_, rfl⟩
        have HX := Lib.hid hX
        rw [← hX] at Xo
        clear hwo hX
        have Hfit := Lib.hid (Hi.out.most.fit (by omega) (by omega))
        by_cases h0 : o.k = 0
        · rw [h0] at g0 Xo Hwo
          clear h0
          as_aux_lemma =>
            have Td := Lib.hid (To.out.below (w1 := wo.drew) (Below.refl _ _).drew)
            have Xd := Lib.hid (Xo.out.below (w1 := wo.drew) (Below.refl _ _).drew)
            have BWd : Hid (Below w.heap.size w wo.drew) := Lib.hid BW.out.drew
            have HS := Lib.hid (Td.out.l.save o.q (150000 * i) (3 * i) Hi.out.most (by omega) (by omega) Ok.out.q)
            have HSr := Lib.hid (fun (W : World) (h : RefD W r v' s) => refSave_any o.q r v' s W (150000 * i) (3 * i) h Hi.out.most (by omega) (by omega) (by have := Sm.out.1; omega))
            have Hm6 : Hid (Most (saveS o.q s).2 (150000 * (i + 1)) (3 * (i + 1))) := Lib.hid (by
              by_cases hok : okS o.q
              · exact (Hi.out.most.save o.q).more (by have := text_le hok; have := Sm.out.1; omega) (by omega)
              · rw [show saveS o.q s = (1, s) by unfold saveS; rw [if_pos hok]]
                exact Hi.out.most.more (by omega) (by omega))
            unfold snapV at HS HSr
            obtain ⟨r5, hr5⟩ : ∃ r5, r5 = saveS o.q s := ⟨_, rfl⟩
            rw [← hr5] at HS HSr Hm6
            clear hr5
            have H0 := Lib.hid (holds123 Xd.out.1)
            go_wp2
            rw [← Hwo.out, ← HX.out]
            go_region_held3 (fun W => W.cell? ⟨X, 1, none⟩ = some (.int .i64 o.q.i) ∧ W.cell? ⟨X, 2, none⟩ = some (.int .i64 o.q.t) ∧ W.cell? ⟨X, 3, none⟩ = some (.string (bs o.q.d)))
              (first
                | exact H6.out
                | exact H5.out
                | exact H0.out
                | go_keep)
              (first
                | (go_at_call 12; refine HS.out.mono ?_; rintro e w5 ⟨rfl, F5, l5, o5, g5, b5⟩; have X5 := Lib.hid (Xd.out.prog o5 g5); have H5 := Lib.hid (holds123 X5.out.1); have R5 := Lib.hid (HSr.out w5 (Td.out.ref.only o5 Td.out.apart)); have St := Lib.hid (fun (w6 : World) (v6 : Value) (hr6 : RefD w6 r v6 r5.2) (ho6 : Only (Foot r v') w5 w6) (hg6 : ∀ k, v6.ownBlock = some k → v'.ownBlock = some k ∨ w5.heap.size ≤ k) => Td.out.step l5 o5 g5 hr6 ho6 hg6); clear l5 o5 g5 b5 HS)
                | (go_at_call 13; refine R5.out.mono ?_; rintro e w6 ⟨rfl, v6, hr6, ho6, hg6⟩; have H6 := Lib.hid (holds123 (X5.out.refd ho6 hg6).1); have T6 := Lib.hid (St.out w6 v6 hr6 ho6 hg6).1; have B6 := Lib.hid (BWd.out.trans (St.out w6 v6 hr6 ho6 hg6).2); clear hr6 ho6 hg6)
                | fail "no arm")
            generalize r5.2 = d5 at *
            generalize r5.1 = c5 at *
            have Hf6 := Lib.hid (Hm6.out.fit (by omega) (by omega))
            clear g0 g1 g2 g3 g4 g5 g6 g7
            by_cases hoff : d5.off = true
            · have HL := Lib.hid (load_off (load_any a F5 d5 w6 T6.out.l.d Hf6.out T6.out.l.tabF.here) hoff)
              unfold loadV at HL
              go_wp2_with fail
              refine HL.out.mono ?_
              rintro e w7 ⟨rfl, b7⟩
              have T7 := Lib.hid (T6.out.below b7)
              have B7 := Lib.hid (B6.out.trans (below_mono' b7 B6.out.size))
              clear b7 HL
              have hofc : ∀ o, (w7.alloc o).cell? ⟨r, 3, none⟩ = some (.bool true) := fun o => by
                have h1 := (T7.out.below (w1 := w7.alloc o) ((Below.refl _ _).alloc (Nat.le_refl _) _)).ref.cells.2.2.2.1
                rwa [hoff] at h1
              have hnq := fun W => neq_snap zS zS W
              rw [show sameS zS zS = true from sameS_iff.2 rfl] at hnq
              unfold snapV zS at hnq
              simp only [zS_data, Bool.not_true] at hnq
              clear hoff
              go_wp2
              go_roundw
              case rel => exact ⟨i + 1, F5, v6, d5, by omega, by go_num, Lib.hid ⟨T7.out.below ((Below.refl _ _).alloc (Nat.le_refl _) _), B7.out.alloc B7.out.size _, Hm6.out⟩⟩
              case measure => simp [intOf]; omega
            · have hoff' : d5.off = false := by cases h : d5.off <;> simp_all
              obtain ⟨o2, ho2⟩ := load_ex d5.files
              have HL := Lib.hid (T6.out.l.load o2 Hf6.out hoff' ho2)
              have Ho2 := Lib.hid ho2
              clear ho2 hoff
              obtain ⟨xi, xt, xd, bb, hlv, hov, hnq0⟩ := load_shape o2
              have Hov := Lib.hid hov
              have Hnq := Lib.hid hnq0
              clear hov hnq0
              rw [hlv] at HL
              go_wp2_with fail
              refine HL.out.mono ?_
              rintro e w7 ⟨rfl, l7, b7⟩
              have T7 := Lib.hid (T6.out.below b7)
              have B7 := Lib.hid (B6.out.trans (below_mono' b7 B6.out.size))
              clear l7 b7 HL
              obtain ⟨wb, hwb⟩ : ∃ wb, wb = w7.alloc (.cells #[.int .i64 xi, .int .i64 xt, .string xd] 33) := ⟨_, rfl⟩
              have Bb : Hid (Below w7.heap.size w7 wb) := Lib.hid (by rw [hwb]; exact (Below.refl _ _).alloc (Nat.le_refl _) _)
              have Sb : Hid (Box2 wb F5 r v6 w7.heap.size 33 [.int .i64 xi, .int .i64 xt, .string xd]) := Lib.hid (by rw [hwb]; exact T7.out.new _ _)
              have Tb := Lib.hid (T7.out.below Bb.out)
              have BB := Lib.hid (B7.out.trans (below_mono' Bb.out B7.out.size))
              have Hwb := Lib.hid hwb
              obtain ⟨Y, hY⟩ : ∃ Y, Y = w7.heap.size := ⟨_, rfl⟩
              have HY := Lib.hid hY
              rw [← hY] at Sb
              clear hwb hY
              have hofc : ∀ o, (w7.alloc o).cell? ⟨r, 3, none⟩ = some (.bool false) := fun o => by
                have h1 := (T7.out.below (w1 := w7.alloc o) ((Below.refl _ _).alloc (Nat.le_refl _) _)).ref.cells.2.2.2.1
                rwa [hoff'] at h1
              have HRL := Lib.hid (refLoad_any r v6 d5 wb Tb.out.ref Hf6.out)
              go_wp2_with fail
              rw [← Hwb.out, ← HY.out]
              refine HRL.out.mono ?_
              rintro e w8 ⟨⟨o3, h3, rfl⟩, b8⟩
              obtain rfl : o3 = o2 := load_unique (good.rise Tb.out.l.d) h3 Ho2.out
              have T8 := Lib.hid (Tb.out.below b8)
              have S8 := Lib.hid (Sb.out.below b8)
              have B8 := Lib.hid (BB.out.trans (below_mono' b8 BB.out.size))
              clear h3 b8 HRL hofc
              obtain ⟨wc, hwc⟩ : ∃ wc, wc = w8.alloc (.cells #[.int .i64 xi, .int .i64 xt, .string xd] 33) := ⟨_, rfl⟩
              have Bc : Hid (Below w8.heap.size w8 wc) := Lib.hid (by rw [hwc]; exact (Below.refl _ _).alloc (Nat.le_refl _) _)
              have Tc := Lib.hid (T8.out.below Bc.out)
              have BC := Lib.hid (B8.out.trans (below_mono' Bc.out B8.out.size))
              have Sc : Hid (Holds wc w8.heap.size 33 [.int .i64 xi, .int .i64 xt, .string xd]) := Lib.hid (by rw [hwc]; exact Holds.new w8 33 _)
              have Hwc := Lib.hid hwc
              obtain ⟨Z, hZ⟩ : ∃ Z, Z = w8.heap.size := ⟨_, rfl⟩
              have HZ := Lib.hid hZ
              rw [← hZ] at Sc
              clear hwc hZ
              have Sy := Lib.hid (S8.out.below Bc.out)
              obtain ⟨A6, cap6, hv6⟩ := Tc.out.ref.slice
              have HSx : Hid (∀ W, Below wc.heap.size wc W → W.cell? ⟨Y, 0, none⟩ = some (.int .i64 xi) ∧ W.cell? ⟨Y, 1, none⟩ = some (.int .i64 xt) ∧ W.cell? ⟨Y, 2, none⟩ = some (.string xd) ∧ W.cell? ⟨Z, 0, none⟩ = some (.int .i64 xi) ∧ W.cell? ⟨Z, 1, none⟩ = some (.int .i64 xt) ∧ W.cell? ⟨Z, 2, none⟩ = some (.string xd) ∧ W.cell? ⟨r, 0, none⟩ = some (.slice A6 d5.files.length cap6)) := Lib.hid (fun W hb => by
                obtain ⟨y0, y1, y2⟩ := holds3 (Sy.out.1.below hb Sy.out.1.lt)
                obtain ⟨z0, z1, z2⟩ := holds3 (Sc.out.below hb Sc.out.lt)
                have q0 := (Tc.out.below hb).ref.cells.1
                rw [hv6] at q0
                exact ⟨y0, y1, y2, z0, z1, z2, q0⟩)
              have hnq := Hnq.out

              have Td := Lib.hid (Tc.out.below (w1 := wc.drew) (Below.refl _ _).drew)
              have BD : Hid (Below w.heap.size w wc.drew) := Lib.hid BC.out.drew
              have HM := Lib.hid (Td.out.l.names Hf6.out hoff')
              have Hus : Hid (usedS d5 = usedL d5.files) := Lib.hid (by unfold usedS; rw [if_neg (by rw [hoff']; simp)])
              have HX0 := Lib.hid (HSx.out wc (Below.refl _ _))
              have Hv6 := Lib.hid hv6
              clear hv6 Sy Sc hoff'
              rw [Hov.out]
              go_wp2
              rw [← Hwc.out, ← HZ.out]
              go_region_held3 (fun W => W.cell? ⟨Y, 0, none⟩ = some (.int .i64 xi) ∧ W.cell? ⟨Y, 1, none⟩ = some (.int .i64 xt) ∧ W.cell? ⟨Y, 2, none⟩ = some (.string xd) ∧ W.cell? ⟨Z, 0, none⟩ = some (.int .i64 xi) ∧ W.cell? ⟨Z, 1, none⟩ = some (.int .i64 xt) ∧ W.cell? ⟨Z, 2, none⟩ = some (.string xd) ∧ W.cell? ⟨r, 0, none⟩ = some (.slice A6 d5.files.length cap6))
                (first
                  | exact HX0.out
                  | exact HSx.out _ H11.out
                  | exact HSx.out _ H10.out
                  | exact HSx.out _ H9.out
                  | go_keep)
                (first
                  | (go_at_call 26; refine HM.out.mono ?_; rintro e w9 ⟨A9, cap9, rfl, _, l9, b9⟩; have H9 : Hid (Below wc.heap.size wc w9) := Lib.hid ((Below.refl _ wc).drew.trans b9); have T9 := Lib.hid (Tc.out.below H9.out); have B9 := Lib.hid (BC.out.trans (below_mono' H9.out BC.out.size)); have HU := Lib.hid (good.used a F5 d5 w9 T9.out.l.d Hf6.out); rw [Hus.out] at HU; clear l9 b9 HM)
                  | (go_at_call 27; refine HU.out.mono ?_; rintro e w10 ⟨rfl, b10⟩; have H10 : Hid (Below wc.heap.size wc w10) := Lib.hid (H9.out.trans (below_mono' b10 H9.out.size)); have T10 := Lib.hid (Tc.out.below H10.out); have HV := Lib.hid (refused_any r v6 d5 w10 T10.out.ref Hf6.out); clear b10 HU)
                  | (go_at_call 28; refine HV.out.mono ?_; rintro e w11 ⟨rfl, qq, hw11⟩; have H11 : Hid (Below wc.heap.size wc w11) := Lib.hid (by rw [hw11]; exact below_drewN H10.out qq); have T11 := Lib.hid (Tc.out.below H11.out); have B11 := Lib.hid (BC.out.trans (below_mono' H11.out BC.out.size)); clear hw11 HV)
                  | fail "no arm")
              go_wp2
              go_roundw
              case rel => exact ⟨i + 1, F5, v6, d5, by omega, by go_num, Lib.hid ⟨T11.out, B11.out, Hm6.out⟩⟩
              case measure => simp [intOf]; omega
        · have hk0 : (o.k == 0) = false := beq_eq_false_iff_ne.2 h0
          by_cases h1 : o.k = 1
          · rw [h1] at g0 Xo Hwo
            clear h0 hk0 h1
            as_aux_lemma =>
              obtain ⟨on, hon⟩ := load_ex s.files
              have Hon := Lib.hid hon
              have HS := Lib.hid (To.out.l.clean on Hfit.out (fun _ => hon))
              have HSr := Lib.hid (fun (W : World) (h : RefD W r v' s) => refClean_any on r v' s W h Hfit.out (fun _ => Hon.out) (good.rise Hi.out.b.l.d))
              have Hm6 : Hid (Most (cleanS on s).2 (150000 * (i + 1)) (3 * (i + 1))) := Lib.hid ((Hi.out.most.clean on).more (by omega) (by omega))
              obtain ⟨r5, hr5⟩ : ∃ r5, r5 = cleanS on s := ⟨_, rfl⟩
              rw [← hr5] at HS HSr Hm6
              clear hr5 hon
              go_wp2_with fail
              rw [← Hwo.out, ← HX.out]
              refine HS.out.mono ?_
              rintro e w5 ⟨rfl, F5, l5, o5, g5, b5⟩
              have R5 := Lib.hid (HSr.out w5 (To.out.ref.only o5 To.out.apart))
              have St := Lib.hid (fun (w6 : World) (v6 : Value) (hr6 : RefD w6 r v6 r5.2) (ho6 : Only (Foot r v') w5 w6) (hg6 : ∀ k, v6.ownBlock = some k → v'.ownBlock = some k ∨ w5.heap.size ≤ k) => To.out.step l5 o5 g5 hr6 ho6 hg6)
              clear l5 o5 g5 b5 HS HSr
              go_wp2_with fail
              refine R5.out.mono ?_
              rintro e w6 ⟨rfl, v6, hr6, ho6, hg6⟩
              have T6 := Lib.hid (St.out w6 v6 hr6 ho6 hg6).1
              have B6 := Lib.hid (BW.out.trans (St.out w6 v6 hr6 ho6 hg6).2)
              clear hr6 ho6 hg6 R5 St
              generalize r5.2 = d5 at *
              generalize r5.1 = c5 at *
              have Hf6 := Lib.hid (Hm6.out.fit (by omega) (by omega))
              clear g0 g1 g2 g3 g4 g5 g6 g7
              by_cases hoff : d5.off = true
              · have HL := Lib.hid (load_off (load_any a F5 d5 w6 T6.out.l.d Hf6.out T6.out.l.tabF.here) hoff)
                unfold loadV at HL
                go_wp2_with fail
                refine HL.out.mono ?_
                rintro e w7 ⟨rfl, b7⟩
                have T7 := Lib.hid (T6.out.below b7)
                have B7 := Lib.hid (B6.out.trans (below_mono' b7 B6.out.size))
                clear b7 HL
                have hofc : ∀ o, (w7.alloc o).cell? ⟨r, 3, none⟩ = some (.bool true) := fun o => by
                  have h1 := (T7.out.below (w1 := w7.alloc o) ((Below.refl _ _).alloc (Nat.le_refl _) _)).ref.cells.2.2.2.1
                  rwa [hoff] at h1
                have hnq := fun W => neq_snap zS zS W
                rw [show sameS zS zS = true from sameS_iff.2 rfl] at hnq
                unfold snapV zS at hnq
                simp only [zS_data, Bool.not_true] at hnq
                clear hoff
                go_wp2
                go_roundw
                case rel => exact ⟨i + 1, F5, v6, d5, by omega, by go_num, Lib.hid ⟨T7.out.below ((Below.refl _ _).alloc (Nat.le_refl _) _), B7.out.alloc B7.out.size _, Hm6.out⟩⟩
                case measure => simp [intOf]; omega
              · have hoff' : d5.off = false := by cases h : d5.off <;> simp_all
                obtain ⟨o2, ho2⟩ := load_ex d5.files
                have HL := Lib.hid (T6.out.l.load o2 Hf6.out hoff' ho2)
                have Ho2 := Lib.hid ho2
                clear ho2 hoff
                obtain ⟨xi, xt, xd, bb, hlv, hov, hnq0⟩ := load_shape o2
                have Hov := Lib.hid hov
                have Hnq := Lib.hid hnq0
                clear hov hnq0
                rw [hlv] at HL
                go_wp2_with fail
                refine HL.out.mono ?_
                rintro e w7 ⟨rfl, l7, b7⟩
                have T7 := Lib.hid (T6.out.below b7)
                have B7 := Lib.hid (B6.out.trans (below_mono' b7 B6.out.size))
                clear l7 b7 HL
                obtain ⟨wb, hwb⟩ : ∃ wb, wb = w7.alloc (.cells #[.int .i64 xi, .int .i64 xt, .string xd] 33) := ⟨_, rfl⟩
                have Bb : Hid (Below w7.heap.size w7 wb) := Lib.hid (by rw [hwb]; exact (Below.refl _ _).alloc (Nat.le_refl _) _)
                have Sb : Hid (Box2 wb F5 r v6 w7.heap.size 33 [.int .i64 xi, .int .i64 xt, .string xd]) := Lib.hid (by rw [hwb]; exact T7.out.new _ _)
                have Tb := Lib.hid (T7.out.below Bb.out)
                have BB := Lib.hid (B7.out.trans (below_mono' Bb.out B7.out.size))
                have Hwb := Lib.hid hwb
                obtain ⟨Y, hY⟩ : ∃ Y, Y = w7.heap.size := ⟨_, rfl⟩
                have HY := Lib.hid hY
                rw [← hY] at Sb
                clear hwb hY
                have hofc : ∀ o, (w7.alloc o).cell? ⟨r, 3, none⟩ = some (.bool false) := fun o => by
                  have h1 := (T7.out.below (w1 := w7.alloc o) ((Below.refl _ _).alloc (Nat.le_refl _) _)).ref.cells.2.2.2.1
                  rwa [hoff'] at h1
                have HRL := Lib.hid (refLoad_any r v6 d5 wb Tb.out.ref Hf6.out)
                go_wp2_with fail
                rw [← Hwb.out, ← HY.out]
                refine HRL.out.mono ?_
                rintro e w8 ⟨⟨o3, h3, rfl⟩, b8⟩
                obtain rfl : o3 = o2 := load_unique (good.rise Tb.out.l.d) h3 Ho2.out
                have T8 := Lib.hid (Tb.out.below b8)
                have S8 := Lib.hid (Sb.out.below b8)
                have B8 := Lib.hid (BB.out.trans (below_mono' b8 BB.out.size))
                clear h3 b8 HRL hofc
                obtain ⟨wc, hwc⟩ : ∃ wc, wc = w8.alloc (.cells #[.int .i64 xi, .int .i64 xt, .string xd] 33) := ⟨_, rfl⟩
                have Bc : Hid (Below w8.heap.size w8 wc) := Lib.hid (by rw [hwc]; exact (Below.refl _ _).alloc (Nat.le_refl _) _)
                have Tc := Lib.hid (T8.out.below Bc.out)
                have BC := Lib.hid (B8.out.trans (below_mono' Bc.out B8.out.size))
                have Sc : Hid (Holds wc w8.heap.size 33 [.int .i64 xi, .int .i64 xt, .string xd]) := Lib.hid (by rw [hwc]; exact Holds.new w8 33 _)
                have Hwc := Lib.hid hwc
                obtain ⟨Z, hZ⟩ : ∃ Z, Z = w8.heap.size := ⟨_, rfl⟩
                have HZ := Lib.hid hZ
                rw [← hZ] at Sc
                clear hwc hZ
                have Sy := Lib.hid (S8.out.below Bc.out)
                obtain ⟨A6, cap6, hv6⟩ := Tc.out.ref.slice
                have HSx : Hid (∀ W, Below wc.heap.size wc W → W.cell? ⟨Y, 0, none⟩ = some (.int .i64 xi) ∧ W.cell? ⟨Y, 1, none⟩ = some (.int .i64 xt) ∧ W.cell? ⟨Y, 2, none⟩ = some (.string xd) ∧ W.cell? ⟨Z, 0, none⟩ = some (.int .i64 xi) ∧ W.cell? ⟨Z, 1, none⟩ = some (.int .i64 xt) ∧ W.cell? ⟨Z, 2, none⟩ = some (.string xd) ∧ W.cell? ⟨r, 0, none⟩ = some (.slice A6 d5.files.length cap6)) := Lib.hid (fun W hb => by
                  obtain ⟨y0, y1, y2⟩ := holds3 (Sy.out.1.below hb Sy.out.1.lt)
                  obtain ⟨z0, z1, z2⟩ := holds3 (Sc.out.below hb Sc.out.lt)
                  have q0 := (Tc.out.below hb).ref.cells.1
                  rw [hv6] at q0
                  exact ⟨y0, y1, y2, z0, z1, z2, q0⟩)
                have hnq := Hnq.out

                have Td := Lib.hid (Tc.out.below (w1 := wc.drew) (Below.refl _ _).drew)
                have BD : Hid (Below w.heap.size w wc.drew) := Lib.hid BC.out.drew
                have HM := Lib.hid (Td.out.l.names Hf6.out hoff')
                have Hus : Hid (usedS d5 = usedL d5.files) := Lib.hid (by unfold usedS; rw [if_neg (by rw [hoff']; simp)])
                have HX0 := Lib.hid (HSx.out wc (Below.refl _ _))
                have Hv6 := Lib.hid hv6
                clear hv6 Sy Sc hoff'
                rw [Hov.out]
                go_wp2
                rw [← Hwc.out, ← HZ.out]
                go_region_held3 (fun W => W.cell? ⟨Y, 0, none⟩ = some (.int .i64 xi) ∧ W.cell? ⟨Y, 1, none⟩ = some (.int .i64 xt) ∧ W.cell? ⟨Y, 2, none⟩ = some (.string xd) ∧ W.cell? ⟨Z, 0, none⟩ = some (.int .i64 xi) ∧ W.cell? ⟨Z, 1, none⟩ = some (.int .i64 xt) ∧ W.cell? ⟨Z, 2, none⟩ = some (.string xd) ∧ W.cell? ⟨r, 0, none⟩ = some (.slice A6 d5.files.length cap6))
                  (first
                    | exact HX0.out
                    | exact HSx.out _ H11.out
                    | exact HSx.out _ H10.out
                    | exact HSx.out _ H9.out
                    | go_keep)
                  (first
                    | (go_at_call 26; refine HM.out.mono ?_; rintro e w9 ⟨A9, cap9, rfl, _, l9, b9⟩; have H9 : Hid (Below wc.heap.size wc w9) := Lib.hid ((Below.refl _ wc).drew.trans b9); have T9 := Lib.hid (Tc.out.below H9.out); have B9 := Lib.hid (BC.out.trans (below_mono' H9.out BC.out.size)); have HU := Lib.hid (good.used a F5 d5 w9 T9.out.l.d Hf6.out); rw [Hus.out] at HU; clear l9 b9 HM)
                    | (go_at_call 27; refine HU.out.mono ?_; rintro e w10 ⟨rfl, b10⟩; have H10 : Hid (Below wc.heap.size wc w10) := Lib.hid (H9.out.trans (below_mono' b10 H9.out.size)); have T10 := Lib.hid (Tc.out.below H10.out); have HV := Lib.hid (refused_any r v6 d5 w10 T10.out.ref Hf6.out); clear b10 HU)
                    | (go_at_call 28; refine HV.out.mono ?_; rintro e w11 ⟨rfl, qq, hw11⟩; have H11 : Hid (Below wc.heap.size wc w11) := Lib.hid (by rw [hw11]; exact below_drewN H10.out qq); have T11 := Lib.hid (Tc.out.below H11.out); have B11 := Lib.hid (BC.out.trans (below_mono' H11.out BC.out.size)); clear hw11 HV)
                    | fail "no arm")
                go_wp2
                go_roundw
                case rel => exact ⟨i + 1, F5, v6, d5, by omega, by go_num, Lib.hid ⟨T11.out, B11.out, Hm6.out⟩⟩
                case measure => simp [intOf]; omega
          · have hk1 : (o.k == 1) = false := beq_eq_false_iff_ne.2 h1
            by_cases h2 : o.k = 2
            · rw [h2] at g0 Xo Hwo
              clear h0 hk0 h1 hk1 h2
              as_aux_lemma =>
                obtain ⟨keep, hk1, hk2, hk3, hk4⟩ := Ok.out.keep
                have Hkrow := Lib.hid hk2
                have Hk1 := Lib.hid hk1
                have HS := Lib.hid (To.out.l.ret (good.crash keep o.A o.kl o.kc a F' s wo To.out.l.d Hfit.out hk1 (hk2.below BW.out (Nat.le_refl _)) (fun g off e h0 hf => by
                  obtain ⟨k, hk⟩ : ∃ k, keep[0]? = some k := ⟨_, List.getElem?_eq_getElem (by rw [hk1]; exact h0)⟩
                  obtain ⟨g', off', e', hg', _⟩ := row_int hk2 0 k hk
                  rw [e] at e'
                  injection e' with e'
                  injection e' with e'
                  subst e'
                  have h1 := To.out.l.base _ hf
                  omega) hk3 hk4))
                have HSr := Lib.hid (fun (W : World) (h : RefD W r v' s) (hb : Below w.heap.size w W) => refcrash_any keep o.A o.kl o.kc r v' s W h Hfit.out Hk1.out (Hkrow.out.below hb (Nat.le_refl _)) hk4)
                have Hm6 : Hid (Most (crashS keep s) (150000 * (i + 1)) (3 * (i + 1))) := Lib.hid ((Hi.out.most.grows (step_grows 7 [] [] 0 keep s (by unfold I64; omega))).more (by simp; omega) (by omega))
                clear hk1 hk2 hk3
                go_wp2_with fail
                rw [← Hwo.out, ← HX.out]
                refine HS.out.mono ?_
                rintro e w5 ⟨rfl, F5, l5, o5, g5, b5⟩
                have X5 := Lib.hid (Xo.out.prog o5 g5)
                have R5 := Lib.hid (HSr.out w5 (To.out.ref.only o5 To.out.apart) (BW.out.trans b5))
                have St := Lib.hid (fun (w6 : World) (v6 : Value) (hr6 : RefD w6 r v6 (crashS keep s)) (ho6 : Only (Foot r v') w5 w6) (hg6 : ∀ k, v6.ownBlock = some k → v'.ownBlock = some k ∨ w5.heap.size ≤ k) => To.out.step l5 o5 g5 hr6 ho6 hg6)
                have k7 := X5.out.1.cell (i := 7) rfl
                clear l5 o5 g5 b5 HS HSr
                go_wp2_with fail
                refine R5.out.mono ?_
                rintro e w6 ⟨rfl, v6, hr6, ho6, hg6⟩
                have T6 := Lib.hid (St.out w6 v6 hr6 ho6 hg6).1
                have B6 := Lib.hid (BW.out.trans (St.out w6 v6 hr6 ho6 hg6).2)
                clear hr6 ho6 hg6 R5 St
                generalize crashS keep s = d5 at *
                have Hf6 := Lib.hid (Hm6.out.fit (by omega) (by omega))
                clear g0 g1 g2 g3 g4 g5 g6 g7
                by_cases hoff : d5.off = true
                · have HL := Lib.hid (load_off (load_any a F5 d5 w6 T6.out.l.d Hf6.out T6.out.l.tabF.here) hoff)
                  unfold loadV at HL
                  go_wp2_with fail
                  refine HL.out.mono ?_
                  rintro e w7 ⟨rfl, b7⟩
                  have T7 := Lib.hid (T6.out.below b7)
                  have B7 := Lib.hid (B6.out.trans (below_mono' b7 B6.out.size))
                  clear b7 HL
                  have hofc : ∀ o, (w7.alloc o).cell? ⟨r, 3, none⟩ = some (.bool true) := fun o => by
                    have h1 := (T7.out.below (w1 := w7.alloc o) ((Below.refl _ _).alloc (Nat.le_refl _) _)).ref.cells.2.2.2.1
                    rwa [hoff] at h1
                  have hnq := fun W => neq_snap zS zS W
                  rw [show sameS zS zS = true from sameS_iff.2 rfl] at hnq
                  unfold snapV zS at hnq
                  simp only [zS_data, Bool.not_true] at hnq
                  clear hoff
                  go_wp2
                  go_roundw
                  case rel => exact ⟨i + 1, F5, v6, d5, by omega, by go_num, Lib.hid ⟨T7.out.below ((Below.refl _ _).alloc (Nat.le_refl _) _), B7.out.alloc B7.out.size _, Hm6.out⟩⟩
                  case measure => simp [intOf]; omega
                · have hoff' : d5.off = false := by cases h : d5.off <;> simp_all
                  obtain ⟨o2, ho2⟩ := load_ex d5.files
                  have HL := Lib.hid (T6.out.l.load o2 Hf6.out hoff' ho2)
                  have Ho2 := Lib.hid ho2
                  clear ho2 hoff
                  obtain ⟨xi, xt, xd, bb, hlv, hov, hnq0⟩ := load_shape o2
                  have Hov := Lib.hid hov
                  have Hnq := Lib.hid hnq0
                  clear hov hnq0
                  rw [hlv] at HL
                  go_wp2_with fail
                  refine HL.out.mono ?_
                  rintro e w7 ⟨rfl, l7, b7⟩
                  have T7 := Lib.hid (T6.out.below b7)
                  have B7 := Lib.hid (B6.out.trans (below_mono' b7 B6.out.size))
                  clear l7 b7 HL
                  obtain ⟨wb, hwb⟩ : ∃ wb, wb = w7.alloc (.cells #[.int .i64 xi, .int .i64 xt, .string xd] 33) := ⟨_, rfl⟩
                  have Bb : Hid (Below w7.heap.size w7 wb) := Lib.hid (by rw [hwb]; exact (Below.refl _ _).alloc (Nat.le_refl _) _)
                  have Sb : Hid (Box2 wb F5 r v6 w7.heap.size 33 [.int .i64 xi, .int .i64 xt, .string xd]) := Lib.hid (by rw [hwb]; exact T7.out.new _ _)
                  have Tb := Lib.hid (T7.out.below Bb.out)
                  have BB := Lib.hid (B7.out.trans (below_mono' Bb.out B7.out.size))
                  have Hwb := Lib.hid hwb
                  obtain ⟨Y, hY⟩ : ∃ Y, Y = w7.heap.size := ⟨_, rfl⟩
                  have HY := Lib.hid hY
                  rw [← hY] at Sb
                  clear hwb hY
                  have hofc : ∀ o, (w7.alloc o).cell? ⟨r, 3, none⟩ = some (.bool false) := fun o => by
                    have h1 := (T7.out.below (w1 := w7.alloc o) ((Below.refl _ _).alloc (Nat.le_refl _) _)).ref.cells.2.2.2.1
                    rwa [hoff'] at h1
                  have HRL := Lib.hid (refLoad_any r v6 d5 wb Tb.out.ref Hf6.out)
                  go_wp2_with fail
                  rw [← Hwb.out, ← HY.out]
                  refine HRL.out.mono ?_
                  rintro e w8 ⟨⟨o3, h3, rfl⟩, b8⟩
                  obtain rfl : o3 = o2 := load_unique (good.rise Tb.out.l.d) h3 Ho2.out
                  have T8 := Lib.hid (Tb.out.below b8)
                  have S8 := Lib.hid (Sb.out.below b8)
                  have B8 := Lib.hid (BB.out.trans (below_mono' b8 BB.out.size))
                  clear h3 b8 HRL hofc
                  obtain ⟨wc, hwc⟩ : ∃ wc, wc = w8.alloc (.cells #[.int .i64 xi, .int .i64 xt, .string xd] 33) := ⟨_, rfl⟩
                  have Bc : Hid (Below w8.heap.size w8 wc) := Lib.hid (by rw [hwc]; exact (Below.refl _ _).alloc (Nat.le_refl _) _)
                  have Tc := Lib.hid (T8.out.below Bc.out)
                  have BC := Lib.hid (B8.out.trans (below_mono' Bc.out B8.out.size))
                  have Sc : Hid (Holds wc w8.heap.size 33 [.int .i64 xi, .int .i64 xt, .string xd]) := Lib.hid (by rw [hwc]; exact Holds.new w8 33 _)
                  have Hwc := Lib.hid hwc
                  obtain ⟨Z, hZ⟩ : ∃ Z, Z = w8.heap.size := ⟨_, rfl⟩
                  have HZ := Lib.hid hZ
                  rw [← hZ] at Sc
                  clear hwc hZ
                  have Sy := Lib.hid (S8.out.below Bc.out)
                  obtain ⟨A6, cap6, hv6⟩ := Tc.out.ref.slice
                  have HSx : Hid (∀ W, Below wc.heap.size wc W → W.cell? ⟨Y, 0, none⟩ = some (.int .i64 xi) ∧ W.cell? ⟨Y, 1, none⟩ = some (.int .i64 xt) ∧ W.cell? ⟨Y, 2, none⟩ = some (.string xd) ∧ W.cell? ⟨Z, 0, none⟩ = some (.int .i64 xi) ∧ W.cell? ⟨Z, 1, none⟩ = some (.int .i64 xt) ∧ W.cell? ⟨Z, 2, none⟩ = some (.string xd) ∧ W.cell? ⟨r, 0, none⟩ = some (.slice A6 d5.files.length cap6)) := Lib.hid (fun W hb => by
                    obtain ⟨y0, y1, y2⟩ := holds3 (Sy.out.1.below hb Sy.out.1.lt)
                    obtain ⟨z0, z1, z2⟩ := holds3 (Sc.out.below hb Sc.out.lt)
                    have q0 := (Tc.out.below hb).ref.cells.1
                    rw [hv6] at q0
                    exact ⟨y0, y1, y2, z0, z1, z2, q0⟩)
                  have hnq := Hnq.out

                  have Td := Lib.hid (Tc.out.below (w1 := wc.drew) (Below.refl _ _).drew)
                  have BD : Hid (Below w.heap.size w wc.drew) := Lib.hid BC.out.drew
                  have HM := Lib.hid (Td.out.l.names Hf6.out hoff')
                  have Hus : Hid (usedS d5 = usedL d5.files) := Lib.hid (by unfold usedS; rw [if_neg (by rw [hoff']; simp)])
                  have HX0 := Lib.hid (HSx.out wc (Below.refl _ _))
                  have Hv6 := Lib.hid hv6
                  clear hv6 Sy Sc hoff'
                  rw [Hov.out]
                  go_wp2
                  rw [← Hwc.out, ← HZ.out]
                  go_region_held3 (fun W => W.cell? ⟨Y, 0, none⟩ = some (.int .i64 xi) ∧ W.cell? ⟨Y, 1, none⟩ = some (.int .i64 xt) ∧ W.cell? ⟨Y, 2, none⟩ = some (.string xd) ∧ W.cell? ⟨Z, 0, none⟩ = some (.int .i64 xi) ∧ W.cell? ⟨Z, 1, none⟩ = some (.int .i64 xt) ∧ W.cell? ⟨Z, 2, none⟩ = some (.string xd) ∧ W.cell? ⟨r, 0, none⟩ = some (.slice A6 d5.files.length cap6))
                    (first
                      | exact HX0.out
                      | exact HSx.out _ H11.out
                      | exact HSx.out _ H10.out
                      | exact HSx.out _ H9.out
                      | go_keep)
                    (first
                      | (go_at_call 26; refine HM.out.mono ?_; rintro e w9 ⟨A9, cap9, rfl, _, l9, b9⟩; have H9 : Hid (Below wc.heap.size wc w9) := Lib.hid ((Below.refl _ wc).drew.trans b9); have T9 := Lib.hid (Tc.out.below H9.out); have B9 := Lib.hid (BC.out.trans (below_mono' H9.out BC.out.size)); have HU := Lib.hid (good.used a F5 d5 w9 T9.out.l.d Hf6.out); rw [Hus.out] at HU; clear l9 b9 HM)
                      | (go_at_call 27; refine HU.out.mono ?_; rintro e w10 ⟨rfl, b10⟩; have H10 : Hid (Below wc.heap.size wc w10) := Lib.hid (H9.out.trans (below_mono' b10 H9.out.size)); have T10 := Lib.hid (Tc.out.below H10.out); have HV := Lib.hid (refused_any r v6 d5 w10 T10.out.ref Hf6.out); clear b10 HU)
                      | (go_at_call 28; refine HV.out.mono ?_; rintro e w11 ⟨rfl, qq, hw11⟩; have H11 : Hid (Below wc.heap.size wc w11) := Lib.hid (by rw [hw11]; exact below_drewN H10.out qq); have T11 := Lib.hid (Tc.out.below H11.out); have B11 := Lib.hid (BC.out.trans (below_mono' H11.out BC.out.size)); clear hw11 HV)
                      | fail "no arm")
                  go_wp2
                  go_roundw
                  case rel => exact ⟨i + 1, F5, v6, d5, by omega, by go_num, Lib.hid ⟨T11.out, B11.out, Hm6.out⟩⟩
                  case measure => simp [intOf]; omega
            · have hk2 : (o.k == 2) = false := beq_eq_false_iff_ne.2 h2
              by_cases h3 : o.k = 3
              · rw [h3] at g0 Xo Hwo
                clear h0 hk0 h1 hk1 h2 hk2 h3
                as_aux_lemma =>
                  have HS := Lib.hid (To.out.l.ret (good.fuse o.n a F' s wo To.out.l.d Ok.out.n))
                  have Hm6 : Hid (Most (fuseS o.n s) (150000 * (i + 1)) (3 * (i + 1))) := Lib.hid ((Hi.out.most.grows (c := 0) (step_grows 5 [] [] o.n [] s Ok.out.n)).more (by omega) (by omega))
                  go_wp2_with fail
                  rw [← Hwo.out, ← HX.out]
                  refine HS.out.mono ?_
                  rintro e w5 ⟨rfl, F5, l5, o5, g5, b5⟩
                  have X5 := Lib.hid (Xo.out.prog o5 g5)
                  have R5 := Lib.hid (To.out.ref.only o5 To.out.apart)
                  obtain ⟨_, m1, m2, _, mz⟩ := R5.out.cells
                  have n1 := mz 1
                  have n2 := mz 2
                  have T := To.out.step (w2 := w5.setCell ⟨r, 2, none⟩ (.int .i64 (max o.n (-1)))) l5 o5 g5 (R5.out.setBox (s' := fuseS o.n s) 2 (.int .i64 (max o.n (-1))) rfl rfl) ((Only.refl _ _).setCell ⟨r, 2, none⟩ _ (.inl (.inl rfl))) (fun k hk => .inl hk)
                  obtain ⟨w6, hw6⟩ : ∃ w6, w6 = w5.setCell ⟨r, 2, none⟩ (.int .i64 (max o.n (-1))) := ⟨_, rfl⟩
                  rw [← hw6] at T
                  have T6 := Lib.hid T.1
                  have B6 := Lib.hid (BW.out.trans T.2)
                  have Hw6 := Lib.hid hw6
                  obtain ⟨v6, hv6⟩ : ∃ v6, v6 = v' := ⟨_, rfl⟩
                  rw [← hv6] at T6
                  have k6 := X5.out.1.cell (i := 6) rfl
                  clear l5 o5 g5 b5 HS T hw6 mz hv6
                  generalize fuseS o.n s = d5 at *
                  have Hf6 := Lib.hid (Hm6.out.fit (by omega) (by omega))
                  clear g0 g1 g2 g3 g4 g5 g6 g7
                  by_cases hoff : d5.off = true
                  · have HL := Lib.hid (load_off (load_any a F5 d5 w6 T6.out.l.d Hf6.out T6.out.l.tabF.here) hoff)
                    unfold loadV at HL
                    go_wp2_with fail
                    rw [← Hw6.out]
                    refine HL.out.mono ?_
                    rintro e w7 ⟨rfl, b7⟩
                    have T7 := Lib.hid (T6.out.below b7)
                    have B7 := Lib.hid (B6.out.trans (below_mono' b7 B6.out.size))
                    clear b7 HL
                    have hofc : ∀ o, (w7.alloc o).cell? ⟨r, 3, none⟩ = some (.bool true) := fun o => by
                      have h1 := (T7.out.below (w1 := w7.alloc o) ((Below.refl _ _).alloc (Nat.le_refl _) _)).ref.cells.2.2.2.1
                      rwa [hoff] at h1
                    have hnq := fun W => neq_snap zS zS W
                    rw [show sameS zS zS = true from sameS_iff.2 rfl] at hnq
                    unfold snapV zS at hnq
                    simp only [zS_data, Bool.not_true] at hnq
                    clear hoff
                    go_wp2
                    go_roundw
                    case rel => exact ⟨i + 1, F5, v6, d5, by omega, by go_num, Lib.hid ⟨T7.out.below ((Below.refl _ _).alloc (Nat.le_refl _) _), B7.out.alloc B7.out.size _, Hm6.out⟩⟩
                    case measure => simp [intOf]; omega
                  · have hoff' : d5.off = false := by cases h : d5.off <;> simp_all
                    obtain ⟨o2, ho2⟩ := load_ex d5.files
                    have HL := Lib.hid (T6.out.l.load o2 Hf6.out hoff' ho2)
                    have Ho2 := Lib.hid ho2
                    clear ho2 hoff
                    obtain ⟨xi, xt, xd, bb, hlv, hov, hnq0⟩ := load_shape o2
                    have Hov := Lib.hid hov
                    have Hnq := Lib.hid hnq0
                    clear hov hnq0
                    rw [hlv] at HL
                    go_wp2_with fail
                    rw [← Hw6.out]
                    refine HL.out.mono ?_
                    rintro e w7 ⟨rfl, l7, b7⟩
                    have T7 := Lib.hid (T6.out.below b7)
                    have B7 := Lib.hid (B6.out.trans (below_mono' b7 B6.out.size))
                    clear l7 b7 HL
                    obtain ⟨wb, hwb⟩ : ∃ wb, wb = w7.alloc (.cells #[.int .i64 xi, .int .i64 xt, .string xd] 33) := ⟨_, rfl⟩
                    have Bb : Hid (Below w7.heap.size w7 wb) := Lib.hid (by rw [hwb]; exact (Below.refl _ _).alloc (Nat.le_refl _) _)
                    have Sb : Hid (Box2 wb F5 r v6 w7.heap.size 33 [.int .i64 xi, .int .i64 xt, .string xd]) := Lib.hid (by rw [hwb]; exact T7.out.new _ _)
                    have Tb := Lib.hid (T7.out.below Bb.out)
                    have BB := Lib.hid (B7.out.trans (below_mono' Bb.out B7.out.size))
                    have Hwb := Lib.hid hwb
                    obtain ⟨Y, hY⟩ : ∃ Y, Y = w7.heap.size := ⟨_, rfl⟩
                    have HY := Lib.hid hY
                    rw [← hY] at Sb
                    clear hwb hY
                    have hofc : ∀ o, (w7.alloc o).cell? ⟨r, 3, none⟩ = some (.bool false) := fun o => by
                      have h1 := (T7.out.below (w1 := w7.alloc o) ((Below.refl _ _).alloc (Nat.le_refl _) _)).ref.cells.2.2.2.1
                      rwa [hoff'] at h1
                    have HRL := Lib.hid (refLoad_any r v6 d5 wb Tb.out.ref Hf6.out)
                    go_wp2_with fail
                    rw [← Hwb.out, ← HY.out]
                    refine HRL.out.mono ?_
                    rintro e w8 ⟨⟨o3, h3, rfl⟩, b8⟩
                    obtain rfl : o3 = o2 := load_unique (good.rise Tb.out.l.d) h3 Ho2.out
                    have T8 := Lib.hid (Tb.out.below b8)
                    have S8 := Lib.hid (Sb.out.below b8)
                    have B8 := Lib.hid (BB.out.trans (below_mono' b8 BB.out.size))
                    clear h3 b8 HRL hofc
                    obtain ⟨wc, hwc⟩ : ∃ wc, wc = w8.alloc (.cells #[.int .i64 xi, .int .i64 xt, .string xd] 33) := ⟨_, rfl⟩
                    have Bc : Hid (Below w8.heap.size w8 wc) := Lib.hid (by rw [hwc]; exact (Below.refl _ _).alloc (Nat.le_refl _) _)
                    have Tc := Lib.hid (T8.out.below Bc.out)
                    have BC := Lib.hid (B8.out.trans (below_mono' Bc.out B8.out.size))
                    have Sc : Hid (Holds wc w8.heap.size 33 [.int .i64 xi, .int .i64 xt, .string xd]) := Lib.hid (by rw [hwc]; exact Holds.new w8 33 _)
                    have Hwc := Lib.hid hwc
                    obtain ⟨Z, hZ⟩ : ∃ Z, Z = w8.heap.size := ⟨_, rfl⟩
                    have HZ := Lib.hid hZ
                    rw [← hZ] at Sc
                    clear hwc hZ
                    have Sy := Lib.hid (S8.out.below Bc.out)
                    obtain ⟨A6, cap6, hv6⟩ := Tc.out.ref.slice
                    have HSx : Hid (∀ W, Below wc.heap.size wc W → W.cell? ⟨Y, 0, none⟩ = some (.int .i64 xi) ∧ W.cell? ⟨Y, 1, none⟩ = some (.int .i64 xt) ∧ W.cell? ⟨Y, 2, none⟩ = some (.string xd) ∧ W.cell? ⟨Z, 0, none⟩ = some (.int .i64 xi) ∧ W.cell? ⟨Z, 1, none⟩ = some (.int .i64 xt) ∧ W.cell? ⟨Z, 2, none⟩ = some (.string xd) ∧ W.cell? ⟨r, 0, none⟩ = some (.slice A6 d5.files.length cap6)) := Lib.hid (fun W hb => by
                      obtain ⟨y0, y1, y2⟩ := holds3 (Sy.out.1.below hb Sy.out.1.lt)
                      obtain ⟨z0, z1, z2⟩ := holds3 (Sc.out.below hb Sc.out.lt)
                      have q0 := (Tc.out.below hb).ref.cells.1
                      rw [hv6] at q0
                      exact ⟨y0, y1, y2, z0, z1, z2, q0⟩)
                    have hnq := Hnq.out

                    have Td := Lib.hid (Tc.out.below (w1 := wc.drew) (Below.refl _ _).drew)
                    have BD : Hid (Below w.heap.size w wc.drew) := Lib.hid BC.out.drew
                    have HM := Lib.hid (Td.out.l.names Hf6.out hoff')
                    have Hus : Hid (usedS d5 = usedL d5.files) := Lib.hid (by unfold usedS; rw [if_neg (by rw [hoff']; simp)])
                    have HX0 := Lib.hid (HSx.out wc (Below.refl _ _))
                    have Hv6 := Lib.hid hv6
                    clear hv6 Sy Sc hoff'
                    rw [Hov.out]
                    go_wp2
                    rw [← Hwc.out, ← HZ.out]
                    go_region_held3 (fun W => W.cell? ⟨Y, 0, none⟩ = some (.int .i64 xi) ∧ W.cell? ⟨Y, 1, none⟩ = some (.int .i64 xt) ∧ W.cell? ⟨Y, 2, none⟩ = some (.string xd) ∧ W.cell? ⟨Z, 0, none⟩ = some (.int .i64 xi) ∧ W.cell? ⟨Z, 1, none⟩ = some (.int .i64 xt) ∧ W.cell? ⟨Z, 2, none⟩ = some (.string xd) ∧ W.cell? ⟨r, 0, none⟩ = some (.slice A6 d5.files.length cap6))
                      (first
                        | exact HX0.out
                        | exact HSx.out _ H11.out
                        | exact HSx.out _ H10.out
                        | exact HSx.out _ H9.out
                        | go_keep)
                      (first
                        | (go_at_call 26; refine HM.out.mono ?_; rintro e w9 ⟨A9, cap9, rfl, _, l9, b9⟩; have H9 : Hid (Below wc.heap.size wc w9) := Lib.hid ((Below.refl _ wc).drew.trans b9); have T9 := Lib.hid (Tc.out.below H9.out); have B9 := Lib.hid (BC.out.trans (below_mono' H9.out BC.out.size)); have HU := Lib.hid (good.used a F5 d5 w9 T9.out.l.d Hf6.out); rw [Hus.out] at HU; clear l9 b9 HM)
                        | (go_at_call 27; refine HU.out.mono ?_; rintro e w10 ⟨rfl, b10⟩; have H10 : Hid (Below wc.heap.size wc w10) := Lib.hid (H9.out.trans (below_mono' b10 H9.out.size)); have T10 := Lib.hid (Tc.out.below H10.out); have HV := Lib.hid (refused_any r v6 d5 w10 T10.out.ref Hf6.out); clear b10 HU)
                        | (go_at_call 28; refine HV.out.mono ?_; rintro e w11 ⟨rfl, qq, hw11⟩; have H11 : Hid (Below wc.heap.size wc w11) := Lib.hid (by rw [hw11]; exact below_drewN H10.out qq); have T11 := Lib.hid (Tc.out.below H11.out); have B11 := Lib.hid (BC.out.trans (below_mono' H11.out BC.out.size)); clear hw11 HV)
                        | fail "no arm")
                    go_wp2
                    go_roundw
                    case rel => exact ⟨i + 1, F5, v6, d5, by omega, by go_num, Lib.hid ⟨T11.out, B11.out, Hm6.out⟩⟩
                    case measure => simp [intOf]; omega
              · have hk3 : (o.k == 3) = false := beq_eq_false_iff_ne.2 h3
                by_cases h4 : o.k = 4
                · rw [h4] at g0 Xo Hwo
                  clear h0 hk0 h1 hk1 h2 hk2 h3 hk3 h4
                  as_aux_lemma =>
                    obtain ⟨N4, hN4⟩ : ∃ N4, N4 = min (max o.n 0) 300000 := ⟨_, rfl⟩
                    have HN4 : Hid (0 ≤ N4 ∧ N4 ≤ 300000) := Lib.hid (by omega)
                    have HE4 := Lib.hid hN4
                    have hmin4 := hN4.symm
                    clear hN4
                    have HS := Lib.hid (To.out.l.ret (s' := { s with room := N4 }) (x := .int .i64 0) (f := 19) (args := #[.pointer (some a), .int .i64 N4]) (by
                      have h1 := good.room N4 a F' s wo To.out.l.d (by unfold I64; have := HN4.out; omega)
                      rw [show roomS N4 s = (0, { s with room := N4 }) by unfold roomS; rw [if_pos (by have := HN4.out; omega)]] at h1
                      exact h1))
                    have Hm6 : Hid (Most ({ s with room := N4 }) (150000 * (i + 1)) (3 * (i + 1))) := Lib.hid (⟨by have := Hi.out.most.used; show usedL s.files ≤ _; omega, by have := Hi.out.most.len; show s.files.length ≤ _; omega, HN4.out.1, by have := HN4.out.2; show N4 ≤ _; omega, Hi.out.most.fuse0, Hi.out.most.fuse1⟩)
                    go_wp2_with fail
                    rw [← Hwo.out, ← HX.out]
                    refine HS.out.mono ?_
                    rintro e w5 ⟨rfl, F5, l5, o5, g5, b5⟩
                    have X5 := Lib.hid (Xo.out.prog o5 g5)
                    have R5 := Lib.hid (To.out.ref.only o5 To.out.apart)
                    obtain ⟨_, m1, m2, _, mz⟩ := R5.out.cells
                    have n1 := mz 1
                    have n2 := mz 2
                    have T := To.out.step (w2 := w5.setCell ⟨r, 1, none⟩ (.int .i64 N4)) l5 o5 g5 (R5.out.setBox (s' := { s with room := N4 }) 1 (.int .i64 N4) rfl rfl) ((Only.refl _ _).setCell ⟨r, 1, none⟩ _ (.inl (.inl rfl))) (fun k hk => .inl hk)
                    obtain ⟨w6, hw6⟩ : ∃ w6, w6 = w5.setCell ⟨r, 1, none⟩ (.int .i64 N4) := ⟨_, rfl⟩
                    rw [← hw6] at T
                    have T6 := Lib.hid T.1
                    have B6 := Lib.hid (BW.out.trans T.2)
                    have Hw6 := Lib.hid hw6
                    obtain ⟨v6, hv6⟩ : ∃ v6, v6 = v' := ⟨_, rfl⟩
                    rw [← hv6] at T6
                    have k6 := X5.out.1.cell (i := 6) rfl
                    clear l5 o5 g5 b5 HS T hw6 mz hv6
                    generalize { s with room := N4 } = d5 at *
                    have Hf6 := Lib.hid (Hm6.out.fit (by omega) (by omega))
                    clear g0 g1 g2 g3 g4 g5 g6 g7
                    by_cases hoff : d5.off = true
                    · have HL := Lib.hid (load_off (load_any a F5 d5 w6 T6.out.l.d Hf6.out T6.out.l.tabF.here) hoff)
                      unfold loadV at HL
                      go_wp2_with fail
                      rw [← Hw6.out]
                      refine HL.out.mono ?_
                      rintro e w7 ⟨rfl, b7⟩
                      have T7 := Lib.hid (T6.out.below b7)
                      have B7 := Lib.hid (B6.out.trans (below_mono' b7 B6.out.size))
                      clear b7 HL
                      have hofc : ∀ o, (w7.alloc o).cell? ⟨r, 3, none⟩ = some (.bool true) := fun o => by
                        have h1 := (T7.out.below (w1 := w7.alloc o) ((Below.refl _ _).alloc (Nat.le_refl _) _)).ref.cells.2.2.2.1
                        rwa [hoff] at h1
                      have hnq := fun W => neq_snap zS zS W
                      rw [show sameS zS zS = true from sameS_iff.2 rfl] at hnq
                      unfold snapV zS at hnq
                      simp only [zS_data, Bool.not_true] at hnq
                      clear hoff
                      go_wp2
                      go_roundw
                      case rel => exact ⟨i + 1, F5, v6, d5, by omega, by go_num, Lib.hid ⟨T7.out.below ((Below.refl _ _).alloc (Nat.le_refl _) _), B7.out.alloc B7.out.size _, Hm6.out⟩⟩
                      case measure => simp [intOf]; omega
                    · have hoff' : d5.off = false := by cases h : d5.off <;> simp_all
                      obtain ⟨o2, ho2⟩ := load_ex d5.files
                      have HL := Lib.hid (T6.out.l.load o2 Hf6.out hoff' ho2)
                      have Ho2 := Lib.hid ho2
                      clear ho2 hoff
                      obtain ⟨xi, xt, xd, bb, hlv, hov, hnq0⟩ := load_shape o2
                      have Hov := Lib.hid hov
                      have Hnq := Lib.hid hnq0
                      clear hov hnq0
                      rw [hlv] at HL
                      go_wp2_with fail
                      rw [← Hw6.out]
                      refine HL.out.mono ?_
                      rintro e w7 ⟨rfl, l7, b7⟩
                      have T7 := Lib.hid (T6.out.below b7)
                      have B7 := Lib.hid (B6.out.trans (below_mono' b7 B6.out.size))
                      clear l7 b7 HL
                      obtain ⟨wb, hwb⟩ : ∃ wb, wb = w7.alloc (.cells #[.int .i64 xi, .int .i64 xt, .string xd] 33) := ⟨_, rfl⟩
                      have Bb : Hid (Below w7.heap.size w7 wb) := Lib.hid (by rw [hwb]; exact (Below.refl _ _).alloc (Nat.le_refl _) _)
                      have Sb : Hid (Box2 wb F5 r v6 w7.heap.size 33 [.int .i64 xi, .int .i64 xt, .string xd]) := Lib.hid (by rw [hwb]; exact T7.out.new _ _)
                      have Tb := Lib.hid (T7.out.below Bb.out)
                      have BB := Lib.hid (B7.out.trans (below_mono' Bb.out B7.out.size))
                      have Hwb := Lib.hid hwb
                      obtain ⟨Y, hY⟩ : ∃ Y, Y = w7.heap.size := ⟨_, rfl⟩
                      have HY := Lib.hid hY
                      rw [← hY] at Sb
                      clear hwb hY
                      have hofc : ∀ o, (w7.alloc o).cell? ⟨r, 3, none⟩ = some (.bool false) := fun o => by
                        have h1 := (T7.out.below (w1 := w7.alloc o) ((Below.refl _ _).alloc (Nat.le_refl _) _)).ref.cells.2.2.2.1
                        rwa [hoff'] at h1
                      have HRL := Lib.hid (refLoad_any r v6 d5 wb Tb.out.ref Hf6.out)
                      go_wp2_with fail
                      rw [← Hwb.out, ← HY.out]
                      refine HRL.out.mono ?_
                      rintro e w8 ⟨⟨o3, h3, rfl⟩, b8⟩
                      obtain rfl : o3 = o2 := load_unique (good.rise Tb.out.l.d) h3 Ho2.out
                      have T8 := Lib.hid (Tb.out.below b8)
                      have S8 := Lib.hid (Sb.out.below b8)
                      have B8 := Lib.hid (BB.out.trans (below_mono' b8 BB.out.size))
                      clear h3 b8 HRL hofc
                      obtain ⟨wc, hwc⟩ : ∃ wc, wc = w8.alloc (.cells #[.int .i64 xi, .int .i64 xt, .string xd] 33) := ⟨_, rfl⟩
                      have Bc : Hid (Below w8.heap.size w8 wc) := Lib.hid (by rw [hwc]; exact (Below.refl _ _).alloc (Nat.le_refl _) _)
                      have Tc := Lib.hid (T8.out.below Bc.out)
                      have BC := Lib.hid (B8.out.trans (below_mono' Bc.out B8.out.size))
                      have Sc : Hid (Holds wc w8.heap.size 33 [.int .i64 xi, .int .i64 xt, .string xd]) := Lib.hid (by rw [hwc]; exact Holds.new w8 33 _)
                      have Hwc := Lib.hid hwc
                      obtain ⟨Z, hZ⟩ : ∃ Z, Z = w8.heap.size := ⟨_, rfl⟩
                      have HZ := Lib.hid hZ
                      rw [← hZ] at Sc
                      clear hwc hZ
                      have Sy := Lib.hid (S8.out.below Bc.out)
                      obtain ⟨A6, cap6, hv6⟩ := Tc.out.ref.slice
                      have HSx : Hid (∀ W, Below wc.heap.size wc W → W.cell? ⟨Y, 0, none⟩ = some (.int .i64 xi) ∧ W.cell? ⟨Y, 1, none⟩ = some (.int .i64 xt) ∧ W.cell? ⟨Y, 2, none⟩ = some (.string xd) ∧ W.cell? ⟨Z, 0, none⟩ = some (.int .i64 xi) ∧ W.cell? ⟨Z, 1, none⟩ = some (.int .i64 xt) ∧ W.cell? ⟨Z, 2, none⟩ = some (.string xd) ∧ W.cell? ⟨r, 0, none⟩ = some (.slice A6 d5.files.length cap6)) := Lib.hid (fun W hb => by
                        obtain ⟨y0, y1, y2⟩ := holds3 (Sy.out.1.below hb Sy.out.1.lt)
                        obtain ⟨z0, z1, z2⟩ := holds3 (Sc.out.below hb Sc.out.lt)
                        have q0 := (Tc.out.below hb).ref.cells.1
                        rw [hv6] at q0
                        exact ⟨y0, y1, y2, z0, z1, z2, q0⟩)
                      have hnq := Hnq.out

                      have Td := Lib.hid (Tc.out.below (w1 := wc.drew) (Below.refl _ _).drew)
                      have BD : Hid (Below w.heap.size w wc.drew) := Lib.hid BC.out.drew
                      have HM := Lib.hid (Td.out.l.names Hf6.out hoff')
                      have Hus : Hid (usedS d5 = usedL d5.files) := Lib.hid (by unfold usedS; rw [if_neg (by rw [hoff']; simp)])
                      have HX0 := Lib.hid (HSx.out wc (Below.refl _ _))
                      have Hv6 := Lib.hid hv6
                      clear hv6 Sy Sc hoff'
                      rw [Hov.out]
                      go_wp2
                      rw [← Hwc.out, ← HZ.out]
                      go_region_held3 (fun W => W.cell? ⟨Y, 0, none⟩ = some (.int .i64 xi) ∧ W.cell? ⟨Y, 1, none⟩ = some (.int .i64 xt) ∧ W.cell? ⟨Y, 2, none⟩ = some (.string xd) ∧ W.cell? ⟨Z, 0, none⟩ = some (.int .i64 xi) ∧ W.cell? ⟨Z, 1, none⟩ = some (.int .i64 xt) ∧ W.cell? ⟨Z, 2, none⟩ = some (.string xd) ∧ W.cell? ⟨r, 0, none⟩ = some (.slice A6 d5.files.length cap6))
                        (first
                          | exact HX0.out
                          | exact HSx.out _ H11.out
                          | exact HSx.out _ H10.out
                          | exact HSx.out _ H9.out
                          | go_keep)
                        (first
                          | (go_at_call 26; refine HM.out.mono ?_; rintro e w9 ⟨A9, cap9, rfl, _, l9, b9⟩; have H9 : Hid (Below wc.heap.size wc w9) := Lib.hid ((Below.refl _ wc).drew.trans b9); have T9 := Lib.hid (Tc.out.below H9.out); have B9 := Lib.hid (BC.out.trans (below_mono' H9.out BC.out.size)); have HU := Lib.hid (good.used a F5 d5 w9 T9.out.l.d Hf6.out); rw [Hus.out] at HU; clear l9 b9 HM)
                          | (go_at_call 27; refine HU.out.mono ?_; rintro e w10 ⟨rfl, b10⟩; have H10 : Hid (Below wc.heap.size wc w10) := Lib.hid (H9.out.trans (below_mono' b10 H9.out.size)); have T10 := Lib.hid (Tc.out.below H10.out); have HV := Lib.hid (refused_any r v6 d5 w10 T10.out.ref Hf6.out); clear b10 HU)
                          | (go_at_call 28; refine HV.out.mono ?_; rintro e w11 ⟨rfl, qq, hw11⟩; have H11 : Hid (Below wc.heap.size wc w11) := Lib.hid (by rw [hw11]; exact below_drewN H10.out qq); have T11 := Lib.hid (Tc.out.below H11.out); have B11 := Lib.hid (BC.out.trans (below_mono' H11.out BC.out.size)); clear hw11 HV)
                          | fail "no arm")
                      go_wp2
                      go_roundw
                      case rel => exact ⟨i + 1, F5, v6, d5, by omega, by go_num, Lib.hid ⟨T11.out, B11.out, Hm6.out⟩⟩
                      case measure => simp [intOf]; omega
                · have hk4 : (o.k == 4) = false := beq_eq_false_iff_ne.2 h4
                  by_cases h5 : o.k = 5
                  · rw [h5] at g0 Xo Hwo
                    clear h0 hk0 h1 hk1 h2 hk2 h3 hk3 h4 hk4 h5
                    as_aux_lemma =>
                      have HS := Lib.hid (To.out.l.ret (good.append o.nm o.b a F' s wo To.out.l.d Hfit.out (by have := Sm.out.2.2; omega) (by have := Sm.out.2.1; omega)))
                      have HSr := Lib.hid (fun (W : World) (h : RefD W r v' s) (_ : Below w.heap.size w W) => refappend_any o.nm o.b r v' s W h Hfit.out (by have := Sm.out.2.1; omega) (by have := Sm.out.2.2; omega))
                      have Hm6 : Hid (Most ((appendS o.nm o.b s).2) (150000 * (i + 1)) (3 * (i + 1))) := Lib.hid ((Hi.out.most.grows (append_grows o.nm o.b s)).more (by have := Sm.out.2.1; omega) (by omega))
                      go_wp2_with fail
                      rw [← Hwo.out, ← HX.out]
                      refine HS.out.mono ?_
                      rintro e w5 ⟨rfl, F5, l5, o5, g5, b5⟩
                      have X5 := Lib.hid (Xo.out.prog o5 g5)
                      have R5 := Lib.hid (HSr.out w5 (To.out.ref.only o5 To.out.apart) (BW.out.trans b5))
                      have St := Lib.hid (fun (w6 : World) (v6 : Value) (hr6 : RefD w6 r v6 ((appendS o.nm o.b s).2)) (ho6 : Only (Foot r v') w5 w6) (hg6 : ∀ k, v6.ownBlock = some k → v'.ownBlock = some k ∨ w5.heap.size ≤ k) => To.out.step l5 o5 g5 hr6 ho6 hg6)
                      have k4 := X5.out.1.cell (i := 4) rfl
                      have k5 := X5.out.1.cell (i := 5) rfl
                      clear l5 o5 g5 b5 HS HSr
                      go_wp2_with fail
                      refine R5.out.mono ?_
                      rintro e w6 ⟨rfl, v6, hr6, ho6, hg6⟩
                      have T6 := Lib.hid (St.out w6 v6 hr6 ho6 hg6).1
                      have B6 := Lib.hid (BW.out.trans (St.out w6 v6 hr6 ho6 hg6).2)
                      clear hr6 ho6 hg6 R5 St
                      generalize (appendS o.nm o.b s).2 = d5 at *
                      have Hf6 := Lib.hid (Hm6.out.fit (by omega) (by omega))
                      clear g0 g1 g2 g3 g4 g5 g6 g7
                      by_cases hoff : d5.off = true
                      · have HL := Lib.hid (load_off (load_any a F5 d5 w6 T6.out.l.d Hf6.out T6.out.l.tabF.here) hoff)
                        unfold loadV at HL
                        go_wp2_with fail
                        refine HL.out.mono ?_
                        rintro e w7 ⟨rfl, b7⟩
                        have T7 := Lib.hid (T6.out.below b7)
                        have B7 := Lib.hid (B6.out.trans (below_mono' b7 B6.out.size))
                        clear b7 HL
                        have hofc : ∀ o, (w7.alloc o).cell? ⟨r, 3, none⟩ = some (.bool true) := fun o => by
                          have h1 := (T7.out.below (w1 := w7.alloc o) ((Below.refl _ _).alloc (Nat.le_refl _) _)).ref.cells.2.2.2.1
                          rwa [hoff] at h1
                        have hnq := fun W => neq_snap zS zS W
                        rw [show sameS zS zS = true from sameS_iff.2 rfl] at hnq
                        unfold snapV zS at hnq
                        simp only [zS_data, Bool.not_true] at hnq
                        clear hoff
                        go_wp2
                        go_roundw
                        case rel => exact ⟨i + 1, F5, v6, d5, by omega, by go_num, Lib.hid ⟨T7.out.below ((Below.refl _ _).alloc (Nat.le_refl _) _), B7.out.alloc B7.out.size _, Hm6.out⟩⟩
                        case measure => simp [intOf]; omega
                      · have hoff' : d5.off = false := by cases h : d5.off <;> simp_all
                        obtain ⟨o2, ho2⟩ := load_ex d5.files
                        have HL := Lib.hid (T6.out.l.load o2 Hf6.out hoff' ho2)
                        have Ho2 := Lib.hid ho2
                        clear ho2 hoff
                        obtain ⟨xi, xt, xd, bb, hlv, hov, hnq0⟩ := load_shape o2
                        have Hov := Lib.hid hov
                        have Hnq := Lib.hid hnq0
                        clear hov hnq0
                        rw [hlv] at HL
                        go_wp2_with fail
                        refine HL.out.mono ?_
                        rintro e w7 ⟨rfl, l7, b7⟩
                        have T7 := Lib.hid (T6.out.below b7)
                        have B7 := Lib.hid (B6.out.trans (below_mono' b7 B6.out.size))
                        clear l7 b7 HL
                        obtain ⟨wb, hwb⟩ : ∃ wb, wb = w7.alloc (.cells #[.int .i64 xi, .int .i64 xt, .string xd] 33) := ⟨_, rfl⟩
                        have Bb : Hid (Below w7.heap.size w7 wb) := Lib.hid (by rw [hwb]; exact (Below.refl _ _).alloc (Nat.le_refl _) _)
                        have Sb : Hid (Box2 wb F5 r v6 w7.heap.size 33 [.int .i64 xi, .int .i64 xt, .string xd]) := Lib.hid (by rw [hwb]; exact T7.out.new _ _)
                        have Tb := Lib.hid (T7.out.below Bb.out)
                        have BB := Lib.hid (B7.out.trans (below_mono' Bb.out B7.out.size))
                        have Hwb := Lib.hid hwb
                        obtain ⟨Y, hY⟩ : ∃ Y, Y = w7.heap.size := ⟨_, rfl⟩
                        have HY := Lib.hid hY
                        rw [← hY] at Sb
                        clear hwb hY
                        have hofc : ∀ o, (w7.alloc o).cell? ⟨r, 3, none⟩ = some (.bool false) := fun o => by
                          have h1 := (T7.out.below (w1 := w7.alloc o) ((Below.refl _ _).alloc (Nat.le_refl _) _)).ref.cells.2.2.2.1
                          rwa [hoff'] at h1
                        have HRL := Lib.hid (refLoad_any r v6 d5 wb Tb.out.ref Hf6.out)
                        go_wp2_with fail
                        rw [← Hwb.out, ← HY.out]
                        refine HRL.out.mono ?_
                        rintro e w8 ⟨⟨o3, h3, rfl⟩, b8⟩
                        obtain rfl : o3 = o2 := load_unique (good.rise Tb.out.l.d) h3 Ho2.out
                        have T8 := Lib.hid (Tb.out.below b8)
                        have S8 := Lib.hid (Sb.out.below b8)
                        have B8 := Lib.hid (BB.out.trans (below_mono' b8 BB.out.size))
                        clear h3 b8 HRL hofc
                        obtain ⟨wc, hwc⟩ : ∃ wc, wc = w8.alloc (.cells #[.int .i64 xi, .int .i64 xt, .string xd] 33) := ⟨_, rfl⟩
                        have Bc : Hid (Below w8.heap.size w8 wc) := Lib.hid (by rw [hwc]; exact (Below.refl _ _).alloc (Nat.le_refl _) _)
                        have Tc := Lib.hid (T8.out.below Bc.out)
                        have BC := Lib.hid (B8.out.trans (below_mono' Bc.out B8.out.size))
                        have Sc : Hid (Holds wc w8.heap.size 33 [.int .i64 xi, .int .i64 xt, .string xd]) := Lib.hid (by rw [hwc]; exact Holds.new w8 33 _)
                        have Hwc := Lib.hid hwc
                        obtain ⟨Z, hZ⟩ : ∃ Z, Z = w8.heap.size := ⟨_, rfl⟩
                        have HZ := Lib.hid hZ
                        rw [← hZ] at Sc
                        clear hwc hZ
                        have Sy := Lib.hid (S8.out.below Bc.out)
                        obtain ⟨A6, cap6, hv6⟩ := Tc.out.ref.slice
                        have HSx : Hid (∀ W, Below wc.heap.size wc W → W.cell? ⟨Y, 0, none⟩ = some (.int .i64 xi) ∧ W.cell? ⟨Y, 1, none⟩ = some (.int .i64 xt) ∧ W.cell? ⟨Y, 2, none⟩ = some (.string xd) ∧ W.cell? ⟨Z, 0, none⟩ = some (.int .i64 xi) ∧ W.cell? ⟨Z, 1, none⟩ = some (.int .i64 xt) ∧ W.cell? ⟨Z, 2, none⟩ = some (.string xd) ∧ W.cell? ⟨r, 0, none⟩ = some (.slice A6 d5.files.length cap6)) := Lib.hid (fun W hb => by
                          obtain ⟨y0, y1, y2⟩ := holds3 (Sy.out.1.below hb Sy.out.1.lt)
                          obtain ⟨z0, z1, z2⟩ := holds3 (Sc.out.below hb Sc.out.lt)
                          have q0 := (Tc.out.below hb).ref.cells.1
                          rw [hv6] at q0
                          exact ⟨y0, y1, y2, z0, z1, z2, q0⟩)
                        have hnq := Hnq.out

                        have Td := Lib.hid (Tc.out.below (w1 := wc.drew) (Below.refl _ _).drew)
                        have BD : Hid (Below w.heap.size w wc.drew) := Lib.hid BC.out.drew
                        have HM := Lib.hid (Td.out.l.names Hf6.out hoff')
                        have Hus : Hid (usedS d5 = usedL d5.files) := Lib.hid (by unfold usedS; rw [if_neg (by rw [hoff']; simp)])
                        have HX0 := Lib.hid (HSx.out wc (Below.refl _ _))
                        have Hv6 := Lib.hid hv6
                        clear hv6 Sy Sc hoff'
                        rw [Hov.out]
                        go_wp2
                        rw [← Hwc.out, ← HZ.out]
                        go_region_held3 (fun W => W.cell? ⟨Y, 0, none⟩ = some (.int .i64 xi) ∧ W.cell? ⟨Y, 1, none⟩ = some (.int .i64 xt) ∧ W.cell? ⟨Y, 2, none⟩ = some (.string xd) ∧ W.cell? ⟨Z, 0, none⟩ = some (.int .i64 xi) ∧ W.cell? ⟨Z, 1, none⟩ = some (.int .i64 xt) ∧ W.cell? ⟨Z, 2, none⟩ = some (.string xd) ∧ W.cell? ⟨r, 0, none⟩ = some (.slice A6 d5.files.length cap6))
                          (first
                            | exact HX0.out
                            | exact HSx.out _ H11.out
                            | exact HSx.out _ H10.out
                            | exact HSx.out _ H9.out
                            | go_keep)
                          (first
                            | (go_at_call 26; refine HM.out.mono ?_; rintro e w9 ⟨A9, cap9, rfl, _, l9, b9⟩; have H9 : Hid (Below wc.heap.size wc w9) := Lib.hid ((Below.refl _ wc).drew.trans b9); have T9 := Lib.hid (Tc.out.below H9.out); have B9 := Lib.hid (BC.out.trans (below_mono' H9.out BC.out.size)); have HU := Lib.hid (good.used a F5 d5 w9 T9.out.l.d Hf6.out); rw [Hus.out] at HU; clear l9 b9 HM)
                            | (go_at_call 27; refine HU.out.mono ?_; rintro e w10 ⟨rfl, b10⟩; have H10 : Hid (Below wc.heap.size wc w10) := Lib.hid (H9.out.trans (below_mono' b10 H9.out.size)); have T10 := Lib.hid (Tc.out.below H10.out); have HV := Lib.hid (refused_any r v6 d5 w10 T10.out.ref Hf6.out); clear b10 HU)
                            | (go_at_call 28; refine HV.out.mono ?_; rintro e w11 ⟨rfl, qq, hw11⟩; have H11 : Hid (Below wc.heap.size wc w11) := Lib.hid (by rw [hw11]; exact below_drewN H10.out qq); have T11 := Lib.hid (Tc.out.below H11.out); have B11 := Lib.hid (BC.out.trans (below_mono' H11.out BC.out.size)); clear hw11 HV)
                            | fail "no arm")
                        go_wp2
                        go_roundw
                        case rel => exact ⟨i + 1, F5, v6, d5, by omega, by go_num, Lib.hid ⟨T11.out, B11.out, Hm6.out⟩⟩
                        case measure => simp [intOf]; omega
                  · have hk5 : (o.k == 5) = false := beq_eq_false_iff_ne.2 h5
                    by_cases h6 : o.k = 6
                    · rw [h6] at g0 Xo Hwo
                      clear h0 hk0 h1 hk1 h2 hk2 h3 hk3 h4 hk4 h5 hk5 h6
                      as_aux_lemma =>
                        have HS := Lib.hid (To.out.l.ret (good.cut o.nm o.n a F' s wo (by have := Sm.out.2.2; omega) To.out.l.d Hfit.out Ok.out.n))
                        have HSr := Lib.hid (fun (W : World) (h : RefD W r v' s) (_ : Below w.heap.size w W) => ref_kept (refcut_any o.nm o.n r v' s W h Hfit.out Ok.out.n.2))
                        have Hm6 : Hid (Most ((cutS o.nm o.n s).2) (150000 * (i + 1)) (3 * (i + 1))) := Lib.hid ((Hi.out.most.grows (c := 0) (step_grows 2 o.nm [] o.n [] s Ok.out.n)).more (by omega) (by omega))
                        go_wp2_with fail
                        rw [← Hwo.out, ← HX.out]
                        refine HS.out.mono ?_
                        rintro e w5 ⟨rfl, F5, l5, o5, g5, b5⟩
                        have X5 := Lib.hid (Xo.out.prog o5 g5)
                        have R5 := Lib.hid (HSr.out w5 (To.out.ref.only o5 To.out.apart) (BW.out.trans b5))
                        have St := Lib.hid (fun (w6 : World) (v6 : Value) (hr6 : RefD w6 r v6 ((cutS o.nm o.n s).2)) (ho6 : Only (Foot r v') w5 w6) (hg6 : ∀ k, v6.ownBlock = some k → v'.ownBlock = some k ∨ w5.heap.size ≤ k) => To.out.step l5 o5 g5 hr6 ho6 hg6)
                        have k4 := X5.out.1.cell (i := 4) rfl
                        have k6 := X5.out.1.cell (i := 6) rfl
                        clear l5 o5 g5 b5 HS HSr
                        go_wp2_with fail
                        refine R5.out.mono ?_
                        rintro e w6 ⟨rfl, v6, hr6, ho6, hg6⟩
                        have T6 := Lib.hid (St.out w6 v6 hr6 ho6 hg6).1
                        have B6 := Lib.hid (BW.out.trans (St.out w6 v6 hr6 ho6 hg6).2)
                        clear hr6 ho6 hg6 R5 St
                        generalize (cutS o.nm o.n s).2 = d5 at *
                        have Hf6 := Lib.hid (Hm6.out.fit (by omega) (by omega))
                        clear g0 g1 g2 g3 g4 g5 g6 g7
                        by_cases hoff : d5.off = true
                        · have HL := Lib.hid (load_off (load_any a F5 d5 w6 T6.out.l.d Hf6.out T6.out.l.tabF.here) hoff)
                          unfold loadV at HL
                          go_wp2_with fail
                          refine HL.out.mono ?_
                          rintro e w7 ⟨rfl, b7⟩
                          have T7 := Lib.hid (T6.out.below b7)
                          have B7 := Lib.hid (B6.out.trans (below_mono' b7 B6.out.size))
                          clear b7 HL
                          have hofc : ∀ o, (w7.alloc o).cell? ⟨r, 3, none⟩ = some (.bool true) := fun o => by
                            have h1 := (T7.out.below (w1 := w7.alloc o) ((Below.refl _ _).alloc (Nat.le_refl _) _)).ref.cells.2.2.2.1
                            rwa [hoff] at h1
                          have hnq := fun W => neq_snap zS zS W
                          rw [show sameS zS zS = true from sameS_iff.2 rfl] at hnq
                          unfold snapV zS at hnq
                          simp only [zS_data, Bool.not_true] at hnq
                          clear hoff
                          go_wp2
                          go_roundw
                          case rel => exact ⟨i + 1, F5, v6, d5, by omega, by go_num, Lib.hid ⟨T7.out.below ((Below.refl _ _).alloc (Nat.le_refl _) _), B7.out.alloc B7.out.size _, Hm6.out⟩⟩
                          case measure => simp [intOf]; omega
                        · have hoff' : d5.off = false := by cases h : d5.off <;> simp_all
                          obtain ⟨o2, ho2⟩ := load_ex d5.files
                          have HL := Lib.hid (T6.out.l.load o2 Hf6.out hoff' ho2)
                          have Ho2 := Lib.hid ho2
                          clear ho2 hoff
                          obtain ⟨xi, xt, xd, bb, hlv, hov, hnq0⟩ := load_shape o2
                          have Hov := Lib.hid hov
                          have Hnq := Lib.hid hnq0
                          clear hov hnq0
                          rw [hlv] at HL
                          go_wp2_with fail
                          refine HL.out.mono ?_
                          rintro e w7 ⟨rfl, l7, b7⟩
                          have T7 := Lib.hid (T6.out.below b7)
                          have B7 := Lib.hid (B6.out.trans (below_mono' b7 B6.out.size))
                          clear l7 b7 HL
                          obtain ⟨wb, hwb⟩ : ∃ wb, wb = w7.alloc (.cells #[.int .i64 xi, .int .i64 xt, .string xd] 33) := ⟨_, rfl⟩
                          have Bb : Hid (Below w7.heap.size w7 wb) := Lib.hid (by rw [hwb]; exact (Below.refl _ _).alloc (Nat.le_refl _) _)
                          have Sb : Hid (Box2 wb F5 r v6 w7.heap.size 33 [.int .i64 xi, .int .i64 xt, .string xd]) := Lib.hid (by rw [hwb]; exact T7.out.new _ _)
                          have Tb := Lib.hid (T7.out.below Bb.out)
                          have BB := Lib.hid (B7.out.trans (below_mono' Bb.out B7.out.size))
                          have Hwb := Lib.hid hwb
                          obtain ⟨Y, hY⟩ : ∃ Y, Y = w7.heap.size := ⟨_, rfl⟩
                          have HY := Lib.hid hY
                          rw [← hY] at Sb
                          clear hwb hY
                          have hofc : ∀ o, (w7.alloc o).cell? ⟨r, 3, none⟩ = some (.bool false) := fun o => by
                            have h1 := (T7.out.below (w1 := w7.alloc o) ((Below.refl _ _).alloc (Nat.le_refl _) _)).ref.cells.2.2.2.1
                            rwa [hoff'] at h1
                          have HRL := Lib.hid (refLoad_any r v6 d5 wb Tb.out.ref Hf6.out)
                          go_wp2_with fail
                          rw [← Hwb.out, ← HY.out]
                          refine HRL.out.mono ?_
                          rintro e w8 ⟨⟨o3, h3, rfl⟩, b8⟩
                          obtain rfl : o3 = o2 := load_unique (good.rise Tb.out.l.d) h3 Ho2.out
                          have T8 := Lib.hid (Tb.out.below b8)
                          have S8 := Lib.hid (Sb.out.below b8)
                          have B8 := Lib.hid (BB.out.trans (below_mono' b8 BB.out.size))
                          clear h3 b8 HRL hofc
                          obtain ⟨wc, hwc⟩ : ∃ wc, wc = w8.alloc (.cells #[.int .i64 xi, .int .i64 xt, .string xd] 33) := ⟨_, rfl⟩
                          have Bc : Hid (Below w8.heap.size w8 wc) := Lib.hid (by rw [hwc]; exact (Below.refl _ _).alloc (Nat.le_refl _) _)
                          have Tc := Lib.hid (T8.out.below Bc.out)
                          have BC := Lib.hid (B8.out.trans (below_mono' Bc.out B8.out.size))
                          have Sc : Hid (Holds wc w8.heap.size 33 [.int .i64 xi, .int .i64 xt, .string xd]) := Lib.hid (by rw [hwc]; exact Holds.new w8 33 _)
                          have Hwc := Lib.hid hwc
                          obtain ⟨Z, hZ⟩ : ∃ Z, Z = w8.heap.size := ⟨_, rfl⟩
                          have HZ := Lib.hid hZ
                          rw [← hZ] at Sc
                          clear hwc hZ
                          have Sy := Lib.hid (S8.out.below Bc.out)
                          obtain ⟨A6, cap6, hv6⟩ := Tc.out.ref.slice
                          have HSx : Hid (∀ W, Below wc.heap.size wc W → W.cell? ⟨Y, 0, none⟩ = some (.int .i64 xi) ∧ W.cell? ⟨Y, 1, none⟩ = some (.int .i64 xt) ∧ W.cell? ⟨Y, 2, none⟩ = some (.string xd) ∧ W.cell? ⟨Z, 0, none⟩ = some (.int .i64 xi) ∧ W.cell? ⟨Z, 1, none⟩ = some (.int .i64 xt) ∧ W.cell? ⟨Z, 2, none⟩ = some (.string xd) ∧ W.cell? ⟨r, 0, none⟩ = some (.slice A6 d5.files.length cap6)) := Lib.hid (fun W hb => by
                            obtain ⟨y0, y1, y2⟩ := holds3 (Sy.out.1.below hb Sy.out.1.lt)
                            obtain ⟨z0, z1, z2⟩ := holds3 (Sc.out.below hb Sc.out.lt)
                            have q0 := (Tc.out.below hb).ref.cells.1
                            rw [hv6] at q0
                            exact ⟨y0, y1, y2, z0, z1, z2, q0⟩)
                          have hnq := Hnq.out

                          have Td := Lib.hid (Tc.out.below (w1 := wc.drew) (Below.refl _ _).drew)
                          have BD : Hid (Below w.heap.size w wc.drew) := Lib.hid BC.out.drew
                          have HM := Lib.hid (Td.out.l.names Hf6.out hoff')
                          have Hus : Hid (usedS d5 = usedL d5.files) := Lib.hid (by unfold usedS; rw [if_neg (by rw [hoff']; simp)])
                          have HX0 := Lib.hid (HSx.out wc (Below.refl _ _))
                          have Hv6 := Lib.hid hv6
                          clear hv6 Sy Sc hoff'
                          rw [Hov.out]
                          go_wp2
                          rw [← Hwc.out, ← HZ.out]
                          go_region_held3 (fun W => W.cell? ⟨Y, 0, none⟩ = some (.int .i64 xi) ∧ W.cell? ⟨Y, 1, none⟩ = some (.int .i64 xt) ∧ W.cell? ⟨Y, 2, none⟩ = some (.string xd) ∧ W.cell? ⟨Z, 0, none⟩ = some (.int .i64 xi) ∧ W.cell? ⟨Z, 1, none⟩ = some (.int .i64 xt) ∧ W.cell? ⟨Z, 2, none⟩ = some (.string xd) ∧ W.cell? ⟨r, 0, none⟩ = some (.slice A6 d5.files.length cap6))
                            (first
                              | exact HX0.out
                              | exact HSx.out _ H11.out
                              | exact HSx.out _ H10.out
                              | exact HSx.out _ H9.out
                              | go_keep)
                            (first
                              | (go_at_call 26; refine HM.out.mono ?_; rintro e w9 ⟨A9, cap9, rfl, _, l9, b9⟩; have H9 : Hid (Below wc.heap.size wc w9) := Lib.hid ((Below.refl _ wc).drew.trans b9); have T9 := Lib.hid (Tc.out.below H9.out); have B9 := Lib.hid (BC.out.trans (below_mono' H9.out BC.out.size)); have HU := Lib.hid (good.used a F5 d5 w9 T9.out.l.d Hf6.out); rw [Hus.out] at HU; clear l9 b9 HM)
                              | (go_at_call 27; refine HU.out.mono ?_; rintro e w10 ⟨rfl, b10⟩; have H10 : Hid (Below wc.heap.size wc w10) := Lib.hid (H9.out.trans (below_mono' b10 H9.out.size)); have T10 := Lib.hid (Tc.out.below H10.out); have HV := Lib.hid (refused_any r v6 d5 w10 T10.out.ref Hf6.out); clear b10 HU)
                              | (go_at_call 28; refine HV.out.mono ?_; rintro e w11 ⟨rfl, qq, hw11⟩; have H11 : Hid (Below wc.heap.size wc w11) := Lib.hid (by rw [hw11]; exact below_drewN H10.out qq); have T11 := Lib.hid (Tc.out.below H11.out); have B11 := Lib.hid (BC.out.trans (below_mono' H11.out BC.out.size)); clear hw11 HV)
                              | fail "no arm")
                          go_wp2
                          go_roundw
                          case rel => exact ⟨i + 1, F5, v6, d5, by omega, by go_num, Lib.hid ⟨T11.out, B11.out, Hm6.out⟩⟩
                          case measure => simp [intOf]; omega
                    · have hk6 : (o.k == 6) = false := beq_eq_false_iff_ne.2 h6
                      clear h0 h1 h2 h3 h4 h5 h6
                      as_aux_lemma =>
                        have Hm6 : Hid (Most s (150000 * (i + 1)) (3 * (i + 1))) := Lib.hid (Hi.out.most.more (by omega) (by omega))
                        obtain ⟨w6, hw6⟩ : ∃ w6, w6 = wo := ⟨_, rfl⟩
                        obtain ⟨F5, hF5⟩ : ∃ F5, F5 = F' := ⟨_, rfl⟩
                        obtain ⟨v6, hv6⟩ : ∃ v6, v6 = v' := ⟨_, rfl⟩
                        obtain ⟨d5, hd5⟩ : ∃ d5, d5 = s := ⟨_, rfl⟩
                        have T6 : Hid (Both w.heap.size w6 a F5 r v6 d5) := Lib.hid (by rw [hw6, hF5, hv6, hd5]; exact To.out)
                        have B6 : Hid (Below w.heap.size w w6) := Lib.hid (by rw [hw6]; exact BW.out)
                        rw [← hd5] at Hm6
                        rw [← hw6] at Hwo
                        clear hw6 hF5 hv6 hd5
                        have Hf6 := Lib.hid (Hm6.out.fit (by omega) (by omega))
                        by_cases hoff : d5.off = true
                        · have HL := Lib.hid (load_off (load_any a F5 d5 w6 T6.out.l.d Hf6.out T6.out.l.tabF.here) hoff)
                          unfold loadV at HL
                          go_wp2_with fail
                          rw [← Hwo.out]
                          refine HL.out.mono ?_
                          rintro e w7 ⟨rfl, b7⟩
                          have T7 := Lib.hid (T6.out.below b7)
                          have B7 := Lib.hid (B6.out.trans (below_mono' b7 B6.out.size))
                          clear b7 HL
                          have hofc : ∀ o, (w7.alloc o).cell? ⟨r, 3, none⟩ = some (.bool true) := fun o => by
                            have h1 := (T7.out.below (w1 := w7.alloc o) ((Below.refl _ _).alloc (Nat.le_refl _) _)).ref.cells.2.2.2.1
                            rwa [hoff] at h1
                          have hnq := fun W => neq_snap zS zS W
                          rw [show sameS zS zS = true from sameS_iff.2 rfl] at hnq
                          unfold snapV zS at hnq
                          simp only [zS_data, Bool.not_true] at hnq
                          clear hoff
                          go_wp2
                          go_roundw
                          case rel => exact ⟨i + 1, F5, v6, d5, by omega, by go_num, Lib.hid ⟨T7.out.below ((Below.refl _ _).alloc (Nat.le_refl _) _), B7.out.alloc B7.out.size _, Hm6.out⟩⟩
                          case measure => simp [intOf]; omega
                        · have hoff' : d5.off = false := by cases h : d5.off <;> simp_all
                          obtain ⟨o2, ho2⟩ := load_ex d5.files
                          have HL := Lib.hid (T6.out.l.load o2 Hf6.out hoff' ho2)
                          have Ho2 := Lib.hid ho2
                          clear ho2 hoff
                          obtain ⟨xi, xt, xd, bb, hlv, hov, hnq0⟩ := load_shape o2
                          have Hov := Lib.hid hov
                          have Hnq := Lib.hid hnq0
                          clear hov hnq0
                          rw [hlv] at HL
                          go_wp2_with fail
                          rw [← Hwo.out]
                          refine HL.out.mono ?_
                          rintro e w7 ⟨rfl, l7, b7⟩
                          have T7 := Lib.hid (T6.out.below b7)
                          have B7 := Lib.hid (B6.out.trans (below_mono' b7 B6.out.size))
                          clear l7 b7 HL
                          obtain ⟨wb, hwb⟩ : ∃ wb, wb = w7.alloc (.cells #[.int .i64 xi, .int .i64 xt, .string xd] 33) := ⟨_, rfl⟩
                          have Bb : Hid (Below w7.heap.size w7 wb) := Lib.hid (by rw [hwb]; exact (Below.refl _ _).alloc (Nat.le_refl _) _)
                          have Sb : Hid (Box2 wb F5 r v6 w7.heap.size 33 [.int .i64 xi, .int .i64 xt, .string xd]) := Lib.hid (by rw [hwb]; exact T7.out.new _ _)
                          have Tb := Lib.hid (T7.out.below Bb.out)
                          have BB := Lib.hid (B7.out.trans (below_mono' Bb.out B7.out.size))
                          have Hwb := Lib.hid hwb
                          obtain ⟨Y, hY⟩ : ∃ Y, Y = w7.heap.size := ⟨_, rfl⟩
                          have HY := Lib.hid hY
                          rw [← hY] at Sb
                          clear hwb hY
                          have hofc : ∀ o, (w7.alloc o).cell? ⟨r, 3, none⟩ = some (.bool false) := fun o => by
                            have h1 := (T7.out.below (w1 := w7.alloc o) ((Below.refl _ _).alloc (Nat.le_refl _) _)).ref.cells.2.2.2.1
                            rwa [hoff'] at h1
                          have HRL := Lib.hid (refLoad_any r v6 d5 wb Tb.out.ref Hf6.out)
                          go_wp2_with fail
                          rw [← Hwb.out, ← HY.out]
                          refine HRL.out.mono ?_
                          rintro e w8 ⟨⟨o3, h3, rfl⟩, b8⟩
                          obtain rfl : o3 = o2 := load_unique (good.rise Tb.out.l.d) h3 Ho2.out
                          have T8 := Lib.hid (Tb.out.below b8)
                          have S8 := Lib.hid (Sb.out.below b8)
                          have B8 := Lib.hid (BB.out.trans (below_mono' b8 BB.out.size))
                          clear h3 b8 HRL hofc
                          obtain ⟨wc, hwc⟩ : ∃ wc, wc = w8.alloc (.cells #[.int .i64 xi, .int .i64 xt, .string xd] 33) := ⟨_, rfl⟩
                          have Bc : Hid (Below w8.heap.size w8 wc) := Lib.hid (by rw [hwc]; exact (Below.refl _ _).alloc (Nat.le_refl _) _)
                          have Tc := Lib.hid (T8.out.below Bc.out)
                          have BC := Lib.hid (B8.out.trans (below_mono' Bc.out B8.out.size))
                          have Sc : Hid (Holds wc w8.heap.size 33 [.int .i64 xi, .int .i64 xt, .string xd]) := Lib.hid (by rw [hwc]; exact Holds.new w8 33 _)
                          have Hwc := Lib.hid hwc
                          obtain ⟨Z, hZ⟩ : ∃ Z, Z = w8.heap.size := ⟨_, rfl⟩
                          have HZ := Lib.hid hZ
                          rw [← hZ] at Sc
                          clear hwc hZ
                          have Sy := Lib.hid (S8.out.below Bc.out)
                          obtain ⟨A6, cap6, hv6⟩ := Tc.out.ref.slice
                          have HSx : Hid (∀ W, Below wc.heap.size wc W → W.cell? ⟨Y, 0, none⟩ = some (.int .i64 xi) ∧ W.cell? ⟨Y, 1, none⟩ = some (.int .i64 xt) ∧ W.cell? ⟨Y, 2, none⟩ = some (.string xd) ∧ W.cell? ⟨Z, 0, none⟩ = some (.int .i64 xi) ∧ W.cell? ⟨Z, 1, none⟩ = some (.int .i64 xt) ∧ W.cell? ⟨Z, 2, none⟩ = some (.string xd) ∧ W.cell? ⟨r, 0, none⟩ = some (.slice A6 d5.files.length cap6)) := Lib.hid (fun W hb => by
                            obtain ⟨y0, y1, y2⟩ := holds3 (Sy.out.1.below hb Sy.out.1.lt)
                            obtain ⟨z0, z1, z2⟩ := holds3 (Sc.out.below hb Sc.out.lt)
                            have q0 := (Tc.out.below hb).ref.cells.1
                            rw [hv6] at q0
                            exact ⟨y0, y1, y2, z0, z1, z2, q0⟩)
                          have hnq := Hnq.out

                          have Td := Lib.hid (Tc.out.below (w1 := wc.drew) (Below.refl _ _).drew)
                          have BD : Hid (Below w.heap.size w wc.drew) := Lib.hid BC.out.drew
                          have HM := Lib.hid (Td.out.l.names Hf6.out hoff')
                          have Hus : Hid (usedS d5 = usedL d5.files) := Lib.hid (by unfold usedS; rw [if_neg (by rw [hoff']; simp)])
                          have HX0 := Lib.hid (HSx.out wc (Below.refl _ _))
                          have Hv6 := Lib.hid hv6
                          clear hv6 Sy Sc hoff'
                          rw [Hov.out]
                          go_wp2
                          rw [← Hwc.out, ← HZ.out]
                          go_region_held3 (fun W => W.cell? ⟨Y, 0, none⟩ = some (.int .i64 xi) ∧ W.cell? ⟨Y, 1, none⟩ = some (.int .i64 xt) ∧ W.cell? ⟨Y, 2, none⟩ = some (.string xd) ∧ W.cell? ⟨Z, 0, none⟩ = some (.int .i64 xi) ∧ W.cell? ⟨Z, 1, none⟩ = some (.int .i64 xt) ∧ W.cell? ⟨Z, 2, none⟩ = some (.string xd) ∧ W.cell? ⟨r, 0, none⟩ = some (.slice A6 d5.files.length cap6))
                            (first
                              | exact HX0.out
                              | exact HSx.out _ H11.out
                              | exact HSx.out _ H10.out
                              | exact HSx.out _ H9.out
                              | go_keep)
                            (first
                              | (go_at_call 26; refine HM.out.mono ?_; rintro e w9 ⟨A9, cap9, rfl, _, l9, b9⟩; have H9 : Hid (Below wc.heap.size wc w9) := Lib.hid ((Below.refl _ wc).drew.trans b9); have T9 := Lib.hid (Tc.out.below H9.out); have B9 := Lib.hid (BC.out.trans (below_mono' H9.out BC.out.size)); have HU := Lib.hid (good.used a F5 d5 w9 T9.out.l.d Hf6.out); rw [Hus.out] at HU; clear l9 b9 HM)
                              | (go_at_call 27; refine HU.out.mono ?_; rintro e w10 ⟨rfl, b10⟩; have H10 : Hid (Below wc.heap.size wc w10) := Lib.hid (H9.out.trans (below_mono' b10 H9.out.size)); have T10 := Lib.hid (Tc.out.below H10.out); have HV := Lib.hid (refused_any r v6 d5 w10 T10.out.ref Hf6.out); clear b10 HU)
                              | (go_at_call 28; refine HV.out.mono ?_; rintro e w11 ⟨rfl, qq, hw11⟩; have H11 : Hid (Below wc.heap.size wc w11) := Lib.hid (by rw [hw11]; exact below_drewN H10.out qq); have T11 := Lib.hid (Tc.out.below H11.out); have B11 := Lib.hid (BC.out.trans (below_mono' H11.out BC.out.size)); clear hw11 HV)
                              | fail "no arm")
                          go_wp2
                          go_roundw
                          case rel => exact ⟨i + 1, F5, v6, d5, by omega, by go_num, Lib.hid ⟨T11.out, B11.out, Hm6.out⟩⟩
                          case measure => simp [intOf]; omega
      · have hltz : ¬ (i : Int) < (n : Int) := by omega
        go_wp2
        go_ret
        exact ⟨rfl, Hi.out.since⟩
end Go.Proofs.YtmgbmphheagdmaaGreatDoor
