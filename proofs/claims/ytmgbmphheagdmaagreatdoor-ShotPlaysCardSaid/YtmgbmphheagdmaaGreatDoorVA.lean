/-
  The contract of the reference's Whole.
-/
import Derived.Test.YtmgbmphheagdmaaGreatDoorMF
import Derived.Test.YtmgbmphheagdmaaGreatDoorMC
import Derived.Test.YtmgbmphheagdmaaGreatDoorGC
namespace Go.Proofs.YtmgbmphheagdmaaGreatDoor
open Go.RowKit

theorem refdone_at (l : List UInt8) (bad : Bool) (a : Nat) (w : World) (h : RdM 106 w a l bad) :
    Calls Tryz.prog 66 #[.pointer (some ⟨a, 0, none⟩)] w fun e w' => e = .returned (.bool (decide (bad = false ∧ l = []))) ∧ w' = w :=
  (refdone_any l bad a w h).mono fun _ _ ⟨he, hw⟩ => ⟨by
    rw [he]
    congr 2
    unfold endV
    cases bad <;> cases l <;> simp, hw⟩
theorem RdM.set {w : World} {a x : Nat} {l : List UInt8} {bad : Bool} (h : RdM 106 w a l bad) (hx : a ≠ x) (i : Nat) (v : Value) : RdM 106 (w.setCell ⟨x, i, none⟩ v) a l bad := by
  obtain ⟨s, h1, h2⟩ := h
  exact ⟨s, h1.aside (a := ⟨x, i, none⟩) hx v, h2⟩

set_option maxRecDepth 100000 in
set_option maxHeartbeats 4000000 in
theorem refWhole_any (f c : List UInt8) (w : World) (hl : c.length ≤ 1000000000) : Calls Tryz.prog 38 #[.string (bs f), .string (bs c)] w (SnapRet f c w) := by
  have hsz : (bs c).size = c.length := bs_size _
  by_cases h4 : c.length < 4
  · have HU : Hid (snapO f c = none) := Lib.hid (by unfold snapO; rw [if_neg (fun h => by omega)])
    have h4z : ((c.length : Nat) : Int) < 4 := by omega
    clear hl
    generalize bs c = S at *
    generalize bs f = N at *
    go_enter Tryz.func38, Tryz.ntmps38
    go_wp2
    refine bodyPost_ret (v := optV none) (by simp [results, Tryz.results38, go_sem, optV]) rfl ⟨by rw [HU.out], ?_⟩
    exact (Below.refl _ _).alloc (Nat.le_refl _) _
  · have h4z : ¬ ((c.length : Nat) : Int) < 4 := by omega
    have hle4 : (4 : Int) ≤ (c.length : Int) := by omega
    obtain ⟨P, hP⟩ : ∃ P, P = c.drop 4 := ⟨_, rfl⟩
    have hex4 : (bs c).extract 4 c.length = bs P := by
      rw [← bs_bl ((bs c).extract 4 c.length), bl_extract, bl_bs, List.take_of_length_le (by rw [List.length_drop]; omega), hP]
    have hPl : P.length ≤ 1000000000 := by rw [hP, List.length_drop]; omega
    obtain ⟨wb, hwb⟩ : ∃ wb, wb = ((w.alloc (.cells #[.int .i64 0, .int .i64 0, .string { data := #[] }] 33)).alloc (.cells #[.string (bs P), .bool false] 106)).alloc (.cells #[.int .i64 0, .int .i64 0, .string { data := #[] }] 33) := ⟨_, rfl⟩
    obtain ⟨g, hg⟩ : ∃ g, g = w.heap.size := ⟨_, rfl⟩
    obtain ⟨a, ha⟩ : ∃ a, a = w.heap.size + 1 := ⟨_, rfl⟩
    obtain ⟨x, hx⟩ : ∃ x, x = w.heap.size + 1 + 1 := ⟨_, rfl⟩
    have HB : Hid (Holds wb g 33 zero3) := Lib.hid (by rw [hwb, hg]; exact ((Holds.new w 33 _).alloc _).alloc _)
    have Ra : Hid (RdM 106 wb a P false) := Lib.hid (by
      have h1 := (Holds.new (w.alloc (.cells #[.int .i64 0, .int .i64 0, .string { data := #[] }] 33)) 106 #[.string (bs P), .bool false]).alloc (.cells #[.int .i64 0, .int .i64 0, .string { data := #[] }] 33)
      simp only [World.size_alloc] at h1
      exact ⟨bs P, by rw [hwb, ha]; exact h1, bl_bs P, fun h => by cases h⟩)
    have Hx0 : Hid (Holds wb x 33 [.int .i64 0, .int .i64 0, .string { data := #[] }]) := Lib.hid (by
      have h1 := Holds.new ((w.alloc (.cells #[.int .i64 0, .int .i64 0, .string { data := #[] }] 33)).alloc (.cells #[.string (bs P), .bool false] 106)) 33 #[.int .i64 0, .int .i64 0, .string { data := #[] }]
      simp only [World.size_alloc] at h1
      rw [hwb, hx]; exact h1)
    have Bb : Hid (Below w.heap.size w wb) := Lib.hid (by rw [hwb]; exact (((Below.refl _ _).alloc (Nat.le_refl _) _).alloc (by simp) _).alloc (by simp; omega) _)
    have Hwb := Lib.hid hwb
    have Hg := Lib.hid hg
    have Hax := Lib.hid (And.intro ha hx)
    have Hne : Hid (some g ≠ some a ∧ some x ≠ some a ∧ a ≠ x ∧ g ≠ x ∧ w.heap.size ≤ x) := Lib.hid (by rw [hg, ha, hx]; refine ⟨fun e => ?_, fun e => ?_, by omega, by omega, by omega⟩ <;> (injection e with e; omega))
    have Hka : Hid (∀ k, some a = some k → w.heap.size ≤ k) := Lib.hid (fun k hk => by injection hk with hk; omega)
    obtain ⟨q1, e1⟩ : ∃ q, q = rdN 4611686018427387903 P false := ⟨_, rfl⟩
    obtain ⟨q2, e2⟩ : ∃ q, q = rdN 4611686018427387903 q1.2.1 q1.2.2 := ⟨_, rfl⟩
    obtain ⟨q3, e3⟩ : ∃ q, q = rdT 1048576 q2.2.1 q2.2.2 := ⟨_, rfl⟩
    have L1 : q1.2.1.length ≤ 1000000000 := by rw [e1]; exact Nat.le_trans (rdN_length _ _ _) hPl
    have L2 : q2.2.1.length ≤ 1000000000 := by rw [e2]; exact Nat.le_trans (rdN_length _ _ _) L1
    have L3 : q3.1.length ≤ 1000000000 := by rw [e3]; exact Nat.le_trans rdT_most L2
    obtain ⟨r, hr⟩ : ∃ r : Sh, r = ⟨q1.1, q2.1, q3.1⟩ := ⟨_, rfl⟩
    have Hq3 : Hid ((rd3 (c.drop 4)).q3 = q3) := Lib.hid (by rw [← hP]; unfold rd3 mostN; simp only [← e1, ← e2, ← e3])
    have Hrd : Hid (rdS (rd3 (c.drop 4)) = r) := Lib.hid (by rw [← hP, hr]; unfold rdS rd3 mostN; simp only [← e1, ← e2, ← e3])
    have Hsn : Hid (snapO f c = if okS r ∧ shotL r.i.toNat = f ∧ textS r = c then some r else none) := Lib.hid (by
      unfold snapO
      rw [Hrd.out]
      by_cases h : okS r ∧ shotL r.i.toNat = f ∧ textS r = c
      · rw [if_pos h, if_pos ⟨by omega, h⟩]
      · rw [if_neg h, if_neg (fun g => h g.2)])
    have Hdn : Hid (¬ (q3.2.2 = false ∧ q3.2.1 = []) → snapO f c = none) := Lib.hid (fun h => by
      cases hs : snapO f c with
      | none => rfl
      | some s =>
        obtain ⟨h1, _, h3⟩ := snapO_some hs
        have e : c.drop 4 = bodyS s := by rw [h3]; rfl
        have := (rd3_body h1).1
        rw [← e, Hq3.out] at this
        exact absurd ⟨by rw [this], by rw [this]⟩ h)
    have HL := Lib.hid (And.intro hPl (And.intro L1 L2))
    have HE := Lib.hid (And.intro e1 (And.intro e2 e3))
    have HV := Lib.hid (fun (W : World) => refRight_any r W (by rw [hr]; show q3.1.length ≤ _; omega))
    have hri : r.i = ((q1.1 : Nat) : Int) := by rw [hr]
    have HF := Lib.hid (fun (W : World) (hok : okS r) => refFile_any q1.1 W (by have := hok.2.1; rw [hri] at this; omega))
    have Hfi : Hid (shotL q1.1 = shotL r.i.toNat) := Lib.hid (by rw [hri]; rfl)
    have HC := Lib.hid (fun (W : World) (hok : okS r) => refText_any r W hok)
    have hrV : snapV r = .agg #[.int .i64 q1.1, .int .i64 q2.1, .string (bs q3.1)] := by rw [hr]; rfl
    rw [hrV] at HV HC
    have HrV := Lib.hid hrV
    rw [Hfi.out] at HF
    clear hwb hg ha hx hP L1 L2 L3 e1 e2 e3 hPl hrV hr hl h4 hri
    have S7 := Lib.hid (refrd_any 4611686018427387903 P false a wb Ra.out HL.out.1)
    rw [← HE.out.1] at S7
    go_enter Tryz.func38, Tryz.ntmps38
    go_wp2_with fail
    rw [← Hwb.out, ← Hax.out.2, ← Hax.out.1, ← Hg.out]
    refine S7.out.mono ?_
    rintro e w6 ⟨rfl, hr6, hg6⟩
    have H6 := Lib.hid (HB.out.grown hg6 Hne.out.1)
    have X6 := Hx0.out.grown hg6 Hne.out.2.1
    have B6 := Lib.hid (Bb.out.grown hg6 Bb.out.size Hka.out)
    have y0 := (holds3 X6).1
    have f0 := (frozen3 X6).1
    obtain ⟨w7, hw7⟩ : ∃ w7, w7 = w6.setCell ⟨x, 0, none⟩ (.int .i64 q1.1) := ⟨_, rfl⟩
    have H7 : Hid (Holds w7 g 33 zero3) := Lib.hid (by rw [hw7]; exact H6.out.aside (a := ⟨x, 0, none⟩) Hne.out.2.2.2.1 _)
    have X7 : Hid (Holds w7 x 33 [.int .i64 q1.1, .int .i64 0, .string { data := #[] }]) := Lib.hid (by rw [hw7]; exact X6.set 0 _)
    have B7 : Hid (Below w.heap.size w w7) := Lib.hid (by rw [hw7]; exact B6.out.setCell (p := ⟨x, 0, none⟩) Hne.out.2.2.2.2 _)
    have R7 : RdM 106 w7 a q1.2.1 q1.2.2 := by rw [hw7]; exact hr6.set Hne.out.2.2.1 _ _
    have S8 := Lib.hid (refrd_any 4611686018427387903 q1.2.1 q1.2.2 a w7 R7 HL.out.2.1)
    rw [← HE.out.2.1] at S8
    have Hw7 := Lib.hid hw7
    clear hr6 hg6 S7 HB Bb X6 H6 B6 R7 hw7 Hx0 Ra
    go_wp2_with fail
    rw [← Hw7.out]
    refine S8.out.mono ?_
    rintro e w8 ⟨rfl, hr8, hg8⟩
    clear y0 f0
    have H8 := Lib.hid (H7.out.grown hg8 Hne.out.1)
    have X8 := X7.out.grown hg8 Hne.out.2.1
    have B8 := Lib.hid (B7.out.grown hg8 B7.out.size Hka.out)
    have y1 := (holds3 X8).2.1
    have f1 := (frozen3 X8).2.1
    obtain ⟨w9, hw9⟩ : ∃ w9, w9 = w8.setCell ⟨x, 1, none⟩ (.int .i64 q2.1) := ⟨_, rfl⟩
    have H9 : Hid (Holds w9 g 33 zero3) := Lib.hid (by rw [hw9]; exact H8.out.aside (a := ⟨x, 1, none⟩) Hne.out.2.2.2.1 _)
    have X9 : Hid (Holds w9 x 33 [.int .i64 q1.1, .int .i64 q2.1, .string { data := #[] }]) := Lib.hid (by rw [hw9]; exact X8.set 1 _)
    have B9 : Hid (Below w.heap.size w w9) := Lib.hid (by rw [hw9]; exact B8.out.setCell (p := ⟨x, 1, none⟩) Hne.out.2.2.2.2 _)
    have R9 : RdM 106 w9 a q2.2.1 q2.2.2 := by rw [hw9]; exact hr8.set Hne.out.2.2.1 _ _
    have S10 := Lib.hid (reftext_any 1048576 q2.2.1 q2.2.2 a w9 R9 HL.out.2.2)
    rw [← HE.out.2.2] at S10
    have Hw9 := Lib.hid hw9
    clear hr8 hg8 S8 X8 H8 B8 R9 hw9 H7 X7 B7 Hw7
    go_wp2_with fail
    rw [← Hw9.out]
    refine S10.out.mono ?_
    rintro e w10 ⟨rfl, hr10, hg10⟩
    clear y1 f1
    have H10 := Lib.hid (H9.out.grown hg10 Hne.out.1)
    have X10 := X9.out.grown hg10 Hne.out.2.1
    have B10 := Lib.hid (B9.out.grown hg10 B9.out.size Hka.out)
    have y2 := (holds3 X10).2.2
    have f2 := (frozen3 X10).2.2
    obtain ⟨w11, hw11⟩ : ∃ w11, w11 = w10.setCell ⟨x, 2, none⟩ (.string (bs q3.1)) := ⟨_, rfl⟩
    have H11 : Hid (Holds w11 g 33 zero3) := Lib.hid (by rw [hw11]; exact H10.out.aside (a := ⟨x, 2, none⟩) Hne.out.2.2.2.1 _)
    have X11 : Hid (Holds w11 x 33 [.int .i64 q1.1, .int .i64 q2.1, .string (bs q3.1)]) := Lib.hid (by rw [hw11]; exact X10.set 2 _)
    have B11 : Hid (Below w.heap.size w w11) := Lib.hid (by rw [hw11]; exact B10.out.setCell (p := ⟨x, 2, none⟩) Hne.out.2.2.2.2 _)
    have R11 : RdM 106 w11 a q3.2.1 q3.2.2 := by rw [hw11]; exact hr10.set Hne.out.2.2.1 _ _
    have S12 := Lib.hid (refdone_at q3.2.1 q3.2.2 a w11 R11)
    have Hw11 := Lib.hid hw11
    clear hr10 hg10 S10 X10 H10 B10 R11 hw11 H9 X9 B9 Hw9
    go_wp2_with fail
    rw [← Hw11.out]
    refine S12.out.mono ?_
    rintro e w12 ⟨rfl, hw12⟩
    replace hw12 := hw12.symm
    subst hw12
    clear y2 f2 S12 Hw11
    obtain ⟨y0, y1, y2⟩ := holds3 X11.out
    by_cases hdn : q3.2.2 = false ∧ q3.2.1 = []
    · rw [decide_eq_true hdn]
      clear hdn
      go_wp2_with fail
      refine (HV.out _).mono ?_
      rintro e w13 ⟨rfl, hb13⟩
      have H13 := Lib.hid (H11.out.below hb13 H11.out.lt)
      have X13 := Lib.hid (X11.out.below hb13 X11.out.lt)
      have B13 := Lib.hid (B11.out.trans (below_mono' hb13 B11.out.size))
      clear hb13 H11 X11 B11 HV y0 y1 y2
      by_cases hok : okS r
      · rw [decide_eq_true hok]
        obtain ⟨y0, y1, y2⟩ := holds3 X13.out
        have HF2 := Lib.hid (HF.out w13 hok)
        have Hok := Lib.hid hok
        clear hok HF
        go_wp2_with fail
        refine HF2.out.mono ?_
        rintro e w14 ⟨rfl, hb14⟩
        have H14 := Lib.hid (H13.out.below hb14 H13.out.lt)
        have X14 := Lib.hid (X13.out.below hb14 X13.out.lt)
        have B14 := Lib.hid (B13.out.trans (below_mono' hb14 B13.out.size))
        clear hb14 H13 X13 B13 HF2 y0 y1 y2
        by_cases hfn : shotL r.i.toNat = f
        · have hne : ((bs (shotL r.i.toNat)).toList == (bs f).toList) = true := by rw [hfn]; simp
          have Hfn := Lib.hid hfn
          obtain ⟨y0, y1, y2⟩ := holds3 X14.out
          have HC2 := Lib.hid (HC.out w14 Hok.out)
          clear hfn HC
          generalize bs (shotL r.i.toNat) = nm at *
          go_wp2_with fail
          refine HC2.out.mono ?_
          rintro e w15 ⟨rfl, hb15⟩
          have H15 := Lib.hid (H14.out.below hb15 H14.out.lt)
          have X15 := Lib.hid (X14.out.below hb15 X14.out.lt)
          have B15 := Lib.hid (B14.out.trans (below_mono' hb15 B14.out.size))
          clear hb15 H14 X14 B14 HC2 y0 y1 y2
          obtain ⟨y0, y1, y2⟩ := holds3 X15.out
          obtain ⟨c0, c1, c2⟩ := holds3 H15.out
          obtain ⟨f0, f1, f2⟩ := frozen3 H15.out
          by_cases hcn : textS r = c
          · have hne2 : ((bs (textS r)).toList == (bs c).toList) = true := by rw [hcn]; simp
            have Hres : Hid (snapO f c = some r) := Lib.hid (by rw [Hsn.out, if_pos ⟨Hok.out, Hfn.out, hcn⟩])
            clear hcn
            generalize bs (textS r) = tx at *
            go_wp2
            change bodyPost Tryz.prog Tryz.f38 (SnapRet f c w) Exit.ret _ (set3 w15 g (.int .i64 q1.1) (.int .i64 q2.1) (.string (bs q3.1)))
            have HX := set3_holds H15.out (.int .i64 q1.1) (.int .i64 q2.1) (.string (bs q3.1))
            have BX := Lib.hid (set3_below B15.out (Nat.le_of_eq Hg.out.symm) (.int .i64 q1.1) (.int .i64 q2.1) (.string (bs q3.1)))
            generalize set3 w15 g (.int .i64 q1.1) (.int .i64 q2.1) (.string (bs q3.1)) = wx at *
            obtain ⟨x0, x1, x2⟩ := holds3 HX
            exact bodyPost_ret (v := .tuple #[.agg #[.int .i64 q1.1, .int .i64 q2.1, .string (bs q3.1)], .bool true]) (by simp [results, Tryz.results38, go_sem, x0, x1, x2]) rfl ⟨by rw [Hres.out]; show _ = Ending.returned (.tuple #[snapV r, .bool true]); rw [HrV.out], BX.out⟩
          · have hne2 : ((bs (textS r)).toList == (bs c).toList) = false := by
              rw [beq_eq_false_iff_ne, bl_toList, bl_toList, bl_bs, bl_bs]; exact hcn
            have Hres : Hid (snapO f c = none) := Lib.hid (by rw [Hsn.out, if_neg (fun h => hcn h.2.2)])
            clear hcn
            generalize bs (textS r) = tx at *
            go_wp2
            change bodyPost Tryz.prog Tryz.f38 (SnapRet f c w) Exit.ret _ (set3 w15 g (.int .i64 0) (.int .i64 0) (.string { data := #[] }))
            have HX := set3_holds H15.out (.int .i64 0) (.int .i64 0) (.string { data := #[] })
            have BX := Lib.hid (set3_below B15.out (Nat.le_of_eq Hg.out.symm) (.int .i64 0) (.int .i64 0) (.string { data := #[] }))
            generalize set3 w15 g (.int .i64 0) (.int .i64 0) (.string { data := #[] }) = wx at *
            obtain ⟨x0, x1, x2⟩ := holds3 HX
            exact bodyPost_ret (v := optV none) (by simp [results, Tryz.results38, go_sem, x0, x1, x2, optV]) rfl ⟨by rw [Hres.out], BX.out⟩
        · have hne : ((bs (shotL r.i.toNat)).toList == (bs f).toList) = false := by
            rw [beq_eq_false_iff_ne, bl_toList, bl_toList, bl_bs, bl_bs]; exact hfn
          have Hres : Hid (snapO f c = none) := Lib.hid (by rw [Hsn.out, if_neg (fun h => hfn h.2.1)])
          obtain ⟨c0, c1, c2⟩ := holds3 H14.out
          obtain ⟨f0, f1, f2⟩ := frozen3 H14.out
          clear hfn
          generalize bs (shotL r.i.toNat) = nm at *
          go_wp2
          change bodyPost Tryz.prog Tryz.f38 (SnapRet f c w) Exit.ret _ (set3 w14 g (.int .i64 0) (.int .i64 0) (.string { data := #[] }))
          have HX := set3_holds H14.out (.int .i64 0) (.int .i64 0) (.string { data := #[] })
          have BX := Lib.hid (set3_below B14.out (Nat.le_of_eq Hg.out.symm) (.int .i64 0) (.int .i64 0) (.string { data := #[] }))
          generalize set3 w14 g (.int .i64 0) (.int .i64 0) (.string { data := #[] }) = wx at *
          obtain ⟨x0, x1, x2⟩ := holds3 HX
          exact bodyPost_ret (v := optV none) (by simp [results, Tryz.results38, go_sem, x0, x1, x2, optV]) rfl ⟨by rw [Hres.out], BX.out⟩
      · rw [decide_eq_false hok]
        have Hres : Hid (snapO f c = none) := Lib.hid (by rw [Hsn.out, if_neg (fun h => hok h.1)])
        obtain ⟨c0, c1, c2⟩ := holds3 H13.out
        obtain ⟨f0, f1, f2⟩ := frozen3 H13.out
        clear hok
        go_wp2
        change bodyPost Tryz.prog Tryz.f38 (SnapRet f c w) Exit.ret _ (set3 w13 g (.int .i64 0) (.int .i64 0) (.string { data := #[] }))
        have HX := set3_holds H13.out (.int .i64 0) (.int .i64 0) (.string { data := #[] })
        have BX := Lib.hid (set3_below B13.out (Nat.le_of_eq Hg.out.symm) (.int .i64 0) (.int .i64 0) (.string { data := #[] }))
        generalize set3 w13 g (.int .i64 0) (.int .i64 0) (.string { data := #[] }) = wx at *
        obtain ⟨x0, x1, x2⟩ := holds3 HX
        exact bodyPost_ret (v := optV none) (by simp [results, Tryz.results38, go_sem, x0, x1, x2, optV]) rfl ⟨by rw [Hres.out], BX.out⟩
    · rw [decide_eq_false hdn]
      have Hres := Lib.hid (Hdn.out hdn)
      obtain ⟨c0, c1, c2⟩ := holds3 H11.out
      obtain ⟨f0, f1, f2⟩ := frozen3 H11.out
      clear hdn
      go_wp2
      change bodyPost Tryz.prog Tryz.f38 (SnapRet f c w) Exit.ret _ (set3 w11 g (.int .i64 0) (.int .i64 0) (.string { data := #[] }))
      have HX := set3_holds H11.out (.int .i64 0) (.int .i64 0) (.string { data := #[] })
      have BX := Lib.hid (set3_below B11.out (Nat.le_of_eq Hg.out.symm) (.int .i64 0) (.int .i64 0) (.string { data := #[] }))
      generalize set3 w11 g (.int .i64 0) (.int .i64 0) (.string { data := #[] }) = wx at *
      obtain ⟨x0, x1, x2⟩ := holds3 HX
      exact bodyPost_ret (v := optV none) (by simp [results, Tryz.results38, go_sem, x0, x1, x2, optV]) rfl ⟨by rw [Hres.out], BX.out⟩
end Go.Proofs.YtmgbmphheagdmaaGreatDoor
